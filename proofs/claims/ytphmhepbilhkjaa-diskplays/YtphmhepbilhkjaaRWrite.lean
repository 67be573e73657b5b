/- The document's own disk is written. -/
import Derived.Test.YtphmhepbilhkjaaFillS
namespace Go.Proofs.Ytphmhepbilhkjaa
open Go.RowKit Go.Extern

theorem map_set2 {T : List (Value × Sec)} {i : Nat} {u : Value} {s : Sec} : (T.set i (u, s)).map (·.2) = (T.map (·.2)).set i s := by rw [List.map_set]

set_option maxRecDepth 100000 in
set_option maxHeartbeats 2000000 in
theorem rwrite_any {w : World} {G : Nat → Prop} {b : Nat} {S : List Sec} (h : Rk w G b S) (i : Int) (dv : Value) (d : List Nat) (hd : Bytes w dv d) (hww : ∀ s ∈ S, s.wait.length < 1000000) :
    Calls Try.prog 32 #[.pointer (some ⟨b, 0, none⟩), .int .i64 i, dv] w (RTurned G b (wSet S i d) (.int .i64 (wErr S i d)) w) := by
  have HH := hide (rhas_any h i)
  have HR := hide h
  have HDB := hide hd
  obtain ⟨aod, capd, gd, offd, rfl, -⟩ := hd
  by_cases hyes : hasB S i = true ∧ d.length = 128
  · obtain ⟨hh, hl⟩ := hyes
    have HLD := hide hl
    have hwe : wErr S i d = 0 := by unfold wErr; rw [if_pos hh, if_pos hl]
    rw [hwe]
    rw [hh] at HH
    obtain ⟨k, s, rfl, hs⟩ := hasB_at hh
    have hws : wSet S (k : Int) d = S.set k { s with wait := s.wait ++ [d] } := by unfold wSet; rw [if_pos ⟨hh, hl⟩, Int.toNat_natCast, hs]
    rw [hws]
    obtain ⟨v, T, hat, hTS⟩ := h
    obtain ⟨u, hu⟩ := RkAt.get hTS hs
    have hwl := hww s (List.mem_of_getElem? hs)
    obtain ⟨tn, htn⟩ : ∃ tn, T.length = tn := ⟨_, rfl⟩
    obtain ⟨ao, cap, hvf⟩ := hat.form
    rw [htn] at hvf
    subst hvf
    have c0 := hat.cell
    obtain ⟨g, rfl, -, c1, -, cur, hgc⟩ := hat.at_ hu
    have hval := hat.val k _ hu
    have hkT : k < tn := by rw [← htn]; exact (List.getElem?_eq_some_iff.1 hu).1
    have hk1 : (k : Int) < (tn : Int) := by omega
    have hk0 : (0 : Int) ≤ (k : Int) := by omega
    obtain ⟨aou, capu, huf⟩ := hval.form
    simp only at huf
    subst huf
    obtain ⟨v1, w1, hr1, hv1, hb1, hn1, ao1, n1, cp1, rfl⟩ := hval.copy (show s.wait.length ≤ 1000000 by omega)
    simp only [List.length_cons] at c1 hr1
    have HAT := hide hat
    have HTS := hide hTS
    have HU := hide hu
    have HV1 := hide hv1
    have HB1 := hide hb1
    have HN1 := hide hn1
    have HWL := hide hwl
    have HGC := hide hgc
    have hc0' : w1.cell? ⟨b, 0, none⟩ = some (.slice (some ⟨g, 0, none⟩) tn cap) := by rw [hb1.cell (cell_lt c0)]; exact c0
    have HC0 := hide hc0'
    have HCP := hide (copy_any d (.slice aod d.length capd) w1.drew (HDB.out.below hb1.drew))
    have hdl : ((d.length : Int) != 128) = false := by simp; omega
    generalize s.wait.length = wl at c1 hr1
    obtain ⟨dn, hdn⟩ : ∃ dn, d.length = dn := ⟨_, rfl⟩
    rw [hdn] at hdl HCP ⊢
    clear hh hl hat hTS hu hv1 hb1 hn1 hval hs hws hwe hww hwl htn hc0' hgc hdn
    go_enter Try.func32, Try.ntmps32
    go_wp2_with (first | (go_at_call 21; refine HH.out.mono ?_; rintro e w' ⟨rfl, hww⟩; obtain rfl : w = w' := hww.symm) | ((with_reducible refine wpList_appendL rfl rfl hr1 ?_ ?_ ?_ ?_); rfl; rfl; rfl))
    clear hr1 HH
    refine wp_region_held_drew (S := fun wx => wx.cell? ⟨b, 0, none⟩ = some (.slice (some ⟨g, 0, none⟩) tn cap)) (by kernel_rfl) HC0.out (fun hS => ?_)
    refine take_run 0 (some 25) (.pointer (some ⟨b, 0, none⟩)) rfl rfl rfl (by kernel_rfl) (by kernel_rfl) (by kernel_rfl) (fun _ _ _ h => h) (fun wx hx => exec_move rfl rfl) hS ?_
    simp only [Act.put, List.setIfInBounds_toArray, List.set_cons_zero, List.set_cons_succ]
    refine take_run 1 (some 26) (.pointer (some ⟨b, 0, none⟩)) rfl rfl rfl (by kernel_rfl) (by kernel_rfl) (by kernel_rfl) (fun _ _ _ h => h) (fun wx hx => exec_nilCheck rfl rfl) hS ?_
    simp only [Act.put, List.setIfInBounds_toArray, List.set_cons_zero, List.set_cons_succ]
    refine take_run 2 (some 27) (.pointer (some ⟨b, 0, none⟩)) rfl rfl rfl (by kernel_rfl) (by kernel_rfl) (by kernel_rfl) (fun _ _ _ h => h) (fun wx hx => exec_field rfl (rfield0 b wx) rfl) hS ?_
    simp only [Act.put, List.setIfInBounds_toArray, List.set_cons_zero, List.set_cons_succ]
    refine take_run 3 (some 28) (.slice (some ⟨g, 0, none⟩) tn cap) rfl rfl rfl (by kernel_rfl) (by kernel_rfl) (by kernel_rfl) (fun _ _ _ h => h) (fun wx hx => exec_load rfl (load_rsectors hx) rfl) hS ?_
    simp only [Act.put, List.setIfInBounds_toArray, List.set_cons_zero, List.set_cons_succ]
    refine take_run 4 (some 29) (.int .i64 (k : Int)) rfl rfl rfl (by kernel_rfl) (by kernel_rfl) (by kernel_rfl) (fun _ _ _ h => h) (fun wx hx => exec_move rfl rfl) hS ?_
    simp only [Act.put, List.setIfInBounds_toArray, List.set_cons_zero, List.set_cons_succ]
    refine take_run 5 (some 30) (.slice ao1 n1 cp1) rfl rfl rfl (by kernel_rfl) (by kernel_rfl) (by kernel_rfl) (fun _ _ _ h => h) (fun wx hx => exec_move rfl rfl) hS ?_
    simp only [Act.put, List.setIfInBounds_toArray, List.set_cons_zero, List.set_cons_succ]
    refine take_run 6 (some 31) (.slice aod dn capd) rfl rfl rfl (by kernel_rfl) (by kernel_rfl) (by kernel_rfl) (fun _ _ _ h => h) (fun wx hx => exec_move rfl rfl) hS ?_
    simp only [Act.put, List.setIfInBounds_toArray, List.set_cons_zero, List.set_cons_succ]
    refine only_call 7 (some 32) rfl rfl rfl (by kernel_rfl) (exec_call1 rfl enterCopy rfl rfl) (HCP.out.mono ?_)
    rintro e w2 ⟨u2, rfl, hu2, hb2⟩
    have hc2 : w2.cell? ⟨b, 0, none⟩ = some (.slice (some ⟨g, 0, none⟩) tn cap) := by rw [hb2.cell (cell_lt hS)]; exact hS
    refine ⟨u2, rfl, hc2, ?_⟩
    obtain ⟨ao2, cp2, rfl⟩ := hu2.form
    simp only [Act.put, List.setIfInBounds_toArray, List.set_cons_zero, List.set_cons_succ]
    have hz1 := HB1.out.size
    have hz2 : w1.heap.size ≤ w2.heap.size := hb2.size
    have hb12 : Below w1.heap.size w1 w2 := ⟨hb2.os, hb2.tape, hb2.output, hb2.size, hb2.block⟩
    have hv2 : HadG (ext G w w2) w2 (.slice ao1 n1 cp1) (s.dur :: s.wait) := HV1.out.keep (fun k _ hk => hb12.block k hk.lt) (fun k hk _ => ext_mono hz2 k hk)
    obtain ⟨v3, w5, hr5, hv5, hb5, ao5, n5, cp5, rfl⟩ := hv2.append (B := w.heap.size) ao2 d.length cp2 (hu2.base (Nat.zero_le _)) (fun k hk => by have := hu2.lt k hk; exact .inr ⟨by have h1 : w1.heap.size ≤ k := this.1; omega, this.2⟩) (by simp; have := HWL.out; omega) (by omega) HN1.out
    have hb05 : Below w.heap.size w w5 := HB1.out.trans ((hb12.mono hz1).trans hb5)
    have hz5 := hb5.size
    have hat5 := HAT.out.below hb05
    obtain ⟨g5, e5, -, c5, -, cur5, hg5⟩ := hat5.at_ HU.out
    obtain rfl : g = g5 := by simpa using e5
    obtain ⟨hat6, htn6⟩ := HAT.out.values (s' := { s with wait := s.wait ++ [d] }) HU.out hb05 (hv5.keep (fun _ _ _ => rfl) (fun k hk _ => ext_ext (by omega) hz5 k hk)) rfl
    have h2S : (w2.alloc (.cells #[.slice ao2 d.length cp2] 32)).cell? ⟨b, 0, none⟩ = some (.slice (some ⟨g, 0, none⟩) tn cap) := by rw [((Below.refl w2.heap.size w2).alloc (Nat.le_refl _) _).cell (cell_lt hc2)]; exact hc2
    refine only_value 8 (some 33) rfl rfl rfl (by kernel_rfl) (exec_one rfl (run_oneB w2 _ _ _) rfl) h2S ?_
    simp only [Act.put, List.setIfInBounds_toArray, List.set_cons_zero, List.set_cons_succ]
    refine only_value 9 (some 34) rfl rfl rfl (by kernel_rfl) (exec_append rfl hr5 rfl rfl) hat5.cell ?_
    simp only [Act.put, List.setIfInBounds_toArray, List.set_cons_zero, List.set_cons_succ]
    refine only_value 10 (some 35) (v := .pointer (some ⟨g, k * 2, none⟩)) rfl rfl rfl (by kernel_rfl) (exec_index rfl (index_rsec hkT) rfl rfl) hat5.cell ?_
    simp only [Act.put, List.setIfInBounds_toArray, List.set_cons_zero, List.set_cons_succ]
    refine only_value 11 (some 36) (v := .pointer (some ⟨g, k * 2, none⟩)) rfl rfl rfl (by kernel_rfl) (exec_field rfl (rsField0 g _ _) rfl) hat5.cell ?_
    simp only [Act.put, List.setIfInBounds_toArray, List.set_cons_zero, List.set_cons_succ]
    refine only_skip 12 none rfl rfl rfl (by kernel_rfl) (exec_store rfl (store_bytess _ _ _ c5 (row_frozen hg5 _)) rfl rfl) hat6.cell ?_
    refine wpAnyH_done (by kernel_rfl) ?_ _
    have HFIN : Hid (RTurned G b (S.set k { s with wait := s.wait ++ [d] }) (.int .i64 0) w (.returned (.int .i64 0)) (w5.setCell ⟨g, k * 2, none⟩ (.slice ao5 n5 cp5))) := ⟨rfl, ⟨_, _, hat6, by rw [map_set2, HTS.out]⟩, htn6⟩
    generalize w5.setCell ⟨g, k * 2, none⟩ (.slice ao5 n5 cp5) = w6 at HFIN
    clear hr5 hv5 hb5 hb05 hat5 c5 hg5 hat6 htn6 h2S hu2 hb2 hc2 hb12 hv2 hS HCP
    go_wp2_with fail
    go_ret
    exact HFIN.out
  · rw [wSet_no hyes]
    have HFIN : Hid (∀ z, RTurned G b S (.int .i64 z) w (.returned (.int .i64 z)) w) := fun z => ⟨rfl, HR.out.mono (fun _ h => .inl h), Turn.refl _ _⟩
    cases hh : hasB S i with
    | false =>
      rw [hh] at HH
      have hwe : wErr S i d = 20 := by unfold wErr; rw [hh]; rfl
      rw [hwe]
      clear hyes hww h hh hwe
      go_enter Try.func32, Try.ntmps32
      go_wp2_with (first | (go_at_call 21; refine HH.out.mono ?_; rintro e w' ⟨rfl, hww⟩; obtain rfl : w = w' := hww.symm))
      go_ret
      exact HFIN.out _
    | true =>
      rw [hh] at HH
      have hl : ¬ d.length = 128 := fun e => hyes ⟨hh, e⟩
      have hwe : wErr S i d = 11 := by unfold wErr; rw [if_pos hh, if_neg hl]
      have hdl : ((d.length : Int) != 128) = true := by simp; omega
      rw [hwe]
      clear hyes hww h hh hwe hl
      go_enter Try.func32, Try.ntmps32
      go_wp2_with (first | (go_at_call 21; refine HH.out.mono ?_; rintro e w' ⟨rfl, hww⟩; obtain rfl : w = w' := hww.symm))
      go_ret
      exact HFIN.out _
end Go.Proofs.Ytphmhepbilhkjaa
