import Derived.Test.YtliboiajhhnajaaGreatDoorM14
import Derived.Test.YtliboiajhhnajaaGreatDoorM18
/- The document's own disk is written. -/
namespace Go.Proofs.YtliboiajhhnajaaGreatDoor
open Go.RowKit Go.Extern

theorem map_set2 {T : List (Value × Sec)} {i : Nat} {u : Value} {s : Sec} : (T.set i (u, s)).map (·.2) = (T.map (·.2)).set i s := by rw [List.map_set]

set_option maxRecDepth 100000 in
set_option maxHeartbeats 2000000 in
theorem rwrite_any {w : World} {G : Nat → Prop} {b : Nat} {S : List Sec} (h : Rk w G b S) (i : Int) (dv : Value) (d : List Nat) (hd : Bytes w dv d) (hww : ∀ s ∈ S, s.wait.length < 1000000) :
    Calls Tryz.prog 55 #[.pointer (some ⟨b, 0, none⟩), .int .i64 i, dv] w (RTurned G b (wSet S i d) (.int .i64 (wErr S i d)) w) := by
  have HH := hide (rhas_any h i)
  have HR := hide h
  have HDB := hide hd
  obtain ⟨aod, capd, gd, offd, rfl, -⟩ := hd
  by_cases hyes : hasB S i = true ∧ d.length = 128
  · obtain ⟨hh, hl⟩ := hyes
    have HLD := hide hl
    have hwe : wErr S i d = 0 := by unfold wErr; rw [if_pos hh, if_pos hl]
    rw [hwe]
    rw [hh] at HH
    obtain ⟨k, s, rfl, hs⟩ := hasB_at hh
    have hws : wSet S (k : Int) d = S.set k { s with wait := s.wait ++ [d] } := by unfold wSet; rw [if_pos ⟨hh, hl⟩, Int.toNat_natCast, hs]
    rw [hws]
    obtain ⟨v, T, hat, hTS⟩ := h
    obtain ⟨u, hu⟩ := RkAt.get hTS hs
    have hwl := hww s (List.mem_of_getElem? hs)
    obtain ⟨tn, htn⟩ : ∃ tn, T.length = tn := ⟨_, rfl⟩
    obtain ⟨ao, cap, hvf⟩ := hat.form
    rw [htn] at hvf
    subst hvf
    have c0 := hat.cell
    obtain ⟨g, rfl, -, c1, -, cur, hgc⟩ := hat.at_ hu
    have hval := hat.val k _ hu
    have hkT : k < tn := by rw [← htn]; exact (List.getElem?_eq_some_iff.1 hu).1
    have hk1 : (k : Int) < (tn : Int) := by omega
    have hk0 : (0 : Int) ≤ (k : Int) := by omega
    obtain ⟨aou, capu, huf⟩ := hval.form
    simp only at huf
    subst huf
    obtain ⟨v1, w1, hr1, hv1, hb1, hn1, ao1, n1, cp1, rfl⟩ := hval.copy (show s.wait.length ≤ 1000000 by omega)
    simp only [List.length_cons] at c1 hr1
    have HAT := hide hat
    have HTS := hide hTS
    have HU := hide hu
    have HV1 := hide hv1
    have HB1 := hide hb1
    have HN1 := hide hn1
    have HWL := hide hwl
    have HGC := hide hgc
    have hc0' : w1.cell? ⟨b, 0, none⟩ = some (.slice (some ⟨g, 0, none⟩) tn cap) := by rw [hb1.cell (cell_lt c0)]; exact c0
    have HC0 := hide hc0'
    have HCP := hide (copy_any d (.slice aod d.length capd) w1.drew (HDB.out.below hb1.drew))
    have hdl : ((d.length : Int) != 128) = false := by simp; omega
    generalize s.wait.length = wl at c1 hr1
    obtain ⟨dn, hdn⟩ : ∃ dn, d.length = dn := ⟨_, rfl⟩
    rw [hdn] at hdl HCP ⊢
    clear hh hl hat hTS hu hv1 hb1 hn1 hval hs hws hwe hww hwl htn hc0' hgc hdn
    go_enter Tryz.func55, Tryz.ntmps55
    go_wp2_with (first | (go_at_call 53; refine HH.out.mono ?_; rintro e w' ⟨rfl, hww⟩; obtain rfl : w = w' := hww.symm) | ((with_reducible refine wpList_appendL rfl rfl hr1 ?_ ?_ ?_ ?_); rfl; rfl; rfl))
    clear hr1 HH
    refine wp_region_held_drew (S := fun wx => wx.cell? ⟨b, 0, none⟩ = some (.slice (some ⟨g, 0, none⟩) tn cap)) (by kernel_rfl) HC0.out (fun hS => ?_)
    refine take_run 0 (some 25) (.pointer (some ⟨b, 0, none⟩)) rfl rfl rfl (by kernel_rfl) (by kernel_rfl) (by kernel_rfl) (fun _ _ _ h => h) (fun wx hx => exec_move rfl rfl) hS ?_
    simp only [Act.put, List.setIfInBounds_toArray, List.set_cons_zero, List.set_cons_succ]
    refine take_run 1 (some 26) (.pointer (some ⟨b, 0, none⟩)) rfl rfl rfl (by kernel_rfl) (by kernel_rfl) (by kernel_rfl) (fun _ _ _ h => h) (fun wx hx => exec_nilCheck rfl rfl) hS ?_
    simp only [Act.put, List.setIfInBounds_toArray, List.set_cons_zero, List.set_cons_succ]
    refine take_run 2 (some 27) (.pointer (some ⟨b, 0, none⟩)) rfl rfl rfl (by kernel_rfl) (by kernel_rfl) (by kernel_rfl) (fun _ _ _ h => h) (fun wx hx => exec_field rfl (rfield0 b wx) rfl) hS ?_
    simp only [Act.put, List.setIfInBounds_toArray, List.set_cons_zero, List.set_cons_succ]
    refine take_run 3 (some 28) (.slice (some ⟨g, 0, none⟩) tn cap) rfl rfl rfl (by kernel_rfl) (by kernel_rfl) (by kernel_rfl) (fun _ _ _ h => h) (fun wx hx => exec_load rfl (load_rsectors hx) rfl) hS ?_
    simp only [Act.put, List.setIfInBounds_toArray, List.set_cons_zero, List.set_cons_succ]
    refine take_run 4 (some 29) (.int .i64 (k : Int)) rfl rfl rfl (by kernel_rfl) (by kernel_rfl) (by kernel_rfl) (fun _ _ _ h => h) (fun wx hx => exec_move rfl rfl) hS ?_
    simp only [Act.put, List.setIfInBounds_toArray, List.set_cons_zero, List.set_cons_succ]
    refine take_run 5 (some 30) (.slice ao1 n1 cp1) rfl rfl rfl (by kernel_rfl) (by kernel_rfl) (by kernel_rfl) (fun _ _ _ h => h) (fun wx hx => exec_move rfl rfl) hS ?_
    simp only [Act.put, List.setIfInBounds_toArray, List.set_cons_zero, List.set_cons_succ]
    refine take_run 6 (some 31) (.slice aod dn capd) rfl rfl rfl (by kernel_rfl) (by kernel_rfl) (by kernel_rfl) (fun _ _ _ h => h) (fun wx hx => exec_move rfl rfl) hS ?_
    simp only [Act.put, List.setIfInBounds_toArray, List.set_cons_zero, List.set_cons_succ]
    refine only_call 7 (some 32) rfl rfl rfl (by kernel_rfl) (exec_call1 rfl enterCopy rfl rfl) (HCP.out.mono ?_)
    rintro e w2 ⟨u2, rfl, hu2, hb2⟩
    have hc2 : w2.cell? ⟨b, 0, none⟩ = some (.slice (some ⟨g, 0, none⟩) tn cap) := by rw [hb2.cell (cell_lt hS)]; exact hS
    refine ⟨u2, rfl, hc2, ?_⟩
    obtain ⟨ao2, cp2, rfl⟩ := hu2.form
    simp only [Act.put, List.setIfInBounds_toArray, List.set_cons_zero, List.set_cons_succ]
    have hz1 := HB1.out.size
    have hz2 : w1.heap.size ≤ w2.heap.size := hb2.size
    have hb12 : Below w1.heap.size w1 w2 := ⟨hb2.os, hb2.tape, hb2.output, hb2.size, hb2.block⟩
    have hv2 : HadG (ext G w w2) w2 (.slice ao1 n1 cp1) (s.dur :: s.wait) := HV1.out.keep (fun k _ hk => hb12.block k hk.lt) (fun k hk _ => ext_mono hz2 k hk)
    obtain ⟨v3, w5, hr5, hv5, hb5, ao5, n5, cp5, rfl⟩ := hv2.append (B := w.heap.size) ao2 d.length cp2 (hu2.base (Nat.zero_le _)) (fun k hk => by have := hu2.lt k hk; exact .inr ⟨by have h1 : w1.heap.size ≤ k := this.1; omega, this.2⟩) (by simp; have := HWL.out; omega) (by omega) HN1.out
    have hb05 : Below w.heap.size w w5 := HB1.out.trans ((hb12.mono hz1).trans hb5)
    have hz5 := hb5.size
    have hat5 := HAT.out.below hb05
    obtain ⟨g5, e5, -, c5, -, cur5, hg5⟩ := hat5.at_ HU.out
    obtain rfl : g = g5 := by simpa using e5
    obtain ⟨hat6, htn6⟩ := HAT.out.values (s' := { s with wait := s.wait ++ [d] }) HU.out hb05 (hv5.keep (fun _ _ _ => rfl) (fun k hk _ => ext_ext (by omega) hz5 k hk)) rfl
    have h2S : (w2.alloc (.cells #[.slice ao2 d.length cp2] 28)).cell? ⟨b, 0, none⟩ = some (.slice (some ⟨g, 0, none⟩) tn cap) := by rw [((Below.refl w2.heap.size w2).alloc (Nat.le_refl _) _).cell (cell_lt hc2)]; exact hc2
    refine only_value 8 (some 33) rfl rfl rfl (by kernel_rfl) (exec_one rfl (run_oneB w2 _ _ _) rfl) h2S ?_
    simp only [Act.put, List.setIfInBounds_toArray, List.set_cons_zero, List.set_cons_succ]
    refine only_value 9 (some 34) rfl rfl rfl (by kernel_rfl) (exec_append rfl hr5 rfl rfl) hat5.cell ?_
    simp only [Act.put, List.setIfInBounds_toArray, List.set_cons_zero, List.set_cons_succ]
    refine only_value 10 (some 35) (v := .pointer (some ⟨g, k * 2, none⟩)) rfl rfl rfl (by kernel_rfl) (exec_index rfl (index_rsec hkT) rfl rfl) hat5.cell ?_
    simp only [Act.put, List.setIfInBounds_toArray, List.set_cons_zero, List.set_cons_succ]
    refine only_value 11 (some 36) (v := .pointer (some ⟨g, k * 2, none⟩)) rfl rfl rfl (by kernel_rfl) (exec_field rfl (rsField0 g _ _) rfl) hat5.cell ?_
    simp only [Act.put, List.setIfInBounds_toArray, List.set_cons_zero, List.set_cons_succ]
    refine only_skip 12 none rfl rfl rfl (by kernel_rfl) (exec_store rfl (store_bytess _ _ _ c5 (row_frozen hg5 _)) rfl rfl) hat6.cell ?_
    refine wpAnyH_done (by kernel_rfl) ?_ _
    have HFIN : Hid (RTurned G b (S.set k { s with wait := s.wait ++ [d] }) (.int .i64 0) w (.returned (.int .i64 0)) (w5.setCell ⟨g, k * 2, none⟩ (.slice ao5 n5 cp5))) := ⟨rfl, ⟨_, _, hat6, by rw [map_set2, HTS.out]⟩, htn6⟩
    generalize w5.setCell ⟨g, k * 2, none⟩ (.slice ao5 n5 cp5) = w6 at HFIN
    clear hr5 hv5 hb5 hb05 hat5 c5 hg5 hat6 htn6 h2S hu2 hb2 hc2 hb12 hv2 hS HCP
    go_wp2_with fail
    go_ret
    exact HFIN.out
  · rw [wSet_no hyes]
    have HFIN : Hid (∀ z, RTurned G b S (.int .i64 z) w (.returned (.int .i64 z)) w) := fun z => ⟨rfl, HR.out.mono (fun _ h => .inl h), Turn.refl _ _⟩
    cases hh : hasB S i with
    | false =>
      rw [hh] at HH
      have hwe : wErr S i d = 20 := by unfold wErr; rw [hh]; rfl
      rw [hwe]
      clear hyes hww h hh hwe
      go_enter Tryz.func55, Tryz.ntmps55
      go_wp2_with (first | (go_at_call 53; refine HH.out.mono ?_; rintro e w' ⟨rfl, hww⟩; obtain rfl : w = w' := hww.symm))
      go_ret
      exact HFIN.out _
    | true =>
      rw [hh] at HH
      have hl : ¬ d.length = 128 := fun e => hyes ⟨hh, e⟩
      have hwe : wErr S i d = 11 := by unfold wErr; rw [if_pos hh, if_neg hl]
      have hdl : ((d.length : Int) != 128) = true := by simp; omega
      rw [hwe]
      clear hyes hww h hh hwe hl
      go_enter Tryz.func55, Tryz.ntmps55
      go_wp2_with (first | (go_at_call 53; refine HH.out.mono ?_; rintro e w' ⟨rfl, hww⟩; obtain rfl : w = w' := hww.symm))
      go_ret
      exact HFIN.out _
end Go.Proofs.YtliboiajhhnajaaGreatDoor

/- The document's own disk is flushed. -/
namespace Go.Proofs.YtliboiajhhnajaaGreatDoor
open Go.RowKit Go.Extern

def flP (q i : Nat) (s : Sec) : Sec := if i < q then s.flushed else s
theorem flP_zero (S : List Sec) : partS S (flP 0) = S := by
  apply List.ext_getElem?
  intro i
  rw [partS_get]
  cases S[i]? <;> simp [flP]
theorem flP_end (S : List Sec) : partS S (flP S.length) = S.map Sec.flushed := by
  apply List.ext_getElem?
  intro i
  rw [partS_get, List.getElem?_map]
  cases h : S[i]? with
  | none => rfl
  | some s => simp [flP, (List.getElem?_eq_some_iff.1 h).1]
theorem flP_at {S : List Sec} {q : Nat} {s : Sec} (hs : S[q]? = some s) : (partS S (flP q))[q]? = some s := by
  rw [partS_get, hs]; simp [flP]
theorem flP_step {S : List Sec} {q : Nat} {s : Sec} (hs : S[q]? = some s) : (partS S (flP q)).set q s.flushed = partS S (flP (q + 1)) := by
  refine partS_set hs (by simp [flP]) (fun i t hi => ?_)
  unfold flP
  by_cases h : i < q
  · rw [if_pos h, if_pos (by omega)]
  · rw [if_neg h, if_neg (by omega)]
theorem len_bytess (w : World) (a : Option Addr) (n c : Nat) : (Builtin.len_ #[94] 3 #[.slice a n c]).run Tryz.prog w = .ok (.int .i64 (n : Int)) w := by kernel_rfl
theorem exec_sub1 {ρ : Operand → Value} {o : Oper} {w : World} {x : Operand} {n : Nat} (ho : o.op = .binOp .sub 3 x (.const (.int .i64 1)) 3) (hx : ρ x = .int .i64 ((n + 1 : Nat) : Int)) (hc : ρ (.const (.int .i64 1)) = .int .i64 1) (hn : (n : Int) ≤ 1000000) : (execOp ρ o).run Tryz.prog w = .ok (.value (.int .i64 (n : Int))) w := by
  unfold execOp; simp only [ho, hx, hc]
  have h0 : (0 : Int) ≤ (n : Int) := by omega
  go_simp
  rw [IntKind.wrap_i64]; omega

set_option maxRecDepth 100000 in
set_option maxHeartbeats 2000000 in
theorem rflush_any {w : World} {G : Nat → Prop} {b : Nat} {S : List Sec} (h : Rk w G b S) (hl : S.length ≤ 4096) (hww : ∀ s ∈ S, s.wait.length ≤ 1000000) :
    Calls Tryz.prog 56 #[.pointer (some ⟨b, 0, none⟩)] w (RTurned G b (S.map Sec.flushed) (.int .i64 ((pend S).length : Int)) w) := by
  have HP := hide (rpending_any h hl hww)
  have HR := hide h
  have HL := hide hl
  have HWW := hide hww
  clear h hl hww
  go_enter Tryz.func56, Tryz.ntmps56
  go_wp2_with (go_at_call 58; refine HP.out.mono ?_; rintro e w0 ⟨lv, rfl, hrow, hb0⟩; obtain ⟨aol, capl, rfl⟩ := ownsRow_form hrow; rw [pendI_length])
  have HB0 := hide hb0
  clear hrow hb0 HP
  go_loopg [4] S.length (fun gk i wr => ∃ j, j + gk = S.length ∧ i = .int .i64 (j : Int) ∧ Rk wr (ext G w wr) b (partS S (flP j)) ∧ Turn G w wr)
  case atStart => exact ⟨0, by omega, rfl, by rw [flP_zero]; exact (HR.out.below HB0.out).mono (fun _ hk => .inl hk), Turn.of_below HB0.out⟩
  case round =>
    obtain ⟨j, hj, rfl, hrk, htn⟩ := hrel
    have HRK := hide hrk
    have HTN := hide htn
    obtain ⟨v, T, hat, hTS⟩ := hrk
    have hTl := RkAt.len hTS
    rw [partS_length] at hTl
    obtain ⟨tn, htnn⟩ : ∃ tn, T.length = tn := ⟨_, rfl⟩
    obtain ⟨ao, cap, hvf⟩ := hat.form
    rw [htnn] at hvf
    subst hvf
    have c0 := hat.cell
    cases gk with
    | zero =>
      have hend : ¬ (j : Int) < (tn : Int) := by omega
      have HE : Hid (partS S (flP j) = S.map Sec.flushed) := by show _ = _; rw [← flP_end, show j = S.length by omega]
      clear hj htn hat hTS hTl htnn
      go_wp2_with fail
      go_ret
      exact ⟨rfl, by rw [← HE.out]; exact HRK.out, HTN.out⟩
    | succ m =>
      have hjt : j < tn := by omega
      have hlt : (j : Int) < (tn : Int) := by omega
      have hb0 : (0 : Int) ≤ (j : Int) := by omega
      obtain ⟨s, hs⟩ := get_of_lt (S := S) (i := j) (by omega)
      obtain ⟨u, hu⟩ := RkAt.get hTS (flP_at hs)
      obtain ⟨g, rfl, -, c1, -, cur, hgc⟩ := hat.at_ hu
      have hval := hat.val j _ hu
      have hwl := HWW.out s (List.mem_of_getElem? hs)
      obtain ⟨aou, capu, huf⟩ := hval.form
      simp only at huf
      subst huf
      obtain ⟨gu, x, rfl, c3, hx, hxG⟩ := hval.at_ (top_last s)
      obtain ⟨n, hn⟩ : ∃ n, s.wait.length = n := ⟨_, rfl⟩
      simp only [List.length_cons, hn] at c1 c3 hwl
      have hnb : (n : Int) ≤ 1000000 := by omega
      have hn0 : (0 : Int) ≤ (n : Int) := by omega
      have HX := hide hx
      have HXG := hide hxG
      obtain ⟨aox, capx, hxf⟩ := hx.form
      obtain ⟨xn, hxn⟩ : ∃ xn, s.top.length = xn := ⟨_, rfl⟩
      rw [hxn] at hxf
      subst hxf
      have HAT := hide hat
      have HTS := hide hTS
      have HU := hide hu
      have HS := hide hs
      have HC0 := hide c0
      have HC3 := hide c3
      have HGC := hide hgc
      have HSZ := hide htn.size
      have hjj : (j : Int) + 1 < 4098 := by have := HL.out; omega
      have HGU : Hid (gu ≠ g) := by
        intro e
        obtain ⟨us, h1, -⟩ := hval
        obtain ⟨cur1, hh1⟩ := row_block h1 (g := gu) rfl
        rw [e, hgc] at hh1
        simp at hh1
      have HGB : Hid (b ≠ g) := by
        intro e
        have h1 := hat.blk
        rw [e, hgc] at h1
        simp at h1
      clear htn hat hTS hTl htnn hs hu hval hwl hn hx hxG hxn c3 hgc
      go_wp2_with fail
      refine wp_region_held_drew (S := fun wx => wx.cell? ⟨b, 0, none⟩ = some (.slice (some ⟨g, 0, none⟩) tn cap) ∧ wx.cell? ⟨gu, n, none⟩ = some (.slice aox xn capx)) (by kernel_rfl) ⟨HC0.out, HC3.out⟩ (fun hS => ?_)
      refine take_run 0 (some 26) (.pointer (some ⟨b, 0, none⟩)) rfl rfl rfl (by kernel_rfl) (by kernel_rfl) (by kernel_rfl) (fun _ _ _ h => h) (fun wx hx => exec_move rfl rfl) hS ?_
      simp only [Act.put, List.setIfInBounds_toArray, List.set_cons_zero, List.set_cons_succ]
      refine take_run 1 (some 27) (.pointer (some ⟨b, 0, none⟩)) rfl rfl rfl (by kernel_rfl) (by kernel_rfl) (by kernel_rfl) (fun _ _ _ h => h) (fun wx hx => exec_nilCheck rfl rfl) hS ?_
      simp only [Act.put, List.setIfInBounds_toArray, List.set_cons_zero, List.set_cons_succ]
      refine take_run 2 (some 28) (.pointer (some ⟨b, 0, none⟩)) rfl rfl rfl (by kernel_rfl) (by kernel_rfl) (by kernel_rfl) (fun _ _ _ h => h) (fun wx hx => exec_field rfl (rfield0 b wx) rfl) hS ?_
      simp only [Act.put, List.setIfInBounds_toArray, List.set_cons_zero, List.set_cons_succ]
      refine take_run 3 (some 29) (.slice (some ⟨g, 0, none⟩) tn cap) rfl rfl rfl (by kernel_rfl) (by kernel_rfl) (by kernel_rfl) (fun _ _ _ h => h) (fun wx hx => exec_load rfl (load_rsectors hx.1) rfl) hS ?_
      simp only [Act.put, List.setIfInBounds_toArray, List.set_cons_zero, List.set_cons_succ]
      refine take_run 4 (some 30) (.int .i64 (j : Int)) rfl rfl rfl (by kernel_rfl) (by kernel_rfl) (by kernel_rfl) (fun _ _ _ h => h) (fun wx hx => exec_move rfl rfl) hS ?_
      simp only [Act.put, List.setIfInBounds_toArray, List.set_cons_zero, List.set_cons_succ]
      refine take_run 5 (some 31) (.slice (some ⟨gu, 0, none⟩) (n + 1) capu) rfl rfl rfl (by kernel_rfl) (by kernel_rfl) (by kernel_rfl) (fun _ _ _ h => h) (fun wx hx => exec_move rfl rfl) hS ?_
      simp only [Act.put, List.setIfInBounds_toArray, List.set_cons_zero, List.set_cons_succ]
      refine take_run 6 (some 32) (.slice (some ⟨gu, 0, none⟩) (n + 1) capu) rfl rfl rfl (by kernel_rfl) (by kernel_rfl) (by kernel_rfl) (fun _ _ _ h => h) (fun wx hx => exec_move rfl rfl) hS ?_
      simp only [Act.put, List.setIfInBounds_toArray, List.set_cons_zero, List.set_cons_succ]
      refine take_run 7 (some 33) (.int .i64 ((n + 1 : Nat) : Int)) rfl rfl rfl (by kernel_rfl) (by kernel_rfl) (by kernel_rfl) (fun _ _ _ h => h) (fun wx hx => exec_len rfl (len_bytess wx _ _ _) rfl) hS ?_
      simp only [Act.put, List.setIfInBounds_toArray, List.set_cons_zero, List.set_cons_succ]
      refine take_run 8 (some 34) (.int .i64 (n : Int)) rfl rfl rfl (by kernel_rfl) (by kernel_rfl) (by kernel_rfl) (fun _ _ _ h => h) (fun wx hx => exec_sub1 rfl rfl rfl hnb) hS ?_
      simp only [Act.put, List.setIfInBounds_toArray, List.set_cons_zero, List.set_cons_succ]
      refine take_run 9 (some 35) (.pointer (some ⟨gu, n, none⟩)) rfl rfl rfl (by kernel_rfl) (by kernel_rfl) (by kernel_rfl) (fun _ _ _ h => h) (fun wx hx => exec_index rfl (index_bytess (Nat.lt_succ_self n)) rfl rfl) hS ?_
      simp only [Act.put, List.setIfInBounds_toArray, List.set_cons_zero, List.set_cons_succ]
      refine take_run 10 (some 36) (.slice aox xn capx) rfl rfl rfl (by kernel_rfl) (by kernel_rfl) (by kernel_rfl) (fun _ _ _ h => h) (fun wx hx => exec_load rfl (load_bytes hx.2) rfl) hS ?_
      simp only [Act.put, List.setIfInBounds_toArray, List.set_cons_zero, List.set_cons_succ]
      have hba : Below wr.heap.size wr (wr.drew.alloc (.cells #[.slice aox xn capx] 28)) := (Below.refl _ _).drew.alloc (Nat.le_refl _) _
      have hsa : (wr.drew.alloc (.cells #[.slice aox xn capx] 28)).heap.size = wr.heap.size + 1 := by simp
      have hat5 := HAT.out.below hba
      obtain ⟨g5, e5, -, c5, -, cur5, hg5⟩ := hat5.at_ HU.out
      obtain rfl : g = g5 := by simpa using e5
      have hone : HadG (ext (ext G w wr) wr (wr.drew.alloc (.cells #[.slice aox xn capx] 28))) (wr.drew.alloc (.cells #[.slice aox xn capx] 28)) (.slice (some ⟨wr.heap.size, 0, none⟩) 1 1) [s.top] := HadG.one (w := wr.drew) (HX.out.below (Below.refl _ _).drew) (fun k hk => .inl (HXG.out k hk)) (.inr ⟨Nat.le_refl _, by rw [hsa]; exact Nat.lt_succ_self _⟩)
      obtain ⟨hat6, htn6⟩ := HAT.out.values (s' := s.flushed) HU.out hba hone rfl
      have hSa : (wr.drew.alloc (.cells #[.slice aox xn capx] 28)).cell? ⟨b, 0, none⟩ = some (.slice (some ⟨g, 0, none⟩) tn cap) ∧ (wr.drew.alloc (.cells #[.slice aox xn capx] 28)).cell? ⟨gu, n, none⟩ = some (.slice aox xn capx) := ⟨hat5.cell, by rw [hba.cell (cell_lt HC3.out)]; exact HC3.out⟩
      refine only_value 11 (some 37) rfl rfl rfl (by kernel_rfl) (exec_one rfl (run_oneB wr.drew _ _ _) rfl) hSa ?_
      simp only [Act.put, List.setIfInBounds_toArray, List.set_cons_zero, List.set_cons_succ]
      refine only_value 12 (some 38) (v := .pointer (some ⟨g, j * 2, none⟩)) rfl rfl rfl (by kernel_rfl) (exec_index rfl (index_rsec hjt) rfl rfl) hSa ?_
      simp only [Act.put, List.setIfInBounds_toArray, List.set_cons_zero, List.set_cons_succ]
      refine only_value 13 (some 39) (v := .pointer (some ⟨g, j * 2, none⟩)) rfl rfl rfl (by kernel_rfl) (exec_field rfl (rsField0 g _ _) rfl) hSa ?_
      simp only [Act.put, List.setIfInBounds_toArray, List.set_cons_zero, List.set_cons_succ]
      refine only_skip 14 none rfl rfl rfl (by kernel_rfl) (exec_store rfl (store_bytess _ _ _ c5 (row_frozen hg5 _)) rfl rfl) ⟨hat6.cell, by rw [World.cell?_of_block (Below.heap_setCell _ _ _ _ HGU.out)]; exact hSa.2⟩ ?_
      refine wpAnyH_done (by kernel_rfl) ?_ _
      have HEND : Hid (Rk ((wr.drew.alloc (.cells #[.slice aox xn capx] 28)).setCell ⟨g, j * 2, none⟩ (.slice (some ⟨wr.heap.size, 0, none⟩) 1 1)) (ext G w ((wr.drew.alloc (.cells #[.slice aox xn capx] 28)).setCell ⟨g, j * 2, none⟩ (.slice (some ⟨wr.heap.size, 0, none⟩) 1 1))) b (partS S (flP (j + 1))) ∧ Turn G w ((wr.drew.alloc (.cells #[.slice aox xn capx] 28)).setCell ⟨g, j * 2, none⟩ (.slice (some ⟨wr.heap.size, 0, none⟩) 1 1))) := by
        refine ⟨⟨_, _, hat6.mono (fun k hk => ext_ext HSZ.out htn6.size k hk), by rw [map_set2, HTS.out, flP_step HS.out]⟩, HTN.out.trans htn6 (fun k hk h => ?_)⟩
        rcases h with h | h
        · exact h
        · omega
      clear hba hsa hat5 c5 hg5 hone hat6 htn6 hSa hS
      go_wp2_with fail
      go_roundg m
      case measure => omega
      case rel => exact ⟨j + 1, by omega, by go_num, HEND.out.1, HEND.out.2⟩
end Go.Proofs.YtliboiajhhnajaaGreatDoor
