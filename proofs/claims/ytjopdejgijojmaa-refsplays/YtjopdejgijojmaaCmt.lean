/- Commit: what changed since Begin is told. -/
import Derived.Test.YtjopdejgijojmaaBk
namespace Go.Proofs.Ytjopdejgijojmaa
open Go.RowKit Go.Extern

set_option maxRecDepth 100000 in
set_option maxHeartbeats 1000000 in
theorem commit_busy {w : World} {F : Nat → Prop} {b : Nat} {l : List Ref} (h : Rf w F b l none) :
    Calls Try.prog 14 #[.pointer (some ⟨b, 0, none⟩)] w fun e w' => e = .returned (.tuple #[.slice none 0 0, errV 100]) ∧ w' = w := by
  obtain ⟨E, bn, bo, A, sv, h, hSv, -⟩ := h
  have hsv : sv = none := hSv
  subst hsv
  have c2 := h.c2
  have eq := eqlNilN w
  rw [errV100]
  clear h hSv
  go_enter Try.func14, Try.ntmps14
  go_wp2_with fail
  go_ret2
  exact ⟨rfl, rfl⟩
/-- What Commit leaves. -/
def Commd (w : World) (F : Nat → Prop) (b : Nat) (l W : List Ref) (e : Ending) (w' : World) : Prop :=
  ∃ v, e = .returned (.tuple #[v, .nilIface]) ∧ w'.ownsRow w.heap.size 45 4 v (chS W l).length (chgsC (chS W l)) ∧ Rf w' F b l none ∧ Turn F w w'
set_option maxRecDepth 100000 in
set_option maxHeartbeats 4000000 in
theorem commit_ok {w : World} {F : Nat → Prop} {b : Nat} {l W : List Ref} (h : Rf w F b l (some W)) (hn : W.length + l.length ≤ 100000) :
    Calls Try.prog 14 #[.pointer (some ⟨b, 0, none⟩)] w (Commd w F b l W) := by
  obtain ⟨E, bn, bo, A, sv, h, ⟨s, S, rfl, hm, hW, hSS⟩, hs3, hs4, hs5⟩ := h
  have c2 := h.c2
  have eq := eqlNilM w s
  have hlK := chO_length hW h.ok
  have hpK : (S.map Prod.fst).Perm (chO W l) := (List.perm_ext_iff_of_nodup hm.nodup (srt_chO hW h.ok).nodup).2 (fun o => by
    rw [mem_chO hW h.ok]
    constructor
    · intro ho
      obtain ⟨p, hp, e⟩ := List.mem_map.1 ho
      have := (hSS p.1 p.2).1 hp
      rw [e] at this
      rw [← this.1]; exact this.2
    · intro ho
      exact List.mem_map.2 ⟨(o, ofS W o), (hSS o _).2 ⟨rfl, ho⟩, rfl⟩)
  have hSl : S.length ≤ 1000000 := by have := hpK.length_eq; simp at this; omega
  have hb1 : Below w.heap.size w (w.alloc (.cells #[.map (some s)] 62)) := below_box _ _
  have hm1 : MapIs encO OkO encI (w.alloc (.cells #[.map (some s)] 62)) s S := hm.of_block (fun _ ho => by rw [hb1.block _ hm.lt]; exact ho)
  have hseq := keysN_stops (Bm := w.heap.size) 2 (by omega) (by simp) hm1
  have hS := sortedO enterKeysN1 (srt_chO hW h.ok) hpK hSl (by omega) hseq
  have hK := keysN_any (some s) w
  have HB1 := hide hb1
  obtain ⟨K, hKe⟩ : ∃ K, chO W l = K := ⟨_, rfl⟩
  rw [hKe] at hS hlK
  have HCR : Hid (∀ wx, Below w.heap.size w wx → CrAt wx E b l bn bo A (some s)) := hide (fun wx hb => h.below hb)
  have HLS0 : Hid (∀ o ∈ K, ∀ wx, Below w.heap.size w wx → (Instr.lookup 62 (.map (some s)) (encO o) false).run Try.prog wx = .ok (.int .i64 (ofS W o)) wx) := hide (fun o ho wx hb => by
    have hne : ofS W o ≠ ofS l o := by rw [← hKe] at ho; exact (mem_chO hW h.ok).1 ho
    exact (hm.of_block (w' := wx) (fun _ g => by rw [hb.block _ hm.lt]; exact g)).look_in KO uN ((hSS o _).2 ⟨rfl, hne⟩) false)
  have HLN0 : Hid (∀ o ∈ K, ∀ wx, Below w.heap.size w wx → (Instr.lookup 62 (.map (some bn)) (encO o) false).run Try.prog wx = .ok (.int .i64 (ofS l o)) wx) := hide (fun o ho wx hb => by
    have hO : OkO o := by rw [← hKe] at ho; exact chO_ok hW h.ok o ho
    have hnm := (h.below hb).nm
    rcases ofS_cases h.ok.srt o with hm | ⟨hm, h0⟩
    · exact hnm.look_in KO uN hm false
    · rw [h0]
      exact hnm.look_out KO uN (zeroI _) hO hm false)
  have HF4 := hide hs4
  have HF5 := hide hs5
  have HFB : Hid (F b) := hide (hs4 b h.inB)
  have HKE := hide hKe
  obtain ⟨n, hnk⟩ : ∃ n, K.length = n := ⟨_, rfl⟩
  clear h hm hm1 hseq hb1 hW hSS hs3 hs4 hs5 hpK hKe
  go_enter Try.func14, Try.ntmps14
  go_wp2_with (first
    | (go_at_call 32; refine hK.mono ?_; rintro e w' ⟨rfl, rfl⟩)
    | (go_at_call 31; refine hS.mono ?_; intro e w2 hs2; obtain ⟨v, rfl, hv1, hv2⟩ := hs2.wide HB1.out; obtain ⟨ao, cap, g, rfl, hat⟩ := owns_at (F := fun _ => False) hv1 (by simp); rw [hnk]; have HV2 := hide hv2; have HAT := hide hat; clear hv1 hat hs2 hv2))
  go_loopg [4, 20] n (fun k v i wr => ∃ (j : Nat), j + k = n ∧ i = .int .i64 (j : Int) ∧ Hid (wr.ownsRow w2.heap.size 45 4 v ((K.take j).map (fun o => ((o, ofS W o, ofS l o) : Chg))).length (chgsC ((K.take j).map (fun o => ((o, ofS W o, ofS l o) : Chg))))) ∧ Hid (Below w2.heap.size w2 wr))
  case atStart => exact ⟨0, by omega, rfl, hide (World.ownsRow_nil _ _ _ _), hide (Below.refl _ _)⟩
  case round =>
    obtain ⟨j, hj, rfl, HOW, HBw⟩ := hrel
    cases gk with
    | zero =>
      have hje : j = n := by omega
      subst hje
      have hnlt : ¬ ((j : Nat) : Int) < (j : Int) := by omega
      have HBB : Hid (Below w.heap.size w wr) := hide (below_next HV2.out HBw.out)
      have HC := hide (HCR.out wr HBB.out)
      have c2 := HC.out.c2
      have fz : wr.frozen? ⟨b, 2, none⟩ = false := froz_of HC.out.blk 2
      obtain ⟨ao4, cap4, hv4⟩ := ownsRow_form HOW.out
      subst hv4
      go_wp2_with fail
      go_ret2
      have hE := HC.out.ended
      have e1 : (K.take j).map (fun o => ((o, ofS W o, ofS l o) : Chg)) = chS W l := by
        rw [List.take_of_length_le (by omega), ← HKE.out]; rfl
      have hlen : (chS W l).length = j := by rw [chS_length, HKE.out]; exact hnk
      have hrow : wr.ownsRow w2.heap.size 45 4 (.slice ao4 j cap4) (chS W l).length (chgsC (chS W l)) := by
        have h0 := HOW.out
        rw [e1] at h0
        rw [hlen] at h0 ⊢
        exact h0
      have hbF : b < w.heap.size := HF5.out b HFB.out
      have h1 : (wr.setCell ⟨b, 2, none⟩ (.map none)).ownsRow w2.heap.size 45 4 (.slice ao4 j cap4) (chS W l).length (chgsC (chS W l)) := ownsRow_of_block hrow (fun k o hk ho => by
          have hk2 := (hrow.lt k hk).1
          have hne : k ≠ b := by have := HV2.out.size; omega
          rw [Below.heap_setCell _ _ _ _ hne]; exact ho)
      refine ⟨.slice ao4 j cap4, rfl, ownsRow_base h1 HV2.out.size, ?_, ?_⟩
      · exact ⟨E, bn, bo, A, none, hE, rfl, (by intro s' e; cases e), HF4.out, fun k hk => by
          have := HF5.out k hk; have := HBB.out.size
          simp only [World.setCell]; simp; omega⟩
      · exact (Turn.of_below HBB.out).trans (turn_set HFB.out 2 _) (fun _ _ h => h)
    | succ m =>
      have hlti : (j : Int) < (n : Int) := by omega
      have hge : (0 : Int) ≤ (j : Int) := by omega
      obtain ⟨o, ho⟩ : ∃ o, K[j]? = some o := ⟨K[j]'(by omega), by rw [List.getElem?_eq_getElem]⟩
      obtain rfl := HAT.out.ad (by omega)
      obtain ⟨k1, k2⟩ := (HAT.out.below HBw.out).cells j o ho
      have hoK := List.mem_of_getElem? ho
      have HT := hide (take_snoc ho)
      have e2 : IntKind.i64.wrap ((j : Int) + 1) = (j : Int) + 1 := IntWalk.i64_in _ ⟨by omega, by omega⟩
      obtain ⟨y, hy⟩ : ∃ y, wr.heap.size = y := ⟨_, rfl⟩
      obtain ⟨w3, hw3⟩ : ∃ w3, wr.alloc (.cells #[.int .i64 o.1, .int .i64 o.2] 35) = w3 := ⟨_, rfl⟩
      have HBY : Hid (BoxO w3 y o) := hide (by rw [← hw3, ← hy]; exact boxO_new _ _ _)
      have HB3 : Hid (Below wr.heap.size wr w3) := hide (by rw [← hw3]; exact below_box _ _)
      have HB23 : Hid (Below w2.heap.size w2 w3) := hide (below_next HBw.out HB3.out)
      obtain ⟨cs, hcs⟩ : ∃ cs, (K.take j).map (fun o => ((o, ofS W o, ofS l o) : Chg)) = cs := ⟨_, rfl⟩
      rw [hcs] at HOW
      have hcl : cs.length ≤ 1000000 := by rw [← hcs]; simp; omega
      obtain ⟨ao4, cap4, hv4⟩ := ownsRow_form HOW.out
      subst hv4
      have HO3 := hide (ownsRow_below (ownsRow_below HOW.out HB3.out) (below_drew0 w3))
      have hs23 := HB23.out.size
      obtain ⟨v6, w6, hap, hown6, hgrow6⟩ := append_chg Try.underlying39 infoC (T := 45) HO3.out (o, ofS W o, ofS l o) (by have : w3.drew.heap.size = w3.heap.size := rfl; omega) hcl 39
      have HO6 := hide hown6
      have hY3 : BoxO w3.drew y o := HBY.out.below (below_drew0 w3)
      have hYl : y < w3.heap.size := by rw [← hw3]; simp; omega
      have HS4 : Hid (Below w2.heap.size w2 w3.drew ∧ BoxO w3.drew y o) := hide ⟨below_next HB23.out (below_drew0 w3), hY3⟩
      have HS5 : Hid (Below w2.heap.size w2 (w3.drew.alloc (.cells #[.int .i64 o.1, .int .i64 o.2, .int .i64 (ofS W o), .int .i64 (ofS l o)] 45)) ∧ BoxO (w3.drew.alloc (.cells #[.int .i64 o.1, .int .i64 o.2, .int .i64 (ofS W o), .int .i64 (ofS l o)] 45)) y o) := hide ⟨below_next HS4.out.1 (below_box _ _), hY3.below (below_box _ _)⟩
      have HS6 : Hid (Below w2.heap.size w2 w6 ∧ BoxO w6 y o) := hide (by
        have hbl : ∀ k, (Value.slice ao4 cs.length cap4).ownBlock = some k → w2.heap.size ≤ k ∧ k < wr.heap.size := fun k e => HOW.out.lt k e
        refine ⟨HS5.out.1.grown hgrow6 HS5.out.1.size (fun k e => (hbl k e).1), ?_⟩
        have hk := hgrow6.block y (by simp only [World.size_alloc]; have : w3.drew.heap.size = w3.heap.size := rfl; omega) (fun e => by have := (hbl y e.symm).2; omega)
        exact ⟨cell_same hk HS5.out.2.1, cell_same hk HS5.out.2.2⟩)
      clear hown6 hgrow6 hY3 ho
      go_wp2_with fail
      refine wp_region_held_drew (S := fun wx => Below w2.heap.size w2 wx ∧ BoxO wx y o) (by kernel_rfl) HS4.out (fun hS => ?_)
      refine take_want 0 (some 24) (.slice ao4 cs.length cap4) rfl rfl rfl (by kernel_rfl) (by kernel_rfl) (by kernel_rfl) (fun _ _ _ h => h) (fun wx hx => exec_move rfl rfl) hS ?_
      simp only [Act.put, List.setIfInBounds_toArray, List.set_cons_zero, List.set_cons_succ]
      refine take_want 1 (some 25) (encO o) rfl rfl rfl (by kernel_rfl) (by kernel_rfl) (by kernel_rfl) (fun _ _ _ h => h) (fun wx hx => exec_load rfl hx.2.load rfl) hS ?_
      simp only [Act.put, List.setIfInBounds_toArray, List.set_cons_zero, List.set_cons_succ]
      refine take_want 2 (some 26) (.pointer (some ⟨b, 0, none⟩)) rfl rfl rfl (by kernel_rfl) (by kernel_rfl) (by kernel_rfl) (fun _ _ _ h => h) (fun wx hx => exec_move rfl rfl) hS ?_
      simp only [Act.put, List.setIfInBounds_toArray, List.set_cons_zero, List.set_cons_succ]
      refine take_want 3 (some 27) (.pointer (some ⟨b, 0, none⟩)) rfl rfl rfl (by kernel_rfl) (by kernel_rfl) (by kernel_rfl) (fun _ _ _ h => h) (fun wx hx => exec_nilCheck rfl rfl) hS ?_
      simp only [Act.put, List.setIfInBounds_toArray, List.set_cons_zero, List.set_cons_succ]
      refine take_want 4 (some 28) (.pointer (some ⟨b, 2, none⟩)) rfl rfl rfl (by kernel_rfl) (by kernel_rfl) (by kernel_rfl) (fun _ _ _ h => h) (fun wx hx => exec_field rfl (fld2 _ wx) rfl) hS ?_
      simp only [Act.put, List.setIfInBounds_toArray, List.set_cons_zero, List.set_cons_succ]
      refine take_want 5 (some 29) (.map (some s)) rfl rfl rfl (by kernel_rfl) (by kernel_rfl) (by kernel_rfl) (fun _ _ _ h => h) (fun wx hx => exec_load rfl (load_mapN (HCR.out wx (below_next HV2.out hx.1)).c2) rfl) hS ?_
      simp only [Act.put, List.setIfInBounds_toArray, List.set_cons_zero, List.set_cons_succ]
      refine take_want 6 (some 30) (encO o) rfl rfl rfl (by kernel_rfl) (by kernel_rfl) (by kernel_rfl) (fun _ _ _ h => h) (fun wx hx => exec_load rfl hx.2.load rfl) hS ?_
      simp only [Act.put, List.setIfInBounds_toArray, List.set_cons_zero, List.set_cons_succ]
      refine take_want 7 (some 31) (.int .i64 (ofS W o)) rfl rfl rfl (by kernel_rfl) (by kernel_rfl) (by kernel_rfl) (fun _ _ _ h => h) (fun wx hx => exec_lookup rfl (HLS0.out o hoK wx (below_next HV2.out hx.1)) rfl rfl) hS ?_
      simp only [Act.put, List.setIfInBounds_toArray, List.set_cons_zero, List.set_cons_succ]
      refine take_want 8 (some 32) (.pointer (some ⟨b, 0, none⟩)) rfl rfl rfl (by kernel_rfl) (by kernel_rfl) (by kernel_rfl) (fun _ _ _ h => h) (fun wx hx => exec_move rfl rfl) hS ?_
      simp only [Act.put, List.setIfInBounds_toArray, List.set_cons_zero, List.set_cons_succ]
      refine take_want 9 (some 33) (.pointer (some ⟨b, 0, none⟩)) rfl rfl rfl (by kernel_rfl) (by kernel_rfl) (by kernel_rfl) (fun _ _ _ h => h) (fun wx hx => exec_nilCheck rfl rfl) hS ?_
      simp only [Act.put, List.setIfInBounds_toArray, List.set_cons_zero, List.set_cons_succ]
      refine take_want 10 (some 34) (.pointer (some ⟨b, 0, none⟩)) rfl rfl rfl (by kernel_rfl) (by kernel_rfl) (by kernel_rfl) (fun _ _ _ h => h) (fun wx hx => exec_field rfl (fld0 _ wx) rfl) hS ?_
      simp only [Act.put, List.setIfInBounds_toArray, List.set_cons_zero, List.set_cons_succ]
      refine take_want 11 (some 35) (.map (some bn)) rfl rfl rfl (by kernel_rfl) (by kernel_rfl) (by kernel_rfl) (fun _ _ _ h => h) (fun wx hx => exec_load rfl (load_mapN (HCR.out wx (below_next HV2.out hx.1)).c0) rfl) hS ?_
      simp only [Act.put, List.setIfInBounds_toArray, List.set_cons_zero, List.set_cons_succ]
      refine take_want 12 (some 36) (encO o) rfl rfl rfl (by kernel_rfl) (by kernel_rfl) (by kernel_rfl) (fun _ _ _ h => h) (fun wx hx => exec_load rfl hx.2.load rfl) hS ?_
      simp only [Act.put, List.setIfInBounds_toArray, List.set_cons_zero, List.set_cons_succ]
      refine take_want 13 (some 37) (.int .i64 (ofS l o)) rfl rfl rfl (by kernel_rfl) (by kernel_rfl) (by kernel_rfl) (fun _ _ _ h => h) (fun wx hx => exec_lookup rfl (HLN0.out o hoK wx (below_next HV2.out hx.1)) rfl rfl) hS ?_
      simp only [Act.put, List.setIfInBounds_toArray, List.set_cons_zero, List.set_cons_succ]
      refine take_want 14 (some 38) (encC (o, ofS W o, ofS l o)) rfl rfl rfl (by kernel_rfl) (by kernel_rfl) (by kernel_rfl) (fun _ _ _ h => h) (fun wx hx => exec_build3 rfl (buildC wx o _ _) rfl rfl rfl) hS ?_
      simp only [Act.put, List.setIfInBounds_toArray, List.set_cons_zero, List.set_cons_succ]
      refine only_value 15 (some 39) rfl rfl rfl (by kernel_rfl) (exec_one rfl (sliceC _ _) rfl) HS5.out ?_
      simp only [Act.put, List.setIfInBounds_toArray, List.set_cons_zero, List.set_cons_succ]
      refine only_value 16 (some 40) rfl rfl rfl (by kernel_rfl) (exec_append rfl hap rfl rfl) HS6.out ?_
      simp only [Act.put, List.setIfInBounds_toArray, List.set_cons_zero, List.set_cons_succ]
      refine take_want 17 (some 4) v6 rfl rfl rfl (by kernel_rfl) (by kernel_rfl) (by kernel_rfl) (fun _ _ _ h => h) (fun wx hx => exec_assign rfl rfl) HS6.out ?_
      simp only [Act.put, List.setIfInBounds_toArray, List.set_cons_zero, List.set_cons_succ]
      refine wpAnyH_done (by kernel_rfl) ?_ _
      go_wp2_with fail
      go_roundg m
      case measure => omega
      case rel => exact ⟨j + 1, by omega, by go_num, hide (by rw [HT.out, List.map_append, hcs]; exact HO6.out), hide HS6.out.1⟩
end Go.Proofs.Ytjopdejgijojmaa
