/- slices.Equal of numbers; Same of nodes. -/
import Derived.Test.YtcidadikmmdalaaDoorSa
namespace Go.Proofs.YtcidadikmmdalaaDoor
open Go.RowKit Go.Extern

theorem exec_neqNe {ρ : Operand → Value} {o : Oper} {w : World} {x y : Operand} {n m : Int} {T : TypeId} (ho : o.op = .binOp .neq 3 x y T) (hx : ρ x = .int .i64 n) (hy : ρ y = .int .i64 m) (h : n ≠ m) : (execOp ρ o).run Tryd.prog w = .ok (.value (.bool true)) w := by
  have hb : (n != m) = true := by simpa using h
  unfold execOp; simp only [ho, hx, hy]; go_simp
/-- Are these numbers the same? -/
def eqI (A B : List Int) : Bool := decide (A = B)
theorem eqI_iff {A B : List Int} : eqI A B = true ↔ A = B := by simp [eqI]
theorem eqI_false {A B : List Int} : eqI A B = false ↔ A ≠ B := by simp [eqI]

set_option maxRecDepth 100000 in
set_option maxHeartbeats 1000000 in
theorem equal_any {w : World} {v1 v2 : Value} {A B : List Int} (h1 : Ints w v1 A) (h2 : Ints w v2 B) :
    Calls Tryd.prog 30 #[v1, v2] w fun e w' => e = .returned (.bool (eqI A B)) ∧ Below w.heap.size w w' := by
  have hl1 := h1.len
  obtain ⟨aA, cA, gA, oA, rfl, hA1, hA2⟩ := h1.at_
  obtain ⟨aB, cB, gB, oB, rfl, hB1, hB2⟩ := h2.at_
  obtain ⟨n, hn⟩ : ∃ n, A.length = n := ⟨_, rfl⟩
  obtain ⟨m, hm⟩ : ∃ n, B.length = n := ⟨_, rfl⟩
  rw [hn] at hA1 hl1 ⊢
  rw [hm] at hB1 ⊢
  clear h1 h2
  by_cases hnm : n = m
  rotate_left
  · have hne : ((n : Int) != (m : Int)) = true := by simp; omega
    rw [eqI_false.2 (fun e => hnm (by rw [← hn, ← hm, e]))]
    clear hnm
    go_enter Tryd.func30, Tryd.ntmps30
    go_wp2_with fail
    go_ret
    exact ⟨rfl, Below.refl _ _⟩
  subst hnm
  have HA1 := hide hA1
  have HB1 := hide hB1
  have HA2 := hide hA2
  have HB2 := hide hB2
  have HN := hide hn
  have HM := hide hm
  have hne : ((n : Int) != (n : Int)) = false := by simp
  clear hA1 hB1 hA2 hB2 hn hm
  obtain ⟨E, hE⟩ : ∃ b, eqI A B = b := ⟨_, rfl⟩
  have HE := hide hE
  rw [hE]
  clear hE
  go_enter Tryd.func30, Tryd.ntmps30
  go_wp2_with fail
  go_loopg [13] n (fun t i wr => ∃ j : Nat, j + t = n ∧ i = .int .i64 (j : Int) ∧ Hid (A.take j = B.take j) ∧ Hid (Below w.heap.size w wr))
  case atStart => exact ⟨0, by omega, rfl, hide (by simp), hide (Below.refl _ _)⟩
  case round =>
    obtain ⟨j, hj, rfl, HT, HB⟩ := hrel
    cases gk with
    | zero =>
      have hnl : ¬ (j : Int) < (n : Int) := by omega
      have hEt : E = true := by
        obtain rfl : j = n := by omega
        rw [← HE.out]; exact eqI_iff.2 (take_all HT.out HN.out HM.out)
      subst hEt
      go_wp2_with fail
      go_ret
      exact ⟨rfl, HB.out⟩
    | succ t =>
      have hlt : (j : Int) < (n : Int) := by omega
      have hb0 : (0 : Int) ≤ (j : Int) := by omega
      have hjn : j < n := by omega
      have e7 : IntKind.i64.wrap ((j : Int) + 1) = (j : Int) + 1 := IntWalk.i64_in _ ⟨by omega, by omega⟩
      obtain ⟨a, ha⟩ : ∃ k, A[j]? = some k := ⟨A[j]'(by rw [HN.out]; omega), by rw [List.getElem?_eq_getElem]⟩
      obtain ⟨b, hb⟩ : ∃ k, B[j]? = some k := ⟨B[j]'(by rw [HM.out]; omega), by rw [List.getElem?_eq_getElem]⟩
      obtain rfl := HA1.out (by omega)
      obtain rfl := HB1.out (by omega)
      have HC := hide (And.intro (HA2.out j a ha) (HB2.out j b hb))
      have HSX := hide (nextB HB.out (below_drew0 wr))
      by_cases hab : a = b
      · subst hab
        have HTN := hide (take_more HT.out ha hb)
        clear ha hb
        go_wp2_with fail
        obtain ⟨C0, C1⟩ := HC.out
        refine wp_region_held_drew (S := Below w.heap.size w) (by kernel_rfl) HSX.out (fun hS => ?_)
        obtain ⟨wd, hwd⟩ : ∃ x, wr.drew = x := ⟨_, rfl⟩
        rw [hwd] at hS ⊢
        clear hwd HSX
        refine take_want 0 (some 16) (.slice (some ⟨gA, oA, none⟩) n cA) rfl rfl rfl (by kernel_rfl) (by kernel_rfl) (by kernel_rfl) (fun _ _ _ h => h) (fun wx hx => exec_move rfl rfl) hS ?_
        simp only [Act.put, List.setIfInBounds_toArray, List.set_cons_zero, List.set_cons_succ]
        refine take_want 1 (some 17) (.int .i64 (j : Int)) rfl rfl rfl (by kernel_rfl) (by kernel_rfl) (by kernel_rfl) (fun _ _ _ h => h) (fun wx hx => exec_move rfl rfl) hS ?_
        simp only [Act.put, List.setIfInBounds_toArray, List.set_cons_zero, List.set_cons_succ]
        refine take_want 2 (some 18) (.pointer (some ⟨gA, oA + j, none⟩)) rfl rfl rfl (by kernel_rfl) (by kernel_rfl) (by kernel_rfl) (fun _ _ _ h => h) (fun wx hx => exec_index rfl (index_ints hjn) rfl rfl) hS ?_
        simp only [Act.put, List.setIfInBounds_toArray, List.set_cons_zero, List.set_cons_succ]
        refine take_want 3 (some 19) (.int .i64 a) rfl rfl rfl (by kernel_rfl) (by kernel_rfl) (by kernel_rfl) (fun _ _ _ h => h) (fun wx hx => exec_load rfl (load_intP (cell_bel hx C0)) rfl) hS ?_
        simp only [Act.put, List.setIfInBounds_toArray, List.set_cons_zero, List.set_cons_succ]
        refine take_want 4 (some 20) (.slice (some ⟨gB, oB, none⟩) n cB) rfl rfl rfl (by kernel_rfl) (by kernel_rfl) (by kernel_rfl) (fun _ _ _ h => h) (fun wx hx => exec_move rfl rfl) hS ?_
        simp only [Act.put, List.setIfInBounds_toArray, List.set_cons_zero, List.set_cons_succ]
        refine take_want 5 (some 21) (.int .i64 (j : Int)) rfl rfl rfl (by kernel_rfl) (by kernel_rfl) (by kernel_rfl) (fun _ _ _ h => h) (fun wx hx => exec_move rfl rfl) hS ?_
        simp only [Act.put, List.setIfInBounds_toArray, List.set_cons_zero, List.set_cons_succ]
        refine take_want 6 (some 22) (.pointer (some ⟨gB, oB + j, none⟩)) rfl rfl rfl (by kernel_rfl) (by kernel_rfl) (by kernel_rfl) (fun _ _ _ h => h) (fun wx hx => exec_index rfl (index_ints hjn) rfl rfl) hS ?_
        simp only [Act.put, List.setIfInBounds_toArray, List.set_cons_zero, List.set_cons_succ]
        refine take_want 7 (some 23) (.int .i64 a) rfl rfl rfl (by kernel_rfl) (by kernel_rfl) (by kernel_rfl) (fun _ _ _ h => h) (fun wx hx => exec_load rfl (load_intP (cell_bel hx C1)) rfl) hS ?_
        simp only [Act.put, List.setIfInBounds_toArray, List.set_cons_zero, List.set_cons_succ]
        refine take_want 8 (some 24) (.bool false) rfl rfl rfl (by kernel_rfl) (by kernel_rfl) (by kernel_rfl) (fun _ _ _ h => h) (fun wx hx => exec_neqN rfl rfl rfl rfl) hS ?_
        simp only [Act.put, List.setIfInBounds_toArray, List.set_cons_zero, List.set_cons_succ]
        refine wpAnyH_done (by kernel_rfl) ?_ _
        clear C0 C1
        go_wp2_with fail
        go_roundg t
        case measure => omega
        case rel => exact ⟨j + 1, by omega, by go_num, HTN, hide hS⟩
      · have hEt : E = false := by
          rw [← HE.out]; exact eqI_false.2 (fun e => hab (by rw [e] at ha; rw [ha] at hb; exact Option.some.inj hb))
        subst hEt
        clear ha hb
        have HAB := hide hab
        clear hab
        go_wp2_with fail
        obtain ⟨C0, C1⟩ := HC.out
        have hab := HAB.out
        refine wp_region_held_drew (S := Below w.heap.size w) (by kernel_rfl) HSX.out (fun hS => ?_)
        obtain ⟨wd, hwd⟩ : ∃ x, wr.drew = x := ⟨_, rfl⟩
        rw [hwd] at hS ⊢
        clear hwd HSX
        refine take_want 0 (some 16) (.slice (some ⟨gA, oA, none⟩) n cA) rfl rfl rfl (by kernel_rfl) (by kernel_rfl) (by kernel_rfl) (fun _ _ _ h => h) (fun wx hx => exec_move rfl rfl) hS ?_
        simp only [Act.put, List.setIfInBounds_toArray, List.set_cons_zero, List.set_cons_succ]
        refine take_want 1 (some 17) (.int .i64 (j : Int)) rfl rfl rfl (by kernel_rfl) (by kernel_rfl) (by kernel_rfl) (fun _ _ _ h => h) (fun wx hx => exec_move rfl rfl) hS ?_
        simp only [Act.put, List.setIfInBounds_toArray, List.set_cons_zero, List.set_cons_succ]
        refine take_want 2 (some 18) (.pointer (some ⟨gA, oA + j, none⟩)) rfl rfl rfl (by kernel_rfl) (by kernel_rfl) (by kernel_rfl) (fun _ _ _ h => h) (fun wx hx => exec_index rfl (index_ints hjn) rfl rfl) hS ?_
        simp only [Act.put, List.setIfInBounds_toArray, List.set_cons_zero, List.set_cons_succ]
        refine take_want 3 (some 19) (.int .i64 a) rfl rfl rfl (by kernel_rfl) (by kernel_rfl) (by kernel_rfl) (fun _ _ _ h => h) (fun wx hx => exec_load rfl (load_intP (cell_bel hx C0)) rfl) hS ?_
        simp only [Act.put, List.setIfInBounds_toArray, List.set_cons_zero, List.set_cons_succ]
        refine take_want 4 (some 20) (.slice (some ⟨gB, oB, none⟩) n cB) rfl rfl rfl (by kernel_rfl) (by kernel_rfl) (by kernel_rfl) (fun _ _ _ h => h) (fun wx hx => exec_move rfl rfl) hS ?_
        simp only [Act.put, List.setIfInBounds_toArray, List.set_cons_zero, List.set_cons_succ]
        refine take_want 5 (some 21) (.int .i64 (j : Int)) rfl rfl rfl (by kernel_rfl) (by kernel_rfl) (by kernel_rfl) (fun _ _ _ h => h) (fun wx hx => exec_move rfl rfl) hS ?_
        simp only [Act.put, List.setIfInBounds_toArray, List.set_cons_zero, List.set_cons_succ]
        refine take_want 6 (some 22) (.pointer (some ⟨gB, oB + j, none⟩)) rfl rfl rfl (by kernel_rfl) (by kernel_rfl) (by kernel_rfl) (fun _ _ _ h => h) (fun wx hx => exec_index rfl (index_ints hjn) rfl rfl) hS ?_
        simp only [Act.put, List.setIfInBounds_toArray, List.set_cons_zero, List.set_cons_succ]
        refine take_want 7 (some 23) (.int .i64 b) rfl rfl rfl (by kernel_rfl) (by kernel_rfl) (by kernel_rfl) (fun _ _ _ h => h) (fun wx hx => exec_load rfl (load_intP (cell_bel hx C1)) rfl) hS ?_
        simp only [Act.put, List.setIfInBounds_toArray, List.set_cons_zero, List.set_cons_succ]
        refine take_want 8 (some 24) (.bool true) rfl rfl rfl (by kernel_rfl) (by kernel_rfl) (by kernel_rfl) (fun _ _ _ h => h) (fun wx hx => exec_neqNe rfl rfl rfl hab) hS ?_
        simp only [Act.put, List.setIfInBounds_toArray, List.set_cons_zero, List.set_cons_succ]
        refine wpAnyH_done (by kernel_rfl) ?_ _
        clear C0 C1 hab
        go_wp2_with fail
        go_ret
        exact ⟨rfl, hS⟩

set_option maxRecDepth 100000 in
set_option maxHeartbeats 1000000 in
theorem nsame_any {w : World} {kv vv kv2 vv2 : Value} {K V K2 V2 : List Int} (L M : Int) (hk : Ints w kv K) (hv : Ints w vv V) (hk2 : Ints w kv2 K2) (hv2 : Ints w vv2 V2) :
    Calls Tryd.prog 12 #[.agg #[.int .i64 L, kv, vv], .agg #[.int .i64 M, kv2, vv2]] w fun e w' => e = .returned (.bool (sameB L K V M K2 V2)) ∧ Below w.heap.size w w' := by
  have hb := nextB (bel_alloc w (.cells #[.int .i64 L, kv, vv] 30)) (bel_alloc (w.alloc (.cells #[.int .i64 L, kv, vv] 30)) (.cells #[.int .i64 M, kv2, vv2] 30))
  have HB := hide hb
  have HE1 := hide (equal_any (hk.below hb) (hk2.below hb))
  have HV := hide (And.intro (hv.below hb) (hv2.below hb))
  have hx1 : BoxN 30 ((w.alloc (.cells #[.int .i64 L, kv, vv] 30)).alloc (.cells #[.int .i64 M, kv2, vv2] 30)) w.heap.size L kv vv := heap_new2 _ _ _
  have hx2 : BoxN 30 ((w.alloc (.cells #[.int .i64 L, kv, vv] 30)).alloc (.cells #[.int .i64 M, kv2, vv2] 30)) (w.heap.size + 1) M kv2 vv2 := by
    have := heap_alloc_new (w.alloc (.cells #[.int .i64 L, kv, vv] 30)) (.cells #[.int .i64 M, kv2, vv2] 30)
    rwa [World.size_alloc] at this
  have HX1 := hide hx1
  have HX2 := hide hx2
  obtain ⟨aK, nK, cK, rfl, -⟩ := hk.form
  obtain ⟨aV, nV, cV, rfl, -⟩ := hv.form
  obtain ⟨aK2, nK2, cK2, rfl, -⟩ := hk2.form
  obtain ⟨aV2, nV2, cV2, rfl, -⟩ := hv2.form
  obtain ⟨E, hE⟩ : ∃ b, sameB L K V M K2 V2 = b := ⟨_, rfl⟩
  have HE := hide hE
  rw [hE]
  clear hk hv hk2 hv2 hb hx1 hx2 hE
  by_cases hLM : L = M
  · subst hLM
    have hbq : (L == L) = true := by simp
    go_enter Tryd.func12, Tryd.ntmps12
    go_wp2_with fail
    refine HE1.out.mono ?_
    rintro e w1 ⟨rfl, hb1⟩
    have HB1 := hide hb1
    obtain ⟨x0, x1, x2⟩ := (HX1.out.below hb1).cells
    obtain ⟨y0, y1, y2⟩ := (HX2.out.below hb1).cells
    clear hb1
    cases he1 : eqI K K2 with
    | false =>
      have hEf : E = false := by rw [← HE.out]; exact sameB_false.2 (fun h => (eqI_false.1 he1) h.2.1)
      subst hEf
      go_wp2_with fail
      go_ret
      exact ⟨rfl, nextB HB.out HB1.out⟩
    | true =>
      have hEf : E = eqI V V2 := by
        rw [← HE.out]
        cases he2 : eqI V V2 with
        | true => exact sameB_iff.2 ⟨rfl, eqI_iff.1 he1, eqI_iff.1 he2⟩
        | false => exact sameB_false.2 (fun h => (eqI_false.1 he2) h.2.2)
      go_wp2_with fail
      refine (equal_any (HV.out.1.below HB1.out) (HV.out.2.below HB1.out)).mono ?_
      rintro e w2 ⟨rfl, hb2⟩
      have HB2 := hide hb2
      rw [← hEf]
      clear hb2 hEf
      go_wp2_with fail
      go_ret
      exact ⟨rfl, nextB HB.out (nextB HB1.out HB2.out)⟩
  · have hbq : (L == M) = false := by simpa using hLM
    have hEf : E = false := by rw [← HE.out]; exact sameB_false.2 (fun h => hLM h.1)
    subst hEf
    obtain ⟨x0, x1, x2⟩ := HX1.out.cells
    obtain ⟨y0, y1, y2⟩ := HX2.out.cells
    clear hLM
    go_enter Tryd.func12, Tryd.ntmps12
    go_wp2_with fail
    go_ret
    exact ⟨rfl, HB.out⟩
end Go.Proofs.YtcidadikmmdalaaDoor
