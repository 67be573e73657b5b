/- The law PlanCounts. -/
import Derived.Test.YtnkcebngfnailaaQd
namespace Go.Proofs.Ytnkcebngfnailaa
open Go.RowKit Go.Extern

theorem is20 (w : World) : Calls Try.prog 13 #[.iface 51 (.int .i64 20), .int .i64 20] w fun e w' => e = .returned (.bool true) ∧ w' = w := is_any 20 20 w
theorem fits_ok {n : Int} (h : Fit n) (w : World) : Calls Try.prog 19 #[.int .i64 n] w fun e w' => e = .returned (.bool true) ∧ w' = w := by
  have := fits_any n w; rw [noFit_ok h] at this; exact this
theorem fits_no {n : Int} (h : ¬ Fit n) (w : World) : Calls Try.prog 19 #[.int .i64 n] w fun e w' => e = .returned (.bool false) ∧ w' = w := by
  have := fits_any n w; rw [noFit_bad h] at this; exact this
set_option maxRecDepth 100000 in
set_option maxHeartbeats 8000000 in
theorem countsA {a b c d : Int} (ha : I64 a) (hb : I64 b) (hc : I64 c) (hd : I64 d) (fa : ¬ Fit a) (w : World) :
    Calls Try.prog 4 #[.agg #[.int .i64 a, .int .i64 b, .int .i64 c, .int .i64 d]] w fun e w' => e = .returned (.bool true) ∧ Below w.heap.size w w' := by
  have C1 := hide (fun wx => reserve_no ha hb (fun h => fa h.1) wx)
  have C4 := hide (fun wx => most_no ha hb (fun h => fa h.1) wx)
  have C3 := hide (fun wx => bound_no ha hb hc (fun h => fa h.1) wx)
  have C2 := hide (fun wx => enough_no ha hb hc hd (fun h => fa h.1) wx)
  have Fa := hide (fun wx => fits_no fa wx)
  clear ha hb hc hd  fa
  go_enter Try.func4, Try.ntmps4
  go_wp2_with fail
  refine wp_region_held_drew (S := fun wx => Below (w.alloc (.cells #[.int .i64 a, .int .i64 b, .int .i64 c, .int .i64 d] 39)).heap.size (w.alloc (.cells #[.int .i64 a, .int .i64 b, .int .i64 c, .int .i64 d] 39)) wx) (by kernel_rfl) (below_drew0 _) (fun hS => ?_)
  refine take_want 0 (some 18) (.pointer (some ⟨w.heap.size, 0 + 0, none⟩)) rfl rfl rfl (by kernel_rfl) (by kernel_rfl) (by kernel_rfl) (fun _ _ _ h => h) (fun wx hx => exec_field rfl (fldQ _ 0 (by omega) wx) rfl) hS ?_
  simp only [Act.put, List.setIfInBounds_toArray, List.set_cons_zero, List.set_cons_succ]
  refine take_want 1 (some 19) (.int .i64 a) rfl rfl rfl (by kernel_rfl) (by kernel_rfl) (by kernel_rfl) (fun _ _ _ h => h) (fun wx hx => exec_load rfl (load_intV (cell_bel hx (boxQ w a b c d 0 _ rfl))) rfl) hS ?_
  simp only [Act.put, List.setIfInBounds_toArray, List.set_cons_zero, List.set_cons_succ]
  refine take_want 2 (some 20) (.pointer (some ⟨w.heap.size, 0 + 1, none⟩)) rfl rfl rfl (by kernel_rfl) (by kernel_rfl) (by kernel_rfl) (fun _ _ _ h => h) (fun wx hx => exec_field rfl (fldQ _ 1 (by omega) wx) rfl) hS ?_
  simp only [Act.put, List.setIfInBounds_toArray, List.set_cons_zero, List.set_cons_succ]
  refine take_want 3 (some 21) (.int .i64 b) rfl rfl rfl (by kernel_rfl) (by kernel_rfl) (by kernel_rfl) (fun _ _ _ h => h) (fun wx hx => exec_load rfl (load_intV (cell_bel hx (boxQ w a b c d 1 _ rfl))) rfl) hS ?_
  simp only [Act.put, List.setIfInBounds_toArray, List.set_cons_zero, List.set_cons_succ]
  refine take_want 4 (some 22) (.pointer (some ⟨w.heap.size, 0 + 2, none⟩)) rfl rfl rfl (by kernel_rfl) (by kernel_rfl) (by kernel_rfl) (fun _ _ _ h => h) (fun wx hx => exec_field rfl (fldQ _ 2 (by omega) wx) rfl) hS ?_
  simp only [Act.put, List.setIfInBounds_toArray, List.set_cons_zero, List.set_cons_succ]
  refine take_want 5 (some 23) (.int .i64 c) rfl rfl rfl (by kernel_rfl) (by kernel_rfl) (by kernel_rfl) (fun _ _ _ h => h) (fun wx hx => exec_load rfl (load_intV (cell_bel hx (boxQ w a b c d 2 _ rfl))) rfl) hS ?_
  simp only [Act.put, List.setIfInBounds_toArray, List.set_cons_zero, List.set_cons_succ]
  refine take_want 6 (some 24) (.pointer (some ⟨w.heap.size, 0 + 3, none⟩)) rfl rfl rfl (by kernel_rfl) (by kernel_rfl) (by kernel_rfl) (fun _ _ _ h => h) (fun wx hx => exec_field rfl (fldQ _ 3 (by omega) wx) rfl) hS ?_
  simp only [Act.put, List.setIfInBounds_toArray, List.set_cons_zero, List.set_cons_succ]
  refine take_want 7 (some 25) (.int .i64 d) rfl rfl rfl (by kernel_rfl) (by kernel_rfl) (by kernel_rfl) (fun _ _ _ h => h) (fun wx hx => exec_load rfl (load_intV (cell_bel hx (boxQ w a b c d 3 _ rfl))) rfl) hS ?_
  simp only [Act.put, List.setIfInBounds_toArray, List.set_cons_zero, List.set_cons_succ]
  refine take_want 8 (some 3) (.int .i64 a) rfl rfl rfl (by kernel_rfl) (by kernel_rfl) (by kernel_rfl) (fun _ _ _ h => h) (fun wx hx => exec_assign rfl rfl) hS ?_
  simp only [Act.put, List.setIfInBounds_toArray, List.set_cons_zero, List.set_cons_succ]
  refine take_want 9 (some 4) (.int .i64 b) rfl rfl rfl (by kernel_rfl) (by kernel_rfl) (by kernel_rfl) (fun _ _ _ h => h) (fun wx hx => exec_assign rfl rfl) hS ?_
  simp only [Act.put, List.setIfInBounds_toArray, List.set_cons_zero, List.set_cons_succ]
  refine take_want 10 (some 5) (.int .i64 c) rfl rfl rfl (by kernel_rfl) (by kernel_rfl) (by kernel_rfl) (fun _ _ _ h => h) (fun wx hx => exec_assign rfl rfl) hS ?_
  simp only [Act.put, List.setIfInBounds_toArray, List.set_cons_zero, List.set_cons_succ]
  refine take_want 11 (some 6) (.int .i64 d) rfl rfl rfl (by kernel_rfl) (by kernel_rfl) (by kernel_rfl) (fun _ _ _ h => h) (fun wx hx => exec_assign rfl rfl) hS ?_
  simp only [Act.put, List.setIfInBounds_toArray, List.set_cons_zero, List.set_cons_succ]
  refine wpAnyH_done (by kernel_rfl) ?_ _
  have HB0 := hide (nextB (bel_alloc w (.cells #[.int .i64 a, .int .i64 b, .int .i64 c, .int .i64 d] 39)) hS)
  obtain ⟨w0, hw0⟩ : ∃ x, (w.alloc (.cells #[.int .i64 a, .int .i64 b, .int .i64 c, .int .i64 d] 39)).drew = x := ⟨_, rfl⟩
  rw [hw0] at HB0 ⊢
  clear hS hw0
  go_wp2_with fail
  refine (C1.out _).mono ?_
  rintro e w1 ⟨rfl, hb1⟩
  have HB1 := hide (nextB HB0.out hb1)
  clear hb1 HB0 C1
  go_wp2_with fail
  refine (C2.out _).mono ?_
  rintro e w2 ⟨rfl, hb2⟩
  have HB2 := hide (nextB HB1.out hb2)
  clear hb2 HB1 C2
  go_wp2_with fail
  refine (C3.out _).mono ?_
  rintro e w3 ⟨rfl, hb3⟩
  have HB3 := hide (nextB HB2.out hb3)
  clear hb3 HB2 C3
  go_wp2_with fail
  refine (C4.out _).mono ?_
  rintro e w4 ⟨rfl, hb4⟩
  have HB4 := hide (nextB HB3.out hb4)
  clear hb4 HB3 C4
  go_wp2_with fail
  refine (Fa.out _).mono ?_
  rintro e wF ⟨rfl, rfl⟩
  go_wp2_with fail
  refine (is20 _).mono ?_
  rintro e wF ⟨rfl, rfl⟩
  go_wp2_with fail
  refine (is20 _).mono ?_
  rintro e wF ⟨rfl, rfl⟩
  go_wp2_with fail
  refine (is20 _).mono ?_
  rintro e wF ⟨rfl, rfl⟩
  go_wp2_with fail
  refine (is20 _).mono ?_
  rintro e wF ⟨rfl, rfl⟩
  go_wp2_with fail
  refine (awake_any _).mono ?_
  rintro e wA ⟨rfl, hbA⟩
  have HBA := hide (nextB HB4.out hbA)
  clear hbA HB4
  go_wp2_with fail
  go_ret
  exact ⟨rfl, HBA.out⟩
set_option maxRecDepth 100000 in
set_option maxHeartbeats 8000000 in
theorem countsB {a b c d : Int} (ha : I64 a) (hb : I64 b) (hc : I64 c) (hd : I64 d) (fa : Fit a) (fb : ¬ Fit b) (w : World) :
    Calls Try.prog 4 #[.agg #[.int .i64 a, .int .i64 b, .int .i64 c, .int .i64 d]] w fun e w' => e = .returned (.bool true) ∧ Below w.heap.size w w' := by
  have C1 := hide (fun wx => reserve_no ha hb (fun h => fb h.2) wx)
  have C4 := hide (fun wx => most_no ha hb (fun h => fb h.2) wx)
  have C3 := hide (fun wx => bound_no ha hb hc (fun h => fb h.2.1) wx)
  have C2 := hide (fun wx => enough_no ha hb hc hd (fun h => fb h.2.1) wx)
  have Fa := hide (fun wx => fits_ok fa wx)
  have Fb := hide (fun wx => fits_no fb wx)
  clear ha hb hc hd fa fb
  go_enter Try.func4, Try.ntmps4
  go_wp2_with fail
  refine wp_region_held_drew (S := fun wx => Below (w.alloc (.cells #[.int .i64 a, .int .i64 b, .int .i64 c, .int .i64 d] 39)).heap.size (w.alloc (.cells #[.int .i64 a, .int .i64 b, .int .i64 c, .int .i64 d] 39)) wx) (by kernel_rfl) (below_drew0 _) (fun hS => ?_)
  refine take_want 0 (some 18) (.pointer (some ⟨w.heap.size, 0 + 0, none⟩)) rfl rfl rfl (by kernel_rfl) (by kernel_rfl) (by kernel_rfl) (fun _ _ _ h => h) (fun wx hx => exec_field rfl (fldQ _ 0 (by omega) wx) rfl) hS ?_
  simp only [Act.put, List.setIfInBounds_toArray, List.set_cons_zero, List.set_cons_succ]
  refine take_want 1 (some 19) (.int .i64 a) rfl rfl rfl (by kernel_rfl) (by kernel_rfl) (by kernel_rfl) (fun _ _ _ h => h) (fun wx hx => exec_load rfl (load_intV (cell_bel hx (boxQ w a b c d 0 _ rfl))) rfl) hS ?_
  simp only [Act.put, List.setIfInBounds_toArray, List.set_cons_zero, List.set_cons_succ]
  refine take_want 2 (some 20) (.pointer (some ⟨w.heap.size, 0 + 1, none⟩)) rfl rfl rfl (by kernel_rfl) (by kernel_rfl) (by kernel_rfl) (fun _ _ _ h => h) (fun wx hx => exec_field rfl (fldQ _ 1 (by omega) wx) rfl) hS ?_
  simp only [Act.put, List.setIfInBounds_toArray, List.set_cons_zero, List.set_cons_succ]
  refine take_want 3 (some 21) (.int .i64 b) rfl rfl rfl (by kernel_rfl) (by kernel_rfl) (by kernel_rfl) (fun _ _ _ h => h) (fun wx hx => exec_load rfl (load_intV (cell_bel hx (boxQ w a b c d 1 _ rfl))) rfl) hS ?_
  simp only [Act.put, List.setIfInBounds_toArray, List.set_cons_zero, List.set_cons_succ]
  refine take_want 4 (some 22) (.pointer (some ⟨w.heap.size, 0 + 2, none⟩)) rfl rfl rfl (by kernel_rfl) (by kernel_rfl) (by kernel_rfl) (fun _ _ _ h => h) (fun wx hx => exec_field rfl (fldQ _ 2 (by omega) wx) rfl) hS ?_
  simp only [Act.put, List.setIfInBounds_toArray, List.set_cons_zero, List.set_cons_succ]
  refine take_want 5 (some 23) (.int .i64 c) rfl rfl rfl (by kernel_rfl) (by kernel_rfl) (by kernel_rfl) (fun _ _ _ h => h) (fun wx hx => exec_load rfl (load_intV (cell_bel hx (boxQ w a b c d 2 _ rfl))) rfl) hS ?_
  simp only [Act.put, List.setIfInBounds_toArray, List.set_cons_zero, List.set_cons_succ]
  refine take_want 6 (some 24) (.pointer (some ⟨w.heap.size, 0 + 3, none⟩)) rfl rfl rfl (by kernel_rfl) (by kernel_rfl) (by kernel_rfl) (fun _ _ _ h => h) (fun wx hx => exec_field rfl (fldQ _ 3 (by omega) wx) rfl) hS ?_
  simp only [Act.put, List.setIfInBounds_toArray, List.set_cons_zero, List.set_cons_succ]
  refine take_want 7 (some 25) (.int .i64 d) rfl rfl rfl (by kernel_rfl) (by kernel_rfl) (by kernel_rfl) (fun _ _ _ h => h) (fun wx hx => exec_load rfl (load_intV (cell_bel hx (boxQ w a b c d 3 _ rfl))) rfl) hS ?_
  simp only [Act.put, List.setIfInBounds_toArray, List.set_cons_zero, List.set_cons_succ]
  refine take_want 8 (some 3) (.int .i64 a) rfl rfl rfl (by kernel_rfl) (by kernel_rfl) (by kernel_rfl) (fun _ _ _ h => h) (fun wx hx => exec_assign rfl rfl) hS ?_
  simp only [Act.put, List.setIfInBounds_toArray, List.set_cons_zero, List.set_cons_succ]
  refine take_want 9 (some 4) (.int .i64 b) rfl rfl rfl (by kernel_rfl) (by kernel_rfl) (by kernel_rfl) (fun _ _ _ h => h) (fun wx hx => exec_assign rfl rfl) hS ?_
  simp only [Act.put, List.setIfInBounds_toArray, List.set_cons_zero, List.set_cons_succ]
  refine take_want 10 (some 5) (.int .i64 c) rfl rfl rfl (by kernel_rfl) (by kernel_rfl) (by kernel_rfl) (fun _ _ _ h => h) (fun wx hx => exec_assign rfl rfl) hS ?_
  simp only [Act.put, List.setIfInBounds_toArray, List.set_cons_zero, List.set_cons_succ]
  refine take_want 11 (some 6) (.int .i64 d) rfl rfl rfl (by kernel_rfl) (by kernel_rfl) (by kernel_rfl) (fun _ _ _ h => h) (fun wx hx => exec_assign rfl rfl) hS ?_
  simp only [Act.put, List.setIfInBounds_toArray, List.set_cons_zero, List.set_cons_succ]
  refine wpAnyH_done (by kernel_rfl) ?_ _
  have HB0 := hide (nextB (bel_alloc w (.cells #[.int .i64 a, .int .i64 b, .int .i64 c, .int .i64 d] 39)) hS)
  obtain ⟨w0, hw0⟩ : ∃ x, (w.alloc (.cells #[.int .i64 a, .int .i64 b, .int .i64 c, .int .i64 d] 39)).drew = x := ⟨_, rfl⟩
  rw [hw0] at HB0 ⊢
  clear hS hw0
  go_wp2_with fail
  refine (C1.out _).mono ?_
  rintro e w1 ⟨rfl, hb1⟩
  have HB1 := hide (nextB HB0.out hb1)
  clear hb1 HB0 C1
  go_wp2_with fail
  refine (C2.out _).mono ?_
  rintro e w2 ⟨rfl, hb2⟩
  have HB2 := hide (nextB HB1.out hb2)
  clear hb2 HB1 C2
  go_wp2_with fail
  refine (C3.out _).mono ?_
  rintro e w3 ⟨rfl, hb3⟩
  have HB3 := hide (nextB HB2.out hb3)
  clear hb3 HB2 C3
  go_wp2_with fail
  refine (C4.out _).mono ?_
  rintro e w4 ⟨rfl, hb4⟩
  have HB4 := hide (nextB HB3.out hb4)
  clear hb4 HB3 C4
  go_wp2_with fail
  refine (Fa.out _).mono ?_
  rintro e wF ⟨rfl, rfl⟩
  go_wp2_with fail
  refine (Fb.out _).mono ?_
  rintro e wF ⟨rfl, rfl⟩
  go_wp2_with fail
  refine (is20 _).mono ?_
  rintro e wF ⟨rfl, rfl⟩
  go_wp2_with fail
  refine (is20 _).mono ?_
  rintro e wF ⟨rfl, rfl⟩
  go_wp2_with fail
  refine (is20 _).mono ?_
  rintro e wF ⟨rfl, rfl⟩
  go_wp2_with fail
  refine (is20 _).mono ?_
  rintro e wF ⟨rfl, rfl⟩
  go_wp2_with fail
  refine (awake_any _).mono ?_
  rintro e wA ⟨rfl, hbA⟩
  have HBA := hide (nextB HB4.out hbA)
  clear hbA HB4
  go_wp2_with fail
  go_ret
  exact ⟨rfl, HBA.out⟩
set_option maxRecDepth 100000 in
set_option maxHeartbeats 8000000 in
theorem countsC {a b c d : Int} (ha : I64 a) (hb : I64 b) (hc : I64 c) (hd : I64 d) (fa : Fit a) (fb : Fit b) (fc : ¬ Fit c) (w : World) :
    Calls Try.prog 4 #[.agg #[.int .i64 a, .int .i64 b, .int .i64 c, .int .i64 d]] w fun e w' => e = .returned (.bool true) ∧ Below w.heap.size w w' := by
  obtain ⟨X, hX⟩ : ∃ X, 2 * a + 8 * b + 32 = X := ⟨_, rfl⟩
  obtain ⟨M, hM⟩ : ∃ M, 8 * a + 24 * b = M := ⟨_, rfl⟩
  have C1 := hide (fun wx => reserve_ok fa fb hX wx)
  have C4 := hide (fun wx => most_ok fa fb hM wx)
  have e0 : IntKind.i64.wrap (2 * a) = 2 * a := by unfold Fit at fa fb; rw [IntKind.wrap_i64]; omega
  have e1 : IntKind.i64.wrap (8 * b) = 8 * b := by unfold Fit at fa fb; rw [IntKind.wrap_i64]; omega
  have e2 : IntKind.i64.wrap (2 * a + 8 * b) = 2 * a + 8 * b := by unfold Fit at fa fb; rw [IntKind.wrap_i64]; omega
  have e3 : IntKind.i64.wrap (2 * a + 8 * b + 32) = X := by unfold Fit at fa fb; rw [IntKind.wrap_i64]; omega
  have e4 : IntKind.i64.wrap (8 * a) = 8 * a := by unfold Fit at fa fb; rw [IntKind.wrap_i64]; omega
  have e5 : IntKind.i64.wrap (24 * b) = 24 * b := by unfold Fit at fa fb; rw [IntKind.wrap_i64]; omega
  have e6 : IntKind.i64.wrap (8 * a + 24 * b) = M := by unfold Fit at fa fb; rw [IntKind.wrap_i64]; omega
  have n1 : (X != X) = false := by simp
  have n2 : (M != M) = false := by simp
  have C3 := hide (fun wx => bound_no ha hb hc (fun h => fc h.2.2) wx)
  have C2 := hide (fun wx => enough_no ha hb hc hd (fun h => fc h.2.2.1) wx)
  have Fa := hide (fun wx => fits_ok fa wx)
  have Fb := hide (fun wx => fits_ok fb wx)
  have Fc := hide (fun wx => fits_no fc wx)
  clear ha hb hc hd fa fb fc hX hM
  go_enter Try.func4, Try.ntmps4
  go_wp2_with fail
  refine wp_region_held_drew (S := fun wx => Below (w.alloc (.cells #[.int .i64 a, .int .i64 b, .int .i64 c, .int .i64 d] 39)).heap.size (w.alloc (.cells #[.int .i64 a, .int .i64 b, .int .i64 c, .int .i64 d] 39)) wx) (by kernel_rfl) (below_drew0 _) (fun hS => ?_)
  refine take_want 0 (some 18) (.pointer (some ⟨w.heap.size, 0 + 0, none⟩)) rfl rfl rfl (by kernel_rfl) (by kernel_rfl) (by kernel_rfl) (fun _ _ _ h => h) (fun wx hx => exec_field rfl (fldQ _ 0 (by omega) wx) rfl) hS ?_
  simp only [Act.put, List.setIfInBounds_toArray, List.set_cons_zero, List.set_cons_succ]
  refine take_want 1 (some 19) (.int .i64 a) rfl rfl rfl (by kernel_rfl) (by kernel_rfl) (by kernel_rfl) (fun _ _ _ h => h) (fun wx hx => exec_load rfl (load_intV (cell_bel hx (boxQ w a b c d 0 _ rfl))) rfl) hS ?_
  simp only [Act.put, List.setIfInBounds_toArray, List.set_cons_zero, List.set_cons_succ]
  refine take_want 2 (some 20) (.pointer (some ⟨w.heap.size, 0 + 1, none⟩)) rfl rfl rfl (by kernel_rfl) (by kernel_rfl) (by kernel_rfl) (fun _ _ _ h => h) (fun wx hx => exec_field rfl (fldQ _ 1 (by omega) wx) rfl) hS ?_
  simp only [Act.put, List.setIfInBounds_toArray, List.set_cons_zero, List.set_cons_succ]
  refine take_want 3 (some 21) (.int .i64 b) rfl rfl rfl (by kernel_rfl) (by kernel_rfl) (by kernel_rfl) (fun _ _ _ h => h) (fun wx hx => exec_load rfl (load_intV (cell_bel hx (boxQ w a b c d 1 _ rfl))) rfl) hS ?_
  simp only [Act.put, List.setIfInBounds_toArray, List.set_cons_zero, List.set_cons_succ]
  refine take_want 4 (some 22) (.pointer (some ⟨w.heap.size, 0 + 2, none⟩)) rfl rfl rfl (by kernel_rfl) (by kernel_rfl) (by kernel_rfl) (fun _ _ _ h => h) (fun wx hx => exec_field rfl (fldQ _ 2 (by omega) wx) rfl) hS ?_
  simp only [Act.put, List.setIfInBounds_toArray, List.set_cons_zero, List.set_cons_succ]
  refine take_want 5 (some 23) (.int .i64 c) rfl rfl rfl (by kernel_rfl) (by kernel_rfl) (by kernel_rfl) (fun _ _ _ h => h) (fun wx hx => exec_load rfl (load_intV (cell_bel hx (boxQ w a b c d 2 _ rfl))) rfl) hS ?_
  simp only [Act.put, List.setIfInBounds_toArray, List.set_cons_zero, List.set_cons_succ]
  refine take_want 6 (some 24) (.pointer (some ⟨w.heap.size, 0 + 3, none⟩)) rfl rfl rfl (by kernel_rfl) (by kernel_rfl) (by kernel_rfl) (fun _ _ _ h => h) (fun wx hx => exec_field rfl (fldQ _ 3 (by omega) wx) rfl) hS ?_
  simp only [Act.put, List.setIfInBounds_toArray, List.set_cons_zero, List.set_cons_succ]
  refine take_want 7 (some 25) (.int .i64 d) rfl rfl rfl (by kernel_rfl) (by kernel_rfl) (by kernel_rfl) (fun _ _ _ h => h) (fun wx hx => exec_load rfl (load_intV (cell_bel hx (boxQ w a b c d 3 _ rfl))) rfl) hS ?_
  simp only [Act.put, List.setIfInBounds_toArray, List.set_cons_zero, List.set_cons_succ]
  refine take_want 8 (some 3) (.int .i64 a) rfl rfl rfl (by kernel_rfl) (by kernel_rfl) (by kernel_rfl) (fun _ _ _ h => h) (fun wx hx => exec_assign rfl rfl) hS ?_
  simp only [Act.put, List.setIfInBounds_toArray, List.set_cons_zero, List.set_cons_succ]
  refine take_want 9 (some 4) (.int .i64 b) rfl rfl rfl (by kernel_rfl) (by kernel_rfl) (by kernel_rfl) (fun _ _ _ h => h) (fun wx hx => exec_assign rfl rfl) hS ?_
  simp only [Act.put, List.setIfInBounds_toArray, List.set_cons_zero, List.set_cons_succ]
  refine take_want 10 (some 5) (.int .i64 c) rfl rfl rfl (by kernel_rfl) (by kernel_rfl) (by kernel_rfl) (fun _ _ _ h => h) (fun wx hx => exec_assign rfl rfl) hS ?_
  simp only [Act.put, List.setIfInBounds_toArray, List.set_cons_zero, List.set_cons_succ]
  refine take_want 11 (some 6) (.int .i64 d) rfl rfl rfl (by kernel_rfl) (by kernel_rfl) (by kernel_rfl) (fun _ _ _ h => h) (fun wx hx => exec_assign rfl rfl) hS ?_
  simp only [Act.put, List.setIfInBounds_toArray, List.set_cons_zero, List.set_cons_succ]
  refine wpAnyH_done (by kernel_rfl) ?_ _
  have HB0 := hide (nextB (bel_alloc w (.cells #[.int .i64 a, .int .i64 b, .int .i64 c, .int .i64 d] 39)) hS)
  obtain ⟨w0, hw0⟩ : ∃ x, (w.alloc (.cells #[.int .i64 a, .int .i64 b, .int .i64 c, .int .i64 d] 39)).drew = x := ⟨_, rfl⟩
  rw [hw0] at HB0 ⊢
  clear hS hw0
  go_wp2_with fail
  refine (C1.out _).mono ?_
  rintro e w1 ⟨rfl, hb1⟩
  have HB1 := hide (nextB HB0.out hb1)
  clear hb1 HB0 C1
  go_wp2_with fail
  refine (C2.out _).mono ?_
  rintro e w2 ⟨rfl, hb2⟩
  have HB2 := hide (nextB HB1.out hb2)
  clear hb2 HB1 C2
  go_wp2_with fail
  refine (C3.out _).mono ?_
  rintro e w3 ⟨rfl, hb3⟩
  have HB3 := hide (nextB HB2.out hb3)
  clear hb3 HB2 C3
  go_wp2_with fail
  refine (C4.out _).mono ?_
  rintro e w4 ⟨rfl, hb4⟩
  have HB4 := hide (nextB HB3.out hb4)
  clear hb4 HB3 C4
  go_wp2_with fail
  refine (Fa.out _).mono ?_
  rintro e wF ⟨rfl, rfl⟩
  go_wp2_with fail
  refine (Fb.out _).mono ?_
  rintro e wF ⟨rfl, rfl⟩
  go_wp2_with fail
  refine (Fc.out _).mono ?_
  rintro e wF ⟨rfl, rfl⟩
  go_wp2_with fail
  refine (is20 _).mono ?_
  rintro e wF ⟨rfl, rfl⟩
  go_wp2_with fail
  refine (is20 _).mono ?_
  rintro e wF ⟨rfl, rfl⟩
  go_wp2_with fail
  refine (awake_any _).mono ?_
  rintro e wA ⟨rfl, hbA⟩
  have HBA := hide (nextB HB4.out hbA)
  clear hbA HB4
  go_wp2_with fail
  go_ret
  exact ⟨rfl, HBA.out⟩
set_option maxRecDepth 100000 in
set_option maxHeartbeats 8000000 in
theorem countsD {a b c d : Int} (ha : I64 a) (hb : I64 b) (hc : I64 c) (hd : I64 d) (fa : Fit a) (fb : Fit b) (fc : Fit c) (fd : ¬ Fit d) (w : World) :
    Calls Try.prog 4 #[.agg #[.int .i64 a, .int .i64 b, .int .i64 c, .int .i64 d]] w fun e w' => e = .returned (.bool true) ∧ Below w.heap.size w w' := by
  obtain ⟨X, hX⟩ : ∃ X, 2 * a + 8 * b + 32 = X := ⟨_, rfl⟩
  obtain ⟨M, hM⟩ : ∃ M, 8 * a + 24 * b = M := ⟨_, rfl⟩
  have C1 := hide (fun wx => reserve_ok fa fb hX wx)
  have C4 := hide (fun wx => most_ok fa fb hM wx)
  have e0 : IntKind.i64.wrap (2 * a) = 2 * a := by unfold Fit at fa fb; rw [IntKind.wrap_i64]; omega
  have e1 : IntKind.i64.wrap (8 * b) = 8 * b := by unfold Fit at fa fb; rw [IntKind.wrap_i64]; omega
  have e2 : IntKind.i64.wrap (2 * a + 8 * b) = 2 * a + 8 * b := by unfold Fit at fa fb; rw [IntKind.wrap_i64]; omega
  have e3 : IntKind.i64.wrap (2 * a + 8 * b + 32) = X := by unfold Fit at fa fb; rw [IntKind.wrap_i64]; omega
  have e4 : IntKind.i64.wrap (8 * a) = 8 * a := by unfold Fit at fa fb; rw [IntKind.wrap_i64]; omega
  have e5 : IntKind.i64.wrap (24 * b) = 24 * b := by unfold Fit at fa fb; rw [IntKind.wrap_i64]; omega
  have e6 : IntKind.i64.wrap (8 * a + 24 * b) = M := by unfold Fit at fa fb; rw [IntKind.wrap_i64]; omega
  have n1 : (X != X) = false := by simp
  have n2 : (M != M) = false := by simp
  obtain ⟨Z, hZ⟩ : ∃ Z, 4 * a + 12 * b + 8 * c + 8 = Z := ⟨_, rfl⟩
  have C3 := hide (fun wx => bound_ok fa fb fc hZ wx)
  have g0 : IntKind.i64.wrap (4 * a) = 4 * a := by unfold Fit at fa fb fc; rw [IntKind.wrap_i64]; omega
  have g1 : IntKind.i64.wrap (12 * b) = 12 * b := by unfold Fit at fa fb fc; rw [IntKind.wrap_i64]; omega
  have g2 : IntKind.i64.wrap (4 * a + 12 * b) = 4 * a + 12 * b := by unfold Fit at fa fb fc; rw [IntKind.wrap_i64]; omega
  have g3 : IntKind.i64.wrap (8 * c) = 8 * c := by unfold Fit at fa fb fc; rw [IntKind.wrap_i64]; omega
  have g4 : IntKind.i64.wrap (4 * a + 12 * b + 8 * c) = 4 * a + 12 * b + 8 * c := by unfold Fit at fa fb fc; rw [IntKind.wrap_i64]; omega
  have g5 : IntKind.i64.wrap (4 * a + 12 * b + 8 * c + 8) = Z := by unfold Fit at fa fb fc; rw [IntKind.wrap_i64]; omega
  have n3 : (Z != Z) = false := by simp
  have C2 := hide (fun wx => enough_no ha hb hc hd (fun h => fd h.2.2.2) wx)
  have Fa := hide (fun wx => fits_ok fa wx)
  have Fb := hide (fun wx => fits_ok fb wx)
  have Fc := hide (fun wx => fits_ok fc wx)
  have Fd := hide (fun wx => fits_no fd wx)
  clear ha hb hc hd fa fb fc fd hX hM hZ
  go_enter Try.func4, Try.ntmps4
  go_wp2_with fail
  refine wp_region_held_drew (S := fun wx => Below (w.alloc (.cells #[.int .i64 a, .int .i64 b, .int .i64 c, .int .i64 d] 39)).heap.size (w.alloc (.cells #[.int .i64 a, .int .i64 b, .int .i64 c, .int .i64 d] 39)) wx) (by kernel_rfl) (below_drew0 _) (fun hS => ?_)
  refine take_want 0 (some 18) (.pointer (some ⟨w.heap.size, 0 + 0, none⟩)) rfl rfl rfl (by kernel_rfl) (by kernel_rfl) (by kernel_rfl) (fun _ _ _ h => h) (fun wx hx => exec_field rfl (fldQ _ 0 (by omega) wx) rfl) hS ?_
  simp only [Act.put, List.setIfInBounds_toArray, List.set_cons_zero, List.set_cons_succ]
  refine take_want 1 (some 19) (.int .i64 a) rfl rfl rfl (by kernel_rfl) (by kernel_rfl) (by kernel_rfl) (fun _ _ _ h => h) (fun wx hx => exec_load rfl (load_intV (cell_bel hx (boxQ w a b c d 0 _ rfl))) rfl) hS ?_
  simp only [Act.put, List.setIfInBounds_toArray, List.set_cons_zero, List.set_cons_succ]
  refine take_want 2 (some 20) (.pointer (some ⟨w.heap.size, 0 + 1, none⟩)) rfl rfl rfl (by kernel_rfl) (by kernel_rfl) (by kernel_rfl) (fun _ _ _ h => h) (fun wx hx => exec_field rfl (fldQ _ 1 (by omega) wx) rfl) hS ?_
  simp only [Act.put, List.setIfInBounds_toArray, List.set_cons_zero, List.set_cons_succ]
  refine take_want 3 (some 21) (.int .i64 b) rfl rfl rfl (by kernel_rfl) (by kernel_rfl) (by kernel_rfl) (fun _ _ _ h => h) (fun wx hx => exec_load rfl (load_intV (cell_bel hx (boxQ w a b c d 1 _ rfl))) rfl) hS ?_
  simp only [Act.put, List.setIfInBounds_toArray, List.set_cons_zero, List.set_cons_succ]
  refine take_want 4 (some 22) (.pointer (some ⟨w.heap.size, 0 + 2, none⟩)) rfl rfl rfl (by kernel_rfl) (by kernel_rfl) (by kernel_rfl) (fun _ _ _ h => h) (fun wx hx => exec_field rfl (fldQ _ 2 (by omega) wx) rfl) hS ?_
  simp only [Act.put, List.setIfInBounds_toArray, List.set_cons_zero, List.set_cons_succ]
  refine take_want 5 (some 23) (.int .i64 c) rfl rfl rfl (by kernel_rfl) (by kernel_rfl) (by kernel_rfl) (fun _ _ _ h => h) (fun wx hx => exec_load rfl (load_intV (cell_bel hx (boxQ w a b c d 2 _ rfl))) rfl) hS ?_
  simp only [Act.put, List.setIfInBounds_toArray, List.set_cons_zero, List.set_cons_succ]
  refine take_want 6 (some 24) (.pointer (some ⟨w.heap.size, 0 + 3, none⟩)) rfl rfl rfl (by kernel_rfl) (by kernel_rfl) (by kernel_rfl) (fun _ _ _ h => h) (fun wx hx => exec_field rfl (fldQ _ 3 (by omega) wx) rfl) hS ?_
  simp only [Act.put, List.setIfInBounds_toArray, List.set_cons_zero, List.set_cons_succ]
  refine take_want 7 (some 25) (.int .i64 d) rfl rfl rfl (by kernel_rfl) (by kernel_rfl) (by kernel_rfl) (fun _ _ _ h => h) (fun wx hx => exec_load rfl (load_intV (cell_bel hx (boxQ w a b c d 3 _ rfl))) rfl) hS ?_
  simp only [Act.put, List.setIfInBounds_toArray, List.set_cons_zero, List.set_cons_succ]
  refine take_want 8 (some 3) (.int .i64 a) rfl rfl rfl (by kernel_rfl) (by kernel_rfl) (by kernel_rfl) (fun _ _ _ h => h) (fun wx hx => exec_assign rfl rfl) hS ?_
  simp only [Act.put, List.setIfInBounds_toArray, List.set_cons_zero, List.set_cons_succ]
  refine take_want 9 (some 4) (.int .i64 b) rfl rfl rfl (by kernel_rfl) (by kernel_rfl) (by kernel_rfl) (fun _ _ _ h => h) (fun wx hx => exec_assign rfl rfl) hS ?_
  simp only [Act.put, List.setIfInBounds_toArray, List.set_cons_zero, List.set_cons_succ]
  refine take_want 10 (some 5) (.int .i64 c) rfl rfl rfl (by kernel_rfl) (by kernel_rfl) (by kernel_rfl) (fun _ _ _ h => h) (fun wx hx => exec_assign rfl rfl) hS ?_
  simp only [Act.put, List.setIfInBounds_toArray, List.set_cons_zero, List.set_cons_succ]
  refine take_want 11 (some 6) (.int .i64 d) rfl rfl rfl (by kernel_rfl) (by kernel_rfl) (by kernel_rfl) (fun _ _ _ h => h) (fun wx hx => exec_assign rfl rfl) hS ?_
  simp only [Act.put, List.setIfInBounds_toArray, List.set_cons_zero, List.set_cons_succ]
  refine wpAnyH_done (by kernel_rfl) ?_ _
  have HB0 := hide (nextB (bel_alloc w (.cells #[.int .i64 a, .int .i64 b, .int .i64 c, .int .i64 d] 39)) hS)
  obtain ⟨w0, hw0⟩ : ∃ x, (w.alloc (.cells #[.int .i64 a, .int .i64 b, .int .i64 c, .int .i64 d] 39)).drew = x := ⟨_, rfl⟩
  rw [hw0] at HB0 ⊢
  clear hS hw0
  go_wp2_with fail
  refine (C1.out _).mono ?_
  rintro e w1 ⟨rfl, hb1⟩
  have HB1 := hide (nextB HB0.out hb1)
  clear hb1 HB0 C1
  go_wp2_with fail
  refine (C2.out _).mono ?_
  rintro e w2 ⟨rfl, hb2⟩
  have HB2 := hide (nextB HB1.out hb2)
  clear hb2 HB1 C2
  go_wp2_with fail
  refine (C3.out _).mono ?_
  rintro e w3 ⟨rfl, hb3⟩
  have HB3 := hide (nextB HB2.out hb3)
  clear hb3 HB2 C3
  go_wp2_with fail
  refine (C4.out _).mono ?_
  rintro e w4 ⟨rfl, hb4⟩
  have HB4 := hide (nextB HB3.out hb4)
  clear hb4 HB3 C4
  go_wp2_with fail
  refine (Fa.out _).mono ?_
  rintro e wF ⟨rfl, rfl⟩
  go_wp2_with fail
  refine (Fb.out _).mono ?_
  rintro e wF ⟨rfl, rfl⟩
  go_wp2_with fail
  refine (Fc.out _).mono ?_
  rintro e wF ⟨rfl, rfl⟩
  go_wp2_with fail
  refine (Fd.out _).mono ?_
  rintro e wF ⟨rfl, rfl⟩
  go_wp2_with fail
  refine (is20 _).mono ?_
  rintro e wF ⟨rfl, rfl⟩
  go_wp2_with fail
  refine (awake_any _).mono ?_
  rintro e wA ⟨rfl, hbA⟩
  have HBA := hide (nextB HB4.out hbA)
  clear hbA HB4
  go_wp2_with fail
  go_ret
  exact ⟨rfl, HBA.out⟩
set_option maxRecDepth 100000 in
set_option maxHeartbeats 8000000 in
theorem countsY {a b c d : Int} (fa : Fit a) (fb : Fit b) (fc : Fit c) (fd : Fit d) (hok : a + 2 * b + 8 * c + 32 ≤ d) (w : World) :
    Calls Try.prog 4 #[.agg #[.int .i64 a, .int .i64 b, .int .i64 c, .int .i64 d]] w fun e w' => e = .returned (.bool true) ∧ Below w.heap.size w w' := by
  obtain ⟨X, hX⟩ : ∃ X, 2 * a + 8 * b + 32 = X := ⟨_, rfl⟩
  obtain ⟨M, hM⟩ : ∃ M, 8 * a + 24 * b = M := ⟨_, rfl⟩
  have C1 := hide (fun wx => reserve_ok fa fb hX wx)
  have C4 := hide (fun wx => most_ok fa fb hM wx)
  have e0 : IntKind.i64.wrap (2 * a) = 2 * a := by unfold Fit at fa fb; rw [IntKind.wrap_i64]; omega
  have e1 : IntKind.i64.wrap (8 * b) = 8 * b := by unfold Fit at fa fb; rw [IntKind.wrap_i64]; omega
  have e2 : IntKind.i64.wrap (2 * a + 8 * b) = 2 * a + 8 * b := by unfold Fit at fa fb; rw [IntKind.wrap_i64]; omega
  have e3 : IntKind.i64.wrap (2 * a + 8 * b + 32) = X := by unfold Fit at fa fb; rw [IntKind.wrap_i64]; omega
  have e4 : IntKind.i64.wrap (8 * a) = 8 * a := by unfold Fit at fa fb; rw [IntKind.wrap_i64]; omega
  have e5 : IntKind.i64.wrap (24 * b) = 24 * b := by unfold Fit at fa fb; rw [IntKind.wrap_i64]; omega
  have e6 : IntKind.i64.wrap (8 * a + 24 * b) = M := by unfold Fit at fa fb; rw [IntKind.wrap_i64]; omega
  have n1 : (X != X) = false := by simp
  have n2 : (M != M) = false := by simp
  obtain ⟨Z, hZ⟩ : ∃ Z, 4 * a + 12 * b + 8 * c + 8 = Z := ⟨_, rfl⟩
  have C3 := hide (fun wx => bound_ok fa fb fc hZ wx)
  have g0 : IntKind.i64.wrap (4 * a) = 4 * a := by unfold Fit at fa fb fc; rw [IntKind.wrap_i64]; omega
  have g1 : IntKind.i64.wrap (12 * b) = 12 * b := by unfold Fit at fa fb fc; rw [IntKind.wrap_i64]; omega
  have g2 : IntKind.i64.wrap (4 * a + 12 * b) = 4 * a + 12 * b := by unfold Fit at fa fb fc; rw [IntKind.wrap_i64]; omega
  have g3 : IntKind.i64.wrap (8 * c) = 8 * c := by unfold Fit at fa fb fc; rw [IntKind.wrap_i64]; omega
  have g4 : IntKind.i64.wrap (4 * a + 12 * b + 8 * c) = 4 * a + 12 * b + 8 * c := by unfold Fit at fa fb fc; rw [IntKind.wrap_i64]; omega
  have g5 : IntKind.i64.wrap (4 * a + 12 * b + 8 * c + 8) = Z := by unfold Fit at fa fb fc; rw [IntKind.wrap_i64]; omega
  have n3 : (Z != Z) = false := by simp
  have C2 := hide (fun wx => enough_ok (x := true) fa fb fc fd (by simp; omega) wx)
  obtain ⟨Y, hY⟩ : ∃ Y, a + 2 * b + 8 * c + 32 = Y := ⟨_, rfl⟩
  rw [hY] at hok
  have k0 : IntKind.i64.wrap (2 * b) = 2 * b := by unfold Fit at fa fb fc; rw [IntKind.wrap_i64]; omega
  have k1 : IntKind.i64.wrap (a + 2 * b) = a + 2 * b := by unfold Fit at fa fb fc; rw [IntKind.wrap_i64]; omega
  have k3 : IntKind.i64.wrap (a + 2 * b + 8 * c) = a + 2 * b + 8 * c := by unfold Fit at fa fb fc; rw [IntKind.wrap_i64]; omega
  have k4 : IntKind.i64.wrap (a + 2 * b + 8 * c + 32) = Y := by unfold Fit at fa fb fc; rw [IntKind.wrap_i64]; omega
  have Fa := hide (fun wx => fits_ok fa wx)
  have Fb := hide (fun wx => fits_ok fb wx)
  have Fc := hide (fun wx => fits_ok fc wx)
  have Fd := hide (fun wx => fits_ok fd wx)
  clear fa fb fc fd hX hM hZ hY
  go_enter Try.func4, Try.ntmps4
  go_wp2_with fail
  refine wp_region_held_drew (S := fun wx => Below (w.alloc (.cells #[.int .i64 a, .int .i64 b, .int .i64 c, .int .i64 d] 39)).heap.size (w.alloc (.cells #[.int .i64 a, .int .i64 b, .int .i64 c, .int .i64 d] 39)) wx) (by kernel_rfl) (below_drew0 _) (fun hS => ?_)
  refine take_want 0 (some 18) (.pointer (some ⟨w.heap.size, 0 + 0, none⟩)) rfl rfl rfl (by kernel_rfl) (by kernel_rfl) (by kernel_rfl) (fun _ _ _ h => h) (fun wx hx => exec_field rfl (fldQ _ 0 (by omega) wx) rfl) hS ?_
  simp only [Act.put, List.setIfInBounds_toArray, List.set_cons_zero, List.set_cons_succ]
  refine take_want 1 (some 19) (.int .i64 a) rfl rfl rfl (by kernel_rfl) (by kernel_rfl) (by kernel_rfl) (fun _ _ _ h => h) (fun wx hx => exec_load rfl (load_intV (cell_bel hx (boxQ w a b c d 0 _ rfl))) rfl) hS ?_
  simp only [Act.put, List.setIfInBounds_toArray, List.set_cons_zero, List.set_cons_succ]
  refine take_want 2 (some 20) (.pointer (some ⟨w.heap.size, 0 + 1, none⟩)) rfl rfl rfl (by kernel_rfl) (by kernel_rfl) (by kernel_rfl) (fun _ _ _ h => h) (fun wx hx => exec_field rfl (fldQ _ 1 (by omega) wx) rfl) hS ?_
  simp only [Act.put, List.setIfInBounds_toArray, List.set_cons_zero, List.set_cons_succ]
  refine take_want 3 (some 21) (.int .i64 b) rfl rfl rfl (by kernel_rfl) (by kernel_rfl) (by kernel_rfl) (fun _ _ _ h => h) (fun wx hx => exec_load rfl (load_intV (cell_bel hx (boxQ w a b c d 1 _ rfl))) rfl) hS ?_
  simp only [Act.put, List.setIfInBounds_toArray, List.set_cons_zero, List.set_cons_succ]
  refine take_want 4 (some 22) (.pointer (some ⟨w.heap.size, 0 + 2, none⟩)) rfl rfl rfl (by kernel_rfl) (by kernel_rfl) (by kernel_rfl) (fun _ _ _ h => h) (fun wx hx => exec_field rfl (fldQ _ 2 (by omega) wx) rfl) hS ?_
  simp only [Act.put, List.setIfInBounds_toArray, List.set_cons_zero, List.set_cons_succ]
  refine take_want 5 (some 23) (.int .i64 c) rfl rfl rfl (by kernel_rfl) (by kernel_rfl) (by kernel_rfl) (fun _ _ _ h => h) (fun wx hx => exec_load rfl (load_intV (cell_bel hx (boxQ w a b c d 2 _ rfl))) rfl) hS ?_
  simp only [Act.put, List.setIfInBounds_toArray, List.set_cons_zero, List.set_cons_succ]
  refine take_want 6 (some 24) (.pointer (some ⟨w.heap.size, 0 + 3, none⟩)) rfl rfl rfl (by kernel_rfl) (by kernel_rfl) (by kernel_rfl) (fun _ _ _ h => h) (fun wx hx => exec_field rfl (fldQ _ 3 (by omega) wx) rfl) hS ?_
  simp only [Act.put, List.setIfInBounds_toArray, List.set_cons_zero, List.set_cons_succ]
  refine take_want 7 (some 25) (.int .i64 d) rfl rfl rfl (by kernel_rfl) (by kernel_rfl) (by kernel_rfl) (fun _ _ _ h => h) (fun wx hx => exec_load rfl (load_intV (cell_bel hx (boxQ w a b c d 3 _ rfl))) rfl) hS ?_
  simp only [Act.put, List.setIfInBounds_toArray, List.set_cons_zero, List.set_cons_succ]
  refine take_want 8 (some 3) (.int .i64 a) rfl rfl rfl (by kernel_rfl) (by kernel_rfl) (by kernel_rfl) (fun _ _ _ h => h) (fun wx hx => exec_assign rfl rfl) hS ?_
  simp only [Act.put, List.setIfInBounds_toArray, List.set_cons_zero, List.set_cons_succ]
  refine take_want 9 (some 4) (.int .i64 b) rfl rfl rfl (by kernel_rfl) (by kernel_rfl) (by kernel_rfl) (fun _ _ _ h => h) (fun wx hx => exec_assign rfl rfl) hS ?_
  simp only [Act.put, List.setIfInBounds_toArray, List.set_cons_zero, List.set_cons_succ]
  refine take_want 10 (some 5) (.int .i64 c) rfl rfl rfl (by kernel_rfl) (by kernel_rfl) (by kernel_rfl) (fun _ _ _ h => h) (fun wx hx => exec_assign rfl rfl) hS ?_
  simp only [Act.put, List.setIfInBounds_toArray, List.set_cons_zero, List.set_cons_succ]
  refine take_want 11 (some 6) (.int .i64 d) rfl rfl rfl (by kernel_rfl) (by kernel_rfl) (by kernel_rfl) (fun _ _ _ h => h) (fun wx hx => exec_assign rfl rfl) hS ?_
  simp only [Act.put, List.setIfInBounds_toArray, List.set_cons_zero, List.set_cons_succ]
  refine wpAnyH_done (by kernel_rfl) ?_ _
  have HB0 := hide (nextB (bel_alloc w (.cells #[.int .i64 a, .int .i64 b, .int .i64 c, .int .i64 d] 39)) hS)
  obtain ⟨w0, hw0⟩ : ∃ x, (w.alloc (.cells #[.int .i64 a, .int .i64 b, .int .i64 c, .int .i64 d] 39)).drew = x := ⟨_, rfl⟩
  rw [hw0] at HB0 ⊢
  clear hS hw0
  go_wp2_with fail
  refine (C1.out _).mono ?_
  rintro e w1 ⟨rfl, hb1⟩
  have HB1 := hide (nextB HB0.out hb1)
  clear hb1 HB0 C1
  go_wp2_with fail
  refine (C2.out _).mono ?_
  rintro e w2 ⟨rfl, hb2⟩
  have HB2 := hide (nextB HB1.out hb2)
  clear hb2 HB1 C2
  go_wp2_with fail
  refine (C3.out _).mono ?_
  rintro e w3 ⟨rfl, hb3⟩
  have HB3 := hide (nextB HB2.out hb3)
  clear hb3 HB2 C3
  go_wp2_with fail
  refine (C4.out _).mono ?_
  rintro e w4 ⟨rfl, hb4⟩
  have HB4 := hide (nextB HB3.out hb4)
  clear hb4 HB3 C4
  go_wp2_with fail
  refine (Fa.out _).mono ?_
  rintro e wF ⟨rfl, rfl⟩
  go_wp2_with fail
  refine (Fb.out _).mono ?_
  rintro e wF ⟨rfl, rfl⟩
  go_wp2_with fail
  refine (Fc.out _).mono ?_
  rintro e wF ⟨rfl, rfl⟩
  go_wp2_with fail
  refine (Fd.out _).mono ?_
  rintro e wF ⟨rfl, rfl⟩
  go_wp2_with fail
  refine (awake_any _).mono ?_
  rintro e wA ⟨rfl, hbA⟩
  have HBA := hide (nextB HB4.out hbA)
  clear hbA HB4
  go_wp2_with fail
  go_ret
  exact ⟨rfl, HBA.out⟩
set_option maxRecDepth 100000 in
set_option maxHeartbeats 8000000 in
theorem countsN {a b c d : Int} (fa : Fit a) (fb : Fit b) (fc : Fit c) (fd : Fit d) (hok : ¬ a + 2 * b + 8 * c + 32 ≤ d) (w : World) :
    Calls Try.prog 4 #[.agg #[.int .i64 a, .int .i64 b, .int .i64 c, .int .i64 d]] w fun e w' => e = .returned (.bool true) ∧ Below w.heap.size w w' := by
  obtain ⟨X, hX⟩ : ∃ X, 2 * a + 8 * b + 32 = X := ⟨_, rfl⟩
  obtain ⟨M, hM⟩ : ∃ M, 8 * a + 24 * b = M := ⟨_, rfl⟩
  have C1 := hide (fun wx => reserve_ok fa fb hX wx)
  have C4 := hide (fun wx => most_ok fa fb hM wx)
  have e0 : IntKind.i64.wrap (2 * a) = 2 * a := by unfold Fit at fa fb; rw [IntKind.wrap_i64]; omega
  have e1 : IntKind.i64.wrap (8 * b) = 8 * b := by unfold Fit at fa fb; rw [IntKind.wrap_i64]; omega
  have e2 : IntKind.i64.wrap (2 * a + 8 * b) = 2 * a + 8 * b := by unfold Fit at fa fb; rw [IntKind.wrap_i64]; omega
  have e3 : IntKind.i64.wrap (2 * a + 8 * b + 32) = X := by unfold Fit at fa fb; rw [IntKind.wrap_i64]; omega
  have e4 : IntKind.i64.wrap (8 * a) = 8 * a := by unfold Fit at fa fb; rw [IntKind.wrap_i64]; omega
  have e5 : IntKind.i64.wrap (24 * b) = 24 * b := by unfold Fit at fa fb; rw [IntKind.wrap_i64]; omega
  have e6 : IntKind.i64.wrap (8 * a + 24 * b) = M := by unfold Fit at fa fb; rw [IntKind.wrap_i64]; omega
  have n1 : (X != X) = false := by simp
  have n2 : (M != M) = false := by simp
  obtain ⟨Z, hZ⟩ : ∃ Z, 4 * a + 12 * b + 8 * c + 8 = Z := ⟨_, rfl⟩
  have C3 := hide (fun wx => bound_ok fa fb fc hZ wx)
  have g0 : IntKind.i64.wrap (4 * a) = 4 * a := by unfold Fit at fa fb fc; rw [IntKind.wrap_i64]; omega
  have g1 : IntKind.i64.wrap (12 * b) = 12 * b := by unfold Fit at fa fb fc; rw [IntKind.wrap_i64]; omega
  have g2 : IntKind.i64.wrap (4 * a + 12 * b) = 4 * a + 12 * b := by unfold Fit at fa fb fc; rw [IntKind.wrap_i64]; omega
  have g3 : IntKind.i64.wrap (8 * c) = 8 * c := by unfold Fit at fa fb fc; rw [IntKind.wrap_i64]; omega
  have g4 : IntKind.i64.wrap (4 * a + 12 * b + 8 * c) = 4 * a + 12 * b + 8 * c := by unfold Fit at fa fb fc; rw [IntKind.wrap_i64]; omega
  have g5 : IntKind.i64.wrap (4 * a + 12 * b + 8 * c + 8) = Z := by unfold Fit at fa fb fc; rw [IntKind.wrap_i64]; omega
  have n3 : (Z != Z) = false := by simp
  have C2 := hide (fun wx => enough_ok (x := false) fa fb fc fd (by simp; omega) wx)
  obtain ⟨Y, hY⟩ : ∃ Y, a + 2 * b + 8 * c + 32 = Y := ⟨_, rfl⟩
  rw [hY] at hok
  have k0 : IntKind.i64.wrap (2 * b) = 2 * b := by unfold Fit at fa fb fc; rw [IntKind.wrap_i64]; omega
  have k1 : IntKind.i64.wrap (a + 2 * b) = a + 2 * b := by unfold Fit at fa fb fc; rw [IntKind.wrap_i64]; omega
  have k3 : IntKind.i64.wrap (a + 2 * b + 8 * c) = a + 2 * b + 8 * c := by unfold Fit at fa fb fc; rw [IntKind.wrap_i64]; omega
  have k4 : IntKind.i64.wrap (a + 2 * b + 8 * c + 32) = Y := by unfold Fit at fa fb fc; rw [IntKind.wrap_i64]; omega
  have Fa := hide (fun wx => fits_ok fa wx)
  have Fb := hide (fun wx => fits_ok fb wx)
  have Fc := hide (fun wx => fits_ok fc wx)
  have Fd := hide (fun wx => fits_ok fd wx)
  clear fa fb fc fd hX hM hZ hY
  go_enter Try.func4, Try.ntmps4
  go_wp2_with fail
  refine wp_region_held_drew (S := fun wx => Below (w.alloc (.cells #[.int .i64 a, .int .i64 b, .int .i64 c, .int .i64 d] 39)).heap.size (w.alloc (.cells #[.int .i64 a, .int .i64 b, .int .i64 c, .int .i64 d] 39)) wx) (by kernel_rfl) (below_drew0 _) (fun hS => ?_)
  refine take_want 0 (some 18) (.pointer (some ⟨w.heap.size, 0 + 0, none⟩)) rfl rfl rfl (by kernel_rfl) (by kernel_rfl) (by kernel_rfl) (fun _ _ _ h => h) (fun wx hx => exec_field rfl (fldQ _ 0 (by omega) wx) rfl) hS ?_
  simp only [Act.put, List.setIfInBounds_toArray, List.set_cons_zero, List.set_cons_succ]
  refine take_want 1 (some 19) (.int .i64 a) rfl rfl rfl (by kernel_rfl) (by kernel_rfl) (by kernel_rfl) (fun _ _ _ h => h) (fun wx hx => exec_load rfl (load_intV (cell_bel hx (boxQ w a b c d 0 _ rfl))) rfl) hS ?_
  simp only [Act.put, List.setIfInBounds_toArray, List.set_cons_zero, List.set_cons_succ]
  refine take_want 2 (some 20) (.pointer (some ⟨w.heap.size, 0 + 1, none⟩)) rfl rfl rfl (by kernel_rfl) (by kernel_rfl) (by kernel_rfl) (fun _ _ _ h => h) (fun wx hx => exec_field rfl (fldQ _ 1 (by omega) wx) rfl) hS ?_
  simp only [Act.put, List.setIfInBounds_toArray, List.set_cons_zero, List.set_cons_succ]
  refine take_want 3 (some 21) (.int .i64 b) rfl rfl rfl (by kernel_rfl) (by kernel_rfl) (by kernel_rfl) (fun _ _ _ h => h) (fun wx hx => exec_load rfl (load_intV (cell_bel hx (boxQ w a b c d 1 _ rfl))) rfl) hS ?_
  simp only [Act.put, List.setIfInBounds_toArray, List.set_cons_zero, List.set_cons_succ]
  refine take_want 4 (some 22) (.pointer (some ⟨w.heap.size, 0 + 2, none⟩)) rfl rfl rfl (by kernel_rfl) (by kernel_rfl) (by kernel_rfl) (fun _ _ _ h => h) (fun wx hx => exec_field rfl (fldQ _ 2 (by omega) wx) rfl) hS ?_
  simp only [Act.put, List.setIfInBounds_toArray, List.set_cons_zero, List.set_cons_succ]
  refine take_want 5 (some 23) (.int .i64 c) rfl rfl rfl (by kernel_rfl) (by kernel_rfl) (by kernel_rfl) (fun _ _ _ h => h) (fun wx hx => exec_load rfl (load_intV (cell_bel hx (boxQ w a b c d 2 _ rfl))) rfl) hS ?_
  simp only [Act.put, List.setIfInBounds_toArray, List.set_cons_zero, List.set_cons_succ]
  refine take_want 6 (some 24) (.pointer (some ⟨w.heap.size, 0 + 3, none⟩)) rfl rfl rfl (by kernel_rfl) (by kernel_rfl) (by kernel_rfl) (fun _ _ _ h => h) (fun wx hx => exec_field rfl (fldQ _ 3 (by omega) wx) rfl) hS ?_
  simp only [Act.put, List.setIfInBounds_toArray, List.set_cons_zero, List.set_cons_succ]
  refine take_want 7 (some 25) (.int .i64 d) rfl rfl rfl (by kernel_rfl) (by kernel_rfl) (by kernel_rfl) (fun _ _ _ h => h) (fun wx hx => exec_load rfl (load_intV (cell_bel hx (boxQ w a b c d 3 _ rfl))) rfl) hS ?_
  simp only [Act.put, List.setIfInBounds_toArray, List.set_cons_zero, List.set_cons_succ]
  refine take_want 8 (some 3) (.int .i64 a) rfl rfl rfl (by kernel_rfl) (by kernel_rfl) (by kernel_rfl) (fun _ _ _ h => h) (fun wx hx => exec_assign rfl rfl) hS ?_
  simp only [Act.put, List.setIfInBounds_toArray, List.set_cons_zero, List.set_cons_succ]
  refine take_want 9 (some 4) (.int .i64 b) rfl rfl rfl (by kernel_rfl) (by kernel_rfl) (by kernel_rfl) (fun _ _ _ h => h) (fun wx hx => exec_assign rfl rfl) hS ?_
  simp only [Act.put, List.setIfInBounds_toArray, List.set_cons_zero, List.set_cons_succ]
  refine take_want 10 (some 5) (.int .i64 c) rfl rfl rfl (by kernel_rfl) (by kernel_rfl) (by kernel_rfl) (fun _ _ _ h => h) (fun wx hx => exec_assign rfl rfl) hS ?_
  simp only [Act.put, List.setIfInBounds_toArray, List.set_cons_zero, List.set_cons_succ]
  refine take_want 11 (some 6) (.int .i64 d) rfl rfl rfl (by kernel_rfl) (by kernel_rfl) (by kernel_rfl) (fun _ _ _ h => h) (fun wx hx => exec_assign rfl rfl) hS ?_
  simp only [Act.put, List.setIfInBounds_toArray, List.set_cons_zero, List.set_cons_succ]
  refine wpAnyH_done (by kernel_rfl) ?_ _
  have HB0 := hide (nextB (bel_alloc w (.cells #[.int .i64 a, .int .i64 b, .int .i64 c, .int .i64 d] 39)) hS)
  obtain ⟨w0, hw0⟩ : ∃ x, (w.alloc (.cells #[.int .i64 a, .int .i64 b, .int .i64 c, .int .i64 d] 39)).drew = x := ⟨_, rfl⟩
  rw [hw0] at HB0 ⊢
  clear hS hw0
  go_wp2_with fail
  refine (C1.out _).mono ?_
  rintro e w1 ⟨rfl, hb1⟩
  have HB1 := hide (nextB HB0.out hb1)
  clear hb1 HB0 C1
  go_wp2_with fail
  refine (C2.out _).mono ?_
  rintro e w2 ⟨rfl, hb2⟩
  have HB2 := hide (nextB HB1.out hb2)
  clear hb2 HB1 C2
  go_wp2_with fail
  refine (C3.out _).mono ?_
  rintro e w3 ⟨rfl, hb3⟩
  have HB3 := hide (nextB HB2.out hb3)
  clear hb3 HB2 C3
  go_wp2_with fail
  refine (C4.out _).mono ?_
  rintro e w4 ⟨rfl, hb4⟩
  have HB4 := hide (nextB HB3.out hb4)
  clear hb4 HB3 C4
  go_wp2_with fail
  refine (Fa.out _).mono ?_
  rintro e wF ⟨rfl, rfl⟩
  go_wp2_with fail
  refine (Fb.out _).mono ?_
  rintro e wF ⟨rfl, rfl⟩
  go_wp2_with fail
  refine (Fc.out _).mono ?_
  rintro e wF ⟨rfl, rfl⟩
  go_wp2_with fail
  refine (Fd.out _).mono ?_
  rintro e wF ⟨rfl, rfl⟩
  go_wp2_with fail
  refine (awake_any _).mono ?_
  rintro e wA ⟨rfl, hbA⟩
  have HBA := hide (nextB HB4.out hbA)
  clear hbA HB4
  go_wp2_with fail
  go_ret
  have hz : decide (Y ≤ d) = false := by simp; omega
  exact ⟨by show Ending.returned (.bool (!decide (Y ≤ d))) = _; rw [hz]; rfl, HBA.out⟩
theorem countsL_any {a b c d : Int} (ha : I64 a) (hb : I64 b) (hc : I64 c) (hd : I64 d) (w : World) :
    Calls Try.prog 4 #[.agg #[.int .i64 a, .int .i64 b, .int .i64 c, .int .i64 d]] w fun e w' => e = .returned (.bool true) ∧ Below w.heap.size w w' := by
  by_cases fa : Fit a
  · by_cases fb : Fit b
    · by_cases fc : Fit c
      · by_cases fd : Fit d
        · by_cases hok : a + 2 * b + 8 * c + 32 ≤ d
          · exact countsY fa fb fc fd hok w
          · exact countsN fa fb fc fd hok w
        · exact countsD ha hb hc hd fa fb fc fd w
      · exact countsC ha hb hc hd fa fb fc w
    · exact countsB ha hb hc hd fa fb w
  · exact countsA ha hb hc hd fa w
end Go.Proofs.Ytnkcebngfnailaa
