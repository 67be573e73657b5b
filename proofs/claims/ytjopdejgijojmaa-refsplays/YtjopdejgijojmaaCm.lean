/- cmp.Compare, cmp.Or, and how an owner is held against another one. -/
import Derived.Test.YtjopdejgijojmaaTk
import Derived.Sort.Grow
namespace Go.Proofs.Ytjopdejgijojmaa
open Go.RowKit Go.Extern Go.Sort

/-- Only draws, and new blocks. -/
def Lays (w w' : World) : Prop := ∃ q os, w' = grow (w.drewN q) os
theorem Lays.refl (w : World) : Lays w w := ⟨0, #[], by rw [grow_empty]; rfl⟩
theorem Lays.drew {w w' : World} (h : Lays w w') : Lays w w'.drew := by
  obtain ⟨q, os, rfl⟩ := h
  exact ⟨q + 1, os, rfl⟩
theorem Lays.alloc {w w' : World} (h : Lays w w') (o : Obj) : Lays w (w'.alloc o) := by
  obtain ⟨q, os, rfl⟩ := h
  exact ⟨q, os ++ #[o], by rw [alloc_eq_grow, grow_grow]⟩
theorem Lays.cell {w w' : World} (h : Lays w w') {x i : Nat} {v : Value} (hx : x < w.heap.size) (hc : w.cell? ⟨x, i, none⟩ = some v) : w'.cell? ⟨x, i, none⟩ = some v := by
  obtain ⟨q, os, rfl⟩ := h
  rw [cell?_grow _ _ _ (by exact hx)]; exact hc
theorem Lays.trans {w w1 w2 : World} (h : Lays w w1) (k : Lays w1 w2) : Lays w w2 := by
  obtain ⟨q, os, rfl⟩ := h
  obtain ⟨q', os', rfl⟩ := k
  exact ⟨q + q', os ++ os', by rw [← grow_grow]; simp [World.drewN, grow, Nat.add_assoc]⟩
theorem Lays.below {w w' : World} (h : Lays w w') : Below w.heap.size w w' := by
  obtain ⟨q, os, rfl⟩ := h
  exact ⟨rfl, rfl, rfl, by simp, fun k hk => heap_grow_old (w.drewN q) os hk⟩

theorem below_box0 (w : World) (o : Obj) : Below w.heap.size w (w.alloc o) := (Below.refl _ w).alloc (Nat.le_refl _) o
/-- A number held against another one. -/
def cmpI (x y : Int) : Int := if x < y then -1 else if y < x then 1 else 0
def orI (u v : Int) : Int := if u = 0 then v else u
def cmpO (p q : Own) : Int := orI (cmpI p.1 q.1) (cmpI p.2 q.2)
theorem cmpI_neg {x y : Int} : cmpI x y < 0 ↔ x < y := by unfold cmpI; split <;> (try split) <;> omega
theorem cmpI_zero {x y : Int} : cmpI x y = 0 ↔ x = y := by unfold cmpI; split <;> (try split) <;> omega
theorem cmpO_lt (p q : Own) : decide (cmpO p q < 0) = ltO p q := by
  unfold cmpO orI ltO
  by_cases h : cmpI p.1 q.1 = 0
  · rw [if_pos h]
    have h1 := cmpI_zero.1 h
    have h2 := @cmpI_neg p.2 q.2
    by_cases h3 : p.2 < q.2
    · rw [decide_eq_true (h2.2 h3), decide_eq_true (Or.inr ⟨h1, h3⟩)]
    · rw [decide_eq_false (fun e => h3 (h2.1 e)), decide_eq_false (by omega)]
  · rw [if_neg h]
    have h1 : p.1 ≠ q.1 := fun e => h (cmpI_zero.2 e)
    have h2 := @cmpI_neg p.1 q.1
    by_cases h3 : p.1 < q.1
    · rw [decide_eq_true (h2.2 h3), decide_eq_true (Or.inl h3)]
    · rw [decide_eq_false (fun e => h3 (h2.1 e)), decide_eq_false (by omega)]

set_option maxRecDepth 100000 in
theorem isNaN_any (x : Int) (w : World) : Calls Try.prog 55 #[.int .i64 x] w fun e w' => e = .returned (.bool false) ∧ w' = w := by
  go_enter Try.func55, Try.ntmps55
  go_wp2
  go_ret
  exact ⟨by simp, rfl⟩
set_option maxRecDepth 100000 in
theorem cmpI_any (x y : Int) (w : World) : Calls Try.prog 47 #[.int .i64 x, .int .i64 y] w fun e w' => e = .returned (.int .i64 (cmpI x y)) ∧ w' = w := by
  have hn := isNaN_any
  unfold cmpI
  by_cases h1 : x < y
  · rw [if_pos h1]
    go_enter Try.func47, Try.ntmps47
    go_wp2_with (go_at_call 55; refine (hn _ _).mono ?_; rintro e w' ⟨rfl, rfl⟩)
    go_ret
    exact ⟨rfl, rfl⟩
  · rw [if_neg h1]
    by_cases h2 : y < x
    · rw [if_pos h2]
      go_enter Try.func47, Try.ntmps47
      go_wp2_with (go_at_call 55; refine (hn _ _).mono ?_; rintro e w' ⟨rfl, rfl⟩)
      go_ret
      exact ⟨rfl, rfl⟩
    · rw [if_neg h2]
      go_enter Try.func47, Try.ntmps47
      go_wp2_with (go_at_call 55; refine (hn _ _).mono ?_; rintro e w' ⟨rfl, rfl⟩)
      go_ret
      exact ⟨rfl, rfl⟩
set_option maxRecDepth 100000 in
set_option maxHeartbeats 1000000 in
theorem or_any {w : World} {g : Nat} (u v : Int) (h0 : w.cell? ⟨g, 0, none⟩ = some (.int .i64 u)) (h1 : w.cell? ⟨g, 1, none⟩ = some (.int .i64 v)) :
    Calls Try.prog 46 #[.slice (some ⟨g, 0, none⟩) 2 2] w fun e w' => e = .returned (.int .i64 (orI u v)) ∧ w' = w := by
  unfold orI
  by_cases hu : u = 0
  · rw [if_pos hu]
    have hub : (u != 0) = false := by simpa using hu
    by_cases hv : v = 0
    · have hvb : (v != 0) = false := by simpa using hv
      rw [hv] at h1 ⊢
      rw [hu] at h0
      go_enter Try.func46, Try.ntmps46
      go_wp2
      refine wp_loop_rounds 3 ?_
      rw [rounds_succ]
      go_wp2
      rw [rounds_succ]
      go_wp2
      rw [rounds_succ]
      go_wp2
      go_ret
      exact ⟨rfl, rfl⟩
    · have hvb : (v != 0) = true := by simpa using hv
      rw [hu] at h0
      go_enter Try.func46, Try.ntmps46
      go_wp2
      refine wp_loop_rounds 3 ?_
      rw [rounds_succ]
      go_wp2
      rw [rounds_succ]
      go_wp2
      go_ret
      exact ⟨rfl, rfl⟩
  · rw [if_neg hu]
    have hub : (u != 0) = true := by simpa using hu
    go_enter Try.func46, Try.ntmps46
    go_wp2
    refine wp_loop_rounds 3 ?_
    rw [rounds_succ]
    go_wp2
    go_ret
    exact ⟨rfl, rfl⟩
theorem enterCmp (args : Array Value) (w : World) : (callFunc 47 args).run Try.prog w = .ok (.enter 47 args) w := by kernel_rfl
theorem enterOr (args : Array Value) (w : World) : (callFunc 46 args).run Try.prog w = .ok (.enter 46 args) w := by kernel_rfl
theorem fldO0 (b : Nat) (w : World) : (Instr.fieldAt 35 (.pointer (some ⟨b, 0, none⟩)) 0).run Try.prog w = .ok (.pointer (some ⟨b, 0, none⟩)) w := by kernel_rfl
theorem fldO1 (b : Nat) (w : World) : (Instr.fieldAt 35 (.pointer (some ⟨b, 0, none⟩)) 1).run Try.prog w = .ok (.pointer (some ⟨b, 1, none⟩)) w := by kernel_rfl
theorem exec_two {ρ : Operand → Value} {o : Oper} {w w' : World} {t : TypeId} {x y : Operand} {v xv yv : Value} (ho : o.op = .buildSlice t 2 #[(0, x), (1, y)]) (hr : (Instr.buildSlice t 2 #[(0, xv), (1, yv)]).run Try.prog w = .ok v w') (hx : ρ x = xv) (hy : ρ y = yv) : (execOp ρ o).run Try.prog w = .ok (.value v) w' := by
  unfold execOp; simp [ho, hx, hy, hr]
theorem build_two (u v : Int) (w : World) : (Instr.buildSlice 50 2 #[(0, .int .i64 u), (1, .int .i64 v)]).run Try.prog w = .ok (.slice (some ⟨w.heap.size, 0, none⟩) 2 2) (w.alloc (.cells #[.int .i64 u, .int .i64 v] 3)) := by
  go_simp

set_option maxRecDepth 100000 in
set_option maxHeartbeats 2000000 in
theorem compare_any (p q : Own) (w : World) : Calls Try.prog 33 #[encO p, encO q] w fun e w' => e = .returned (.int .i64 (cmpO p q)) ∧ ∃ n os, w' = grow (w.drewN n) os := by
  have e1 : encO p = .agg #[.int .i64 p.1, .int .i64 p.2] := rfl
  have e2 : encO q = .agg #[.int .i64 q.1, .int .i64 q.2] := rfl
  rw [e1, e2]
  clear e1 e2
  unfold cmpO
  go_enter Try.func33, Try.ntmps33
  go_wp2_with fail
  obtain ⟨x, hx⟩ : ∃ x, w.heap.size = x := ⟨_, rfl⟩
  obtain ⟨y, hy⟩ : ∃ y, x + 1 = y := ⟨_, rfl⟩
  obtain ⟨W0, hW0⟩ : ∃ W0, (w.alloc (.cells #[.int .i64 p.1, .int .i64 p.2] 35)).alloc (.cells #[.int .i64 q.1, .int .i64 q.2] 35) = W0 := ⟨_, rfl⟩
  have HX : Hid (BoxO W0 x p) := hide (by
    have h1 := boxO_new w p 35
    rw [← hW0, ← hx]
    exact ⟨by rw [(below_box0 _ _).cell (by simp)]; exact h1.1, by rw [(below_box0 _ _).cell (by simp)]; exact h1.2⟩)
  have HY : Hid (BoxO W0 y q) := hide (by
    have h1 := boxO_new (w.alloc (.cells #[.int .i64 p.1, .int .i64 p.2] 35)) q 35
    rw [World.size_alloc] at h1
    rw [← hW0, ← hy, ← hx]; exact h1)
  have xl : x < W0.heap.size := by rw [← hW0]; simp; omega
  have yl : y < W0.heap.size := by rw [← hW0]; simp; omega
  have HL0 : Hid (Lays w W0) := hide (by rw [← hW0]; exact ((Lays.refl w).alloc _).alloc _)
  simp only [hx, hy, hW0]
  clear hx hy hW0
  refine wp_region_held_drew (S := Lays W0) (by kernel_rfl) (Lays.refl W0).drew (fun hS => ?_)
  refine take_want 0 (some 5) (.pointer (some ⟨x, 0, none⟩)) rfl rfl rfl (by kernel_rfl) (by kernel_rfl) (by kernel_rfl) (fun _ _ _ h => h) (fun wx hx => exec_field rfl (fldO0 _ wx) rfl) hS ?_
  simp only [Act.put, List.setIfInBounds_toArray, List.set_cons_zero, List.set_cons_succ]
  refine take_want 1 (some 6) (.int .i64 p.1) rfl rfl rfl (by kernel_rfl) (by kernel_rfl) (by kernel_rfl) (fun _ _ _ h => h) (fun wx hx => exec_load rfl (load_intV (hx.cell xl HX.out.1)) rfl) hS ?_
  simp only [Act.put, List.setIfInBounds_toArray, List.set_cons_zero, List.set_cons_succ]
  refine take_want 2 (some 7) (.pointer (some ⟨y, 0, none⟩)) rfl rfl rfl (by kernel_rfl) (by kernel_rfl) (by kernel_rfl) (fun _ _ _ h => h) (fun wx hx => exec_field rfl (fldO0 _ wx) rfl) hS ?_
  simp only [Act.put, List.setIfInBounds_toArray, List.set_cons_zero, List.set_cons_succ]
  refine take_want 3 (some 8) (.int .i64 q.1) rfl rfl rfl (by kernel_rfl) (by kernel_rfl) (by kernel_rfl) (fun _ _ _ h => h) (fun wx hx => exec_load rfl (load_intV (hx.cell yl HY.out.1)) rfl) hS ?_
  simp only [Act.put, List.setIfInBounds_toArray, List.set_cons_zero, List.set_cons_succ]
  refine take_want 5 (some 10) (.pointer (some ⟨x, 1, none⟩)) rfl rfl rfl (by kernel_rfl) (by kernel_rfl) (by kernel_rfl) (fun _ _ _ h => h) (fun wx hx => exec_field rfl (fldO1 _ wx) rfl) hS ?_
  simp only [Act.put, List.setIfInBounds_toArray, List.set_cons_zero, List.set_cons_succ]
  refine take_want 6 (some 11) (.int .i64 p.2) rfl rfl rfl (by kernel_rfl) (by kernel_rfl) (by kernel_rfl) (fun _ _ _ h => h) (fun wx hx => exec_load rfl (load_intV (hx.cell xl HX.out.2)) rfl) hS ?_
  simp only [Act.put, List.setIfInBounds_toArray, List.set_cons_zero, List.set_cons_succ]
  refine take_want 7 (some 12) (.pointer (some ⟨y, 1, none⟩)) rfl rfl rfl (by kernel_rfl) (by kernel_rfl) (by kernel_rfl) (fun _ _ _ h => h) (fun wx hx => exec_field rfl (fldO1 _ wx) rfl) hS ?_
  simp only [Act.put, List.setIfInBounds_toArray, List.set_cons_zero, List.set_cons_succ]
  refine take_want 8 (some 13) (.int .i64 q.2) rfl rfl rfl (by kernel_rfl) (by kernel_rfl) (by kernel_rfl) (fun _ _ _ h => h) (fun wx hx => exec_load rfl (load_intV (hx.cell yl HY.out.2)) rfl) hS ?_
  simp only [Act.put, List.setIfInBounds_toArray, List.set_cons_zero, List.set_cons_succ]
  refine call_want 4 (some 9) rfl rfl rfl (by kernel_rfl) (exec_call2 rfl enterCmp rfl rfl rfl) ((cmpI_any p.1 q.1 _).mono ?_)
  rintro e' w' ⟨rfl, rfl⟩
  refine ⟨_, rfl, hS, ?_⟩
  simp only [Act.put, List.setIfInBounds_toArray, List.set_cons_zero, List.set_cons_succ]
  refine call_want 9 (some 14) rfl rfl rfl (by kernel_rfl) (exec_call2 rfl enterCmp rfl rfl rfl) ((cmpI_any p.2 q.2 _).mono ?_)
  rintro e' w' ⟨rfl, rfl⟩
  refine ⟨_, rfl, hS, ?_⟩
  simp only [Act.put, List.setIfInBounds_toArray, List.set_cons_zero, List.set_cons_succ]
  have hS2 := hS.alloc (.cells #[.int .i64 (cmpI p.1 q.1), .int .i64 (cmpI p.2 q.2)] 3)
  refine only_value 10 (some 15) rfl rfl rfl (by kernel_rfl) (exec_two rfl (build_two _ _ _) rfl rfl) hS2 ?_
  simp only [Act.put, List.setIfInBounds_toArray, List.set_cons_zero, List.set_cons_succ]
  refine call_want 11 (some 16) rfl rfl rfl (by kernel_rfl) (exec_call1 rfl enterOr rfl rfl) ((or_any (cmpI p.1 q.1) (cmpI p.2 q.2) (boxO_new W0.drew (cmpI p.1 q.1, cmpI p.2 q.2) 3).1 (boxO_new W0.drew (cmpI p.1 q.1, cmpI p.2 q.2) 3).2).mono ?_)
  rintro e' w' ⟨rfl, rfl⟩
  refine ⟨_, rfl, hS2, ?_⟩
  simp only [Act.put, List.setIfInBounds_toArray, List.set_cons_zero, List.set_cons_succ]
  refine take_want 12 (some 4) (.int .i64 (orI (cmpI p.1 q.1) (cmpI p.2 q.2))) rfl rfl rfl (by kernel_rfl) (by kernel_rfl) (by kernel_rfl) (fun _ _ _ h => h) (fun wx hx => exec_assign rfl rfl) hS2 ?_
  simp only [Act.put, List.setIfInBounds_toArray, List.set_cons_zero, List.set_cons_succ]
  refine wpAnyH_done (by kernel_rfl) ?_ _
  go_wp2_with fail
  go_ret
  exact ⟨rfl, HL0.out.trans ((Lays.refl W0).alloc _).drew⟩
end Go.Proofs.Ytjopdejgijojmaa
