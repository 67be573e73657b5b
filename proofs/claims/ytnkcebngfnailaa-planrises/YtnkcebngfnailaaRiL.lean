/- The law PlanRises. -/
import Derived.Test.YtnkcebngfnailaaQd
namespace Go.Proofs.Ytnkcebngfnailaa
open Go.RowKit Go.Extern

def Sm (n : Int) : Prop := 0 ≤ n ∧ n ≤ 68719476736
theorem Sm.fit {n : Int} (h : Sm n) : Fit n := by unfold Sm at h; unfold Fit; omega
set_option maxRecDepth 100000 in
set_option maxHeartbeats 8000000 in
theorem risesL_any {a b c d : Int} (ha : I64 a) (hb : I64 b) (hc : I64 c) (hd : I64 d) (w : World) :
    Calls Try.prog 6 #[.agg #[.int .i64 a, .int .i64 b, .int .i64 c, .int .i64 d]] w fun e w' => e = .returned (.bool true) ∧ Below w.heap.size w w' := by
  have HI : Hid (∀ k ∈ [a, b, c, d], I64 k) := hide (by simp [ha, hb, hc, hd])
  clear ha hb hc hd
  go_enter Try.func6, Try.ntmps6
  go_wp2_with fail
  refine wp_region_held_drew (S := fun wx => Below (w.alloc (.cells #[.int .i64 a, .int .i64 b, .int .i64 c, .int .i64 d] 39)).heap.size (w.alloc (.cells #[.int .i64 a, .int .i64 b, .int .i64 c, .int .i64 d] 39)) wx) (by kernel_rfl) (below_drew0 _) (fun hS => ?_)
  refine take_want 0 (some 25) (.pointer (some ⟨w.heap.size, 0 + 0, none⟩)) rfl rfl rfl (by kernel_rfl) (by kernel_rfl) (by kernel_rfl) (fun _ _ _ h => h) (fun wx hx => exec_field rfl (fldQ _ 0 (by omega) wx) rfl) hS ?_
  simp only [Act.put, List.setIfInBounds_toArray, List.set_cons_zero, List.set_cons_succ]
  refine take_want 1 (some 26) (.int .i64 a) rfl rfl rfl (by kernel_rfl) (by kernel_rfl) (by kernel_rfl) (fun _ _ _ h => h) (fun wx hx => exec_load rfl (load_intV (cell_bel hx (boxQ w a b c d 0 _ rfl))) rfl) hS ?_
  simp only [Act.put, List.setIfInBounds_toArray, List.set_cons_zero, List.set_cons_succ]
  refine take_want 2 (some 27) (.pointer (some ⟨w.heap.size, 0 + 1, none⟩)) rfl rfl rfl (by kernel_rfl) (by kernel_rfl) (by kernel_rfl) (fun _ _ _ h => h) (fun wx hx => exec_field rfl (fldQ _ 1 (by omega) wx) rfl) hS ?_
  simp only [Act.put, List.setIfInBounds_toArray, List.set_cons_zero, List.set_cons_succ]
  refine take_want 3 (some 28) (.int .i64 b) rfl rfl rfl (by kernel_rfl) (by kernel_rfl) (by kernel_rfl) (fun _ _ _ h => h) (fun wx hx => exec_load rfl (load_intV (cell_bel hx (boxQ w a b c d 1 _ rfl))) rfl) hS ?_
  simp only [Act.put, List.setIfInBounds_toArray, List.set_cons_zero, List.set_cons_succ]
  refine take_want 4 (some 29) (.pointer (some ⟨w.heap.size, 0 + 2, none⟩)) rfl rfl rfl (by kernel_rfl) (by kernel_rfl) (by kernel_rfl) (fun _ _ _ h => h) (fun wx hx => exec_field rfl (fldQ _ 2 (by omega) wx) rfl) hS ?_
  simp only [Act.put, List.setIfInBounds_toArray, List.set_cons_zero, List.set_cons_succ]
  refine take_want 5 (some 30) (.int .i64 c) rfl rfl rfl (by kernel_rfl) (by kernel_rfl) (by kernel_rfl) (fun _ _ _ h => h) (fun wx hx => exec_load rfl (load_intV (cell_bel hx (boxQ w a b c d 2 _ rfl))) rfl) hS ?_
  simp only [Act.put, List.setIfInBounds_toArray, List.set_cons_zero, List.set_cons_succ]
  refine take_want 6 (some 31) (.pointer (some ⟨w.heap.size, 0 + 3, none⟩)) rfl rfl rfl (by kernel_rfl) (by kernel_rfl) (by kernel_rfl) (fun _ _ _ h => h) (fun wx hx => exec_field rfl (fldQ _ 3 (by omega) wx) rfl) hS ?_
  simp only [Act.put, List.setIfInBounds_toArray, List.set_cons_zero, List.set_cons_succ]
  refine take_want 7 (some 32) (.int .i64 d) rfl rfl rfl (by kernel_rfl) (by kernel_rfl) (by kernel_rfl) (fun _ _ _ h => h) (fun wx hx => exec_load rfl (load_intV (cell_bel hx (boxQ w a b c d 3 _ rfl))) rfl) hS ?_
  simp only [Act.put, List.setIfInBounds_toArray, List.set_cons_zero, List.set_cons_succ]
  refine take_want 8 (some 3) (.int .i64 a) rfl rfl rfl (by kernel_rfl) (by kernel_rfl) (by kernel_rfl) (fun _ _ _ h => h) (fun wx hx => exec_assign rfl rfl) hS ?_
  simp only [Act.put, List.setIfInBounds_toArray, List.set_cons_zero, List.set_cons_succ]
  refine take_want 9 (some 4) (.int .i64 b) rfl rfl rfl (by kernel_rfl) (by kernel_rfl) (by kernel_rfl) (fun _ _ _ h => h) (fun wx hx => exec_assign rfl rfl) hS ?_
  simp only [Act.put, List.setIfInBounds_toArray, List.set_cons_zero, List.set_cons_succ]
  refine take_want 10 (some 5) (.int .i64 c) rfl rfl rfl (by kernel_rfl) (by kernel_rfl) (by kernel_rfl) (fun _ _ _ h => h) (fun wx hx => exec_assign rfl rfl) hS ?_
  simp only [Act.put, List.setIfInBounds_toArray, List.set_cons_zero, List.set_cons_succ]
  refine take_want 11 (some 6) (.int .i64 d) rfl rfl rfl (by kernel_rfl) (by kernel_rfl) (by kernel_rfl) (fun _ _ _ h => h) (fun wx hx => exec_assign rfl rfl) hS ?_
  simp only [Act.put, List.setIfInBounds_toArray, List.set_cons_zero, List.set_cons_succ]
  refine wpAnyH_done (by kernel_rfl) ?_ _
  have HB0 := hide (nextB (bel_alloc w (.cells #[.int .i64 a, .int .i64 b, .int .i64 c, .int .i64 d] 39)) hS)
  obtain ⟨w0, hw0⟩ : ∃ x, (w.alloc (.cells #[.int .i64 a, .int .i64 b, .int .i64 c, .int .i64 d] 39)).drew = x := ⟨_, rfl⟩
  rw [hw0] at HB0 ⊢
  clear hS hw0
  have HB1 := hide (nextB HB0.out (bel_alloc w0 (.cells #[.int .i64 a, .int .i64 b, .int .i64 c, .int .i64 d] 3)))
  have HL := hide (ints_lits w0 [a, b, c, d] (by simp) HI.out)
  obtain ⟨B, hB⟩ : ∃ B, w0.heap.size = B := ⟨_, rfl⟩
  have HBB := hide hB
  clear hB
  go_wp2_with fail
  obtain ⟨w1, hw1⟩ : ∃ x, w0.alloc (.cells #[.int .i64 a, .int .i64 b, .int .i64 c, .int .i64 d] 3) = x := ⟨_, rfl⟩
  have HL2 : Hid (Ints w1 (.slice (some ⟨w0.heap.size, 0, none⟩) 4 4) [a, b, c, d]) := by rw [← hw1]; exact HL.out
  rw [hw1] at HB1 ⊢
  clear hw1 HL HB0
  go_loopg [39] 4 (fun k i wr => ∃ j : Nat, j + k = 4 ∧ i = .int .i64 (j : Int) ∧ Hid (∀ x ∈ [a, b, c, d].take j, Sm x) ∧ wr = w1)
  case atStart => exact ⟨0, by omega, rfl, hide (by simp), rfl⟩
  case round =>
    obtain ⟨j, hj, rfl, HA, rfl⟩ := hrel
    cases gk with
    | zero =>
      have hj4 : j = 4 := by omega
      subst hj4
      have hall : Sm a ∧ Sm b ∧ Sm c ∧ Sm d := by have := HA.out; simpa using this
      have HS := hide hall
      obtain ⟨⟨a1, a2⟩, ⟨b1, b2⟩, ⟨c1, c2⟩, d1, d2⟩ := hall
      obtain ⟨X, hX⟩ : ∃ X, 4 * a + 12 * b + 8 * c + 8 = X := ⟨_, rfl⟩
      obtain ⟨R, hR⟩ : ∃ R, 2 * b + 8 * c + 32 = R := ⟨_, rfl⟩
      have fa := HS.out.1.fit
      have fb := HS.out.2.1.fit
      have fc := HS.out.2.2.1.fit
      have fd := HS.out.2.2.2.fit
      have B1 := hide (fun wx => bound_ok fa fb fc hX wx)
      have B2 := hide (fun wx => bound_ok (a := a + 1) (x := X + 4) (by unfold Fit; omega) fb fc (by omega) wx)
      have B3 := hide (fun wx => bound_ok (b := b + 1) (x := X + 12) fa (by unfold Fit; omega) fc (by omega) wx)
      have B4 := hide (fun wx => bound_ok (c := c + 1) (x := X + 8) fa fb (by unfold Fit; omega) (by omega) wx)
      have E1 := hide (fun wx => enough_ok (x := decide (a + R ≤ d)) fa fb fc fd (by rw [hR]) wx)
      have E2 := hide (fun wx => enough_ok (d := d + 1) (x := decide (a + R ≤ d + 1)) fa fb fc (by unfold Fit; omega) (by rw [hR]) wx)
      have R1 := hide (fun wx => reserve_ok fb fc hR wx)
      have E3 := hide (fun wx => enough_ok (d := a + R) (x := true) fa fb fc (by unfold Fit; omega) (by rw [hR]; simp) wx)
      have e1 : IntKind.i64.wrap (a + 1) = a + 1 := by rw [IntKind.wrap_i64]; omega
      have e2 : IntKind.i64.wrap (b + 1) = b + 1 := by rw [IntKind.wrap_i64]; omega
      have e3 : IntKind.i64.wrap (c + 1) = c + 1 := by rw [IntKind.wrap_i64]; omega
      have e4 : IntKind.i64.wrap (d + 1) = d + 1 := by rw [IntKind.wrap_i64]; omega
      have e5 : IntKind.i64.wrap (X + 4) = X + 4 := by rw [IntKind.wrap_i64]; omega
      have e6 : IntKind.i64.wrap (X + 12) = X + 12 := by rw [IntKind.wrap_i64]; omega
      have e7 : IntKind.i64.wrap (X + 8) = X + 8 := by rw [IntKind.wrap_i64]; omega
      have e8 : IntKind.i64.wrap (a + R) = a + R := by rw [IntKind.wrap_i64]; omega
      have n1 : (X + 4 != X + 4) = false := by simp
      have n2 : (X + 12 != X + 12) = false := by simp
      have n3 : (X + 8 != X + 8) = false := by simp
      clear a1 a2 b1 b2 c1 c2 d1 d2 hX hR fa fb fc fd HS HA hj
      go_wp2_with fail
      refine (B1.out _).mono ?_
      rintro e w2 ⟨rfl, hb2⟩
      have HB2 := hide (nextB HB1.out hb2)
      clear hb2 HB1 B1
      go_wp2_with fail
      refine (B2.out _).mono ?_
      rintro e w3 ⟨rfl, hb3⟩
      have HB3 := hide (nextB HB2.out hb3)
      clear hb3 HB2 B2
      go_wp2_with fail
      refine (B3.out _).mono ?_
      rintro e w4 ⟨rfl, hb4⟩
      have HB4 := hide (nextB HB3.out hb4)
      clear hb4 HB3 B3
      go_wp2_with fail
      refine (B4.out _).mono ?_
      rintro e w5 ⟨rfl, hb5⟩
      have HB5 := hide (nextB HB4.out hb5)
      clear hb5 HB4 B4
      go_wp2_with fail
      refine (E1.out _).mono ?_
      rintro e w6 ⟨rfl, hb6⟩
      have HB6 := hide (nextB HB5.out hb6)
      clear hb6 HB5 E1
      go_wp2_with fail
      refine (E2.out _).mono ?_
      rintro e w7 ⟨rfl, hb7⟩
      have HB7 := hide (nextB HB6.out hb7)
      clear hb7 HB6 E2
      go_wp2_with fail
      refine (R1.out _).mono ?_
      rintro e w8 ⟨rfl, hb8⟩
      have HB8 := hide (nextB HB7.out hb8)
      clear hb8 HB7 R1
      go_wp2_with fail
      refine (E3.out _).mono ?_
      rintro e w9 ⟨rfl, hb9⟩
      have HB9 := hide (nextB HB8.out hb9)
      clear hb9 HB8 E3
      by_cases hok : a + R ≤ d
      · have hok2 : a + R ≤ d + 1 := by omega
        rw [decide_eq_true hok, decide_eq_true hok2]
        go_wp2_with fail
        refine (awake_any _).mono ?_
        rintro e wA ⟨rfl, hbA⟩
        have HBA := hide (nextB HB9.out hbA)
        clear hbA HB9
        go_wp2_with fail
        go_ret
        exact ⟨rfl, HBA.out⟩
      · rw [decide_eq_false hok]
        go_wp2_with fail
        refine (awake_any _).mono ?_
        rintro e wA ⟨rfl, hbA⟩
        have HBA := hide (nextB HB9.out hbA)
        clear hbA HB9
        go_wp2_with fail
        go_ret
        have hz : decide (a + R ≤ d) = false := by simp; omega
        exact ⟨by show Ending.returned (.bool (!decide (a + R ≤ d))) = _; rw [hz]; rfl, HBA.out⟩
    | succ m =>
      have hlt : (j : Int) < 4 := by omega
      have hb0 : (0 : Int) ≤ (j : Int) := by omega
      obtain ⟨p, he⟩ : ∃ e, [a, b, c, d][j]? = some e := ⟨[a, b, c, d][j]'(by simp; omega), by rw [List.getElem?_eq_getElem]⟩
      obtain ⟨ao, cap, g, off, ev, h2, h3⟩ := HL2.out.at_
      obtain rfl := h2 (by simp)
      have k0 := h3 j p he
      simp only [Value.slice.injEq, Option.some.injEq, Addr.mk.injEq, and_true] at ev
      obtain ⟨⟨rfl, rfl⟩, -, -⟩ := ev
      rw [Nat.zero_add] at k0
      have HT := hide (take_snoc he)
      have HA2 := hide HA.out
      have hj63 : IntKind.i64.wrap ((j : Int) + 1) = (j : Int) + 1 := IntWalk.i64_in _ ⟨by omega, by omega⟩
      have HJ := hide hj
      clear he h2 h3 hj HA
      by_cases c1 : p < 0
      · go_wp2_with fail
        refine (awake_any _).mono ?_
        rintro e wA ⟨rfl, hbA⟩
        have HBA := hide (nextB HB1.out hbA)
        clear hbA k0
        go_wp2_with fail
        go_ret
        exact ⟨rfl, HBA.out⟩
      · by_cases c2 : 68719476736 < p
        · go_wp2_with fail
          refine (awake_any _).mono ?_
          rintro e wA ⟨rfl, hbA⟩
          have HBA := hide (nextB HB1.out hbA)
          clear hbA k0
          go_wp2_with fail
          go_ret
          exact ⟨rfl, HBA.out⟩
        · go_wp2_with fail
          go_roundg m
          case measure => omega
          case rel => exact ⟨j + 1, by have := HJ.out; omega, by simp, hide (fun x hx => by
            rw [HT.out] at hx
            rcases List.mem_append.1 hx with hx | hx
            · exact HA2.out x hx
            · rw [List.mem_singleton.1 hx]; unfold Sm; omega), rfl⟩
end Go.Proofs.Ytnkcebngfnailaa
