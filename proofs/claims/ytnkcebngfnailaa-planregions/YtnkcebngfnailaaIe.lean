/- 'ints' of the laws. -/
import Derived.Test.YtnkcebngfnailaaXe
namespace Go.Proofs.Ytnkcebngfnailaa
open Go.RowKit Go.Extern

/-- What a call leaves that tells true or false. -/
def Clc (w : World) (p : Bool) (e : Ending) (w' : World) : Prop := e = .returned (.bool p) ∧ Below w.heap.size w w'
set_option maxRecDepth 100000 in
set_option maxHeartbeats 1000000 in
theorem ints_any {w : World} {v1 v2 : Value} {l1 l2 : List Int} (h1 : Ints w v1 l1) (h2 : Ints w v2 l2) : Calls Try.prog 11 #[v1, v2] w (Clc w (decide (l1 = l2))) := by
  have hl1 := h1.len
  obtain ⟨a1, c1, g1, o1, rfl, p2, p3⟩ := h1.at_
  obtain ⟨a2, c2, g2, o2, rfl, q2, q3⟩ := h2.at_
  have P2 := hide p2
  have P3 := hide p3
  have Q2 := hide q2
  have Q3 := hide q3
  obtain ⟨n, hn⟩ : ∃ n, l1.length = n := ⟨_, rfl⟩
  obtain ⟨n2, hn2⟩ : ∃ n, l2.length = n := ⟨_, rfl⟩
  rw [hn] at hl1 ⊢
  rw [hn2]
  have HN := hide hn
  have HN2 := hide hn2
  clear h1 h2 p2 p3 q2 q3 hn hn2
  by_cases hne : n = n2
  · subst hne
    have e0 : ((n : Int) != (n : Int)) = false := by simp
    go_enter Try.func11, Try.ntmps11
    go_wp2_with fail
    clear e0
    go_loopg [13] n (fun t i wr => ∃ j : Nat, j + t = n ∧ i = .int .i64 (j : Int) ∧ Hid (l1.take j = l2.take j) ∧ Hid (Below w.heap.size w wr))
    case atStart => exact ⟨0, by omega, rfl, hide (by simp), hide (Below.refl _ _)⟩
    case round =>
      obtain ⟨j, hj, rfl, HA, HB⟩ := hrel
      cases gk with
      | zero =>
        have hnl : ¬ (j : Int) < (n : Int) := by omega
        have hend : l1 = l2 := by
          have := HA.out
          rwa [List.take_of_length_le (by rw [HN.out]; omega), List.take_of_length_le (by rw [HN2.out]; omega)] at this
        have HE := hide hend
        clear hend
        go_wp2_with fail
        go_ret
        exact ⟨by rw [decide_eq_true HE.out]; rfl, HB.out⟩
      | succ m =>
        have hlt : (j : Int) < (n : Int) := by omega
        have hb0 : (0 : Int) ≤ (j : Int) := by omega
        obtain ⟨x, hx1⟩ : ∃ e, l1[j]? = some e := ⟨l1[j]'(by rw [HN.out]; omega), by rw [List.getElem?_eq_getElem]⟩
        obtain ⟨y, hy1⟩ : ∃ e, l2[j]? = some e := ⟨l2[j]'(by rw [HN2.out]; omega), by rw [List.getElem?_eq_getElem]⟩
        obtain rfl := P2.out (by rw [HN.out]; omega)
        obtain rfl := Q2.out (by rw [HN2.out]; omega)
        have k1 := cell_bel HB.out (P3.out j x hx1)
        have k2 := cell_bel HB.out (Q3.out j y hy1)
        have HX := hide hx1
        have HY := hide hy1
        have hj63 : (j : Int) + 1 < 140737488355328 + 1 := by omega
        have hjn : j < n := by omega
        clear hx1 hy1
        go_wp2_with fail
        refine wp_region_held_drew (S := fun wx => Below wr.heap.size wr wx) (by kernel_rfl) (below_drew0 wr) (fun hS => ?_)
        refine take_want 0 (some 16) (.slice (some ⟨g1, o1, none⟩) n c1) rfl rfl rfl (by kernel_rfl) (by kernel_rfl) (by kernel_rfl) (fun _ _ _ h => h) (fun wx hx => exec_move rfl rfl) hS ?_
        simp only [Act.put, List.setIfInBounds_toArray, List.set_cons_zero, List.set_cons_succ]
        refine take_want 1 (some 17) (.int .i64 (j : Int)) rfl rfl rfl (by kernel_rfl) (by kernel_rfl) (by kernel_rfl) (fun _ _ _ h => h) (fun wx hx => exec_move rfl rfl) hS ?_
        simp only [Act.put, List.setIfInBounds_toArray, List.set_cons_zero, List.set_cons_succ]
        refine take_want 2 (some 18) (.pointer (some ⟨g1, o1 + j, none⟩)) rfl rfl rfl (by kernel_rfl) (by kernel_rfl) (by kernel_rfl) (fun _ _ _ h => h) (fun wx hx => exec_index rfl (index_intsN hjn) rfl rfl) hS ?_
        simp only [Act.put, List.setIfInBounds_toArray, List.set_cons_zero, List.set_cons_succ]
        refine take_want 3 (some 19) (.int .i64 x) rfl rfl rfl (by kernel_rfl) (by kernel_rfl) (by kernel_rfl) (fun _ _ _ h => h) (fun wx hx => exec_load rfl (load_intV (cell_bel hx k1)) rfl) hS ?_
        simp only [Act.put, List.setIfInBounds_toArray, List.set_cons_zero, List.set_cons_succ]
        refine take_want 4 (some 20) (.slice (some ⟨g2, o2, none⟩) n c2) rfl rfl rfl (by kernel_rfl) (by kernel_rfl) (by kernel_rfl) (fun _ _ _ h => h) (fun wx hx => exec_move rfl rfl) hS ?_
        simp only [Act.put, List.setIfInBounds_toArray, List.set_cons_zero, List.set_cons_succ]
        refine take_want 5 (some 21) (.int .i64 (j : Int)) rfl rfl rfl (by kernel_rfl) (by kernel_rfl) (by kernel_rfl) (fun _ _ _ h => h) (fun wx hx => exec_move rfl rfl) hS ?_
        simp only [Act.put, List.setIfInBounds_toArray, List.set_cons_zero, List.set_cons_succ]
        refine take_want 6 (some 22) (.pointer (some ⟨g2, o2 + j, none⟩)) rfl rfl rfl (by kernel_rfl) (by kernel_rfl) (by kernel_rfl) (fun _ _ _ h => h) (fun wx hx => exec_index rfl (index_intsN hjn) rfl rfl) hS ?_
        simp only [Act.put, List.setIfInBounds_toArray, List.set_cons_zero, List.set_cons_succ]
        refine take_want 7 (some 23) (.int .i64 y) rfl rfl rfl (by kernel_rfl) (by kernel_rfl) (by kernel_rfl) (fun _ _ _ h => h) (fun wx hx => exec_load rfl (load_intV (cell_bel hx k2)) rfl) hS ?_
        simp only [Act.put, List.setIfInBounds_toArray, List.set_cons_zero, List.set_cons_succ]
        refine take_want 8 (some 24) (.bool (x != y)) rfl rfl rfl (by kernel_rfl) (by kernel_rfl) (by kernel_rfl) (fun _ _ _ h => h) (fun wx hx => exec_neq0 rfl rfl rfl rfl) hS ?_
        simp only [Act.put, List.setIfInBounds_toArray, List.set_cons_zero, List.set_cons_succ]
        refine wpAnyH_done (by kernel_rfl) ?_ _
        have HB1 := hide (nextB HB.out hS)
        clear hS k1 k2
        by_cases hc : x = y
        · have e1 : (x != y) = false := by simp [hc]
          have HC := hide hc
          rw [e1]
          clear hc e1
          go_wp2_with fail
          go_roundg m
          case measure => omega
          case rel => exact ⟨j + 1, by omega, by simp, hide (by rw [take_snoc HX.out, take_snoc HY.out, HA.out, HC.out]), HB1⟩
        · have e1 : (x != y) = true := by simpa using hc
          have HC := hide hc
          rw [e1]
          clear hc e1
          go_wp2_with fail
          go_ret
          exact ⟨by rw [decide_eq_false (fun e => HC.out (by have h1 := HX.out; rw [e, HY.out] at h1; exact (Option.some.inj h1).symm))]; rfl, HB1.out⟩
  · have e0 : ((n : Int) != (n2 : Int)) = true := by simp; omega
    have HNE := hide hne
    clear hne
    go_enter Try.func11, Try.ntmps11
    go_wp2_with fail
    go_ret
    exact ⟨by rw [decide_eq_false (fun e => HNE.out (by rw [← HN.out, ← HN2.out, e]))]; rfl, Below.refl _ _⟩
end Go.Proofs.Ytnkcebngfnailaa
