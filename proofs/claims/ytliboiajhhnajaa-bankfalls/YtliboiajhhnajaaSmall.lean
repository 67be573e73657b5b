/- Size, has, Waiting by their contracts. -/
import Derived.Test.YtliboiajhhnajaaDk
namespace Go.Proofs.Ytliboiajhhnajaa
open Go.RowKit Go.Extern

theorem two_cell0 {w : World} {b : Nat} {x y : Value} {T : TypeId} (h : w.heap[b]? = some (.cells #[x, y] T (0, 0))) : w.cell? ⟨b, 0, none⟩ = some x := by rw [cell_of_row w b _ _ _ _ h]; rfl
theorem two_cell1 {w : World} {b : Nat} {x y : Value} {T : TypeId} (h : w.heap[b]? = some (.cells #[x, y] T (0, 0))) : w.cell? ⟨b, 1, none⟩ = some y := by rw [cell_of_row w b _ _ _ _ h]; rfl
theorem row_frozen {w : World} {b : Nat} {cs : Array Value} {T : TypeId} (h : w.heap[b]? = some (.cells cs T (0, 0))) (i : Nat) : w.frozen? ⟨b, i, none⟩ = false := by simp [World.frozen?, h]

set_option maxRecDepth 100000 in
theorem size_any {w : World} {F : Nat → Prop} {b : Nat} {S : List Sec} (h : Dk w F b S) :
    Calls Try.prog 38 #[.pointer (some ⟨b, 0, none⟩)] w fun e w' => e = .returned (.int .i64 (S.length : Int)) ∧ w' = w := by
  obtain ⟨v, mb, D, h⟩ := h
  have c0 := two_cell0 h.blk
  obtain ⟨ao, cap, rfl⟩ := ownsRow_form h.secs
  clear h
  go_enter Try.func38, Try.ntmps38
  go_wp2
  go_ret
  exact ⟨rfl, rfl⟩

def hasB (S : List Sec) (i : Int) : Bool := decide (0 ≤ i ∧ i < (S.length : Int))
set_option maxRecDepth 100000 in
theorem has_any {w : World} {F : Nat → Prop} {b : Nat} {S : List Sec} (h : Dk w F b S) (i : Int) :
    Calls Try.prog 40 #[.pointer (some ⟨b, 0, none⟩), .int .i64 i] w fun e w' => e = .returned (.bool (hasB S i)) ∧ w' = w := by
  have HD := hide (size_any h)
  clear h
  by_cases h0 : 0 ≤ i
  · by_cases h1 : i < (S.length : Int)
    · have HB : Hid (hasB S i = true) := by show _ = _; simp [hasB, h0, h1]
      go_enter Try.func40, Try.ntmps40
      go_wp2_with (go_at_call 38; refine HD.out.mono ?_; rintro e w' ⟨rfl, rfl⟩)
      go_ret
      exact ⟨by rw [HB.out]; rfl, rfl⟩
    · have HB : Hid (hasB S i = false) := by show _ = _; simp [hasB]; omega
      have hd : decide (i < (S.length : Int)) = false := by simpa using h1
      clear h1
      go_enter Try.func40, Try.ntmps40
      go_wp2_with (go_at_call 38; refine HD.out.mono ?_; rintro e w' ⟨rfl, rfl⟩)
      go_ret
      exact ⟨by rw [HB.out]; rfl, rfl⟩
  · have HB : Hid (hasB S i = false) := by show _ = _; simp [hasB]; omega
    have hd : decide (0 ≤ i) = false := by simpa using h0
    go_enter Try.func40, Try.ntmps40
    go_wp2_with (go_at_call 38; refine HD.out.mono ?_; rintro e w' ⟨rfl, rfl⟩)
    go_ret
    exact ⟨by rw [HB.out]; rfl, rfl⟩

set_option maxRecDepth 100000 in
theorem waiting_any {w : World} {F : Nat → Prop} {b : Nat} {S : List Sec} (h : Dk w F b S) {i : Int} (hi : I64 i) :
    Calls Try.prog 43 #[.pointer (some ⟨b, 0, none⟩), .int .i64 i] w fun e w' => e = .returned (.int .i64 ((wt S i).length : Int)) ∧ w' = w := by
  obtain ⟨v, mb, D, h⟩ := h
  have c1 := two_cell1 h.blk
  have hl := (look_at h.map hi).1
  obtain ⟨ao, cap, hv⟩ := ownsRow_form (h.rows i hi)
  rw [hv] at hl
  generalize (wt S i).length = n at hl
  clear h hv
  go_enter Try.func43, Try.ntmps43
  go_wp2
  go_ret
  exact ⟨rfl, rfl⟩
end Go.Proofs.Ytliboiajhhnajaa
