/- Size, has, Waiting by their contracts. -/
import Derived.Test.YtliboiajhhnajaaDoorDk
namespace Go.Proofs.YtliboiajhhnajaaDoor
open Go.RowKit Go.Extern

theorem two_cell0 {w : World} {b : Nat} {x y : Value} {T : TypeId} (h : w.heap[b]? = some (.cells #[x, y] T (0, 0))) : w.cell? ⟨b, 0, none⟩ = some x := by rw [cell_of_row w b _ _ _ _ h]; rfl
theorem two_cell1 {w : World} {b : Nat} {x y : Value} {T : TypeId} (h : w.heap[b]? = some (.cells #[x, y] T (0, 0))) : w.cell? ⟨b, 1, none⟩ = some y := by rw [cell_of_row w b _ _ _ _ h]; rfl
theorem row_frozen {w : World} {b : Nat} {cs : Array Value} {T : TypeId} (h : w.heap[b]? = some (.cells cs T (0, 0))) (i : Nat) : w.frozen? ⟨b, i, none⟩ = false := by simp [World.frozen?, h]

set_option maxRecDepth 100000 in
theorem size_any {w : World} {F : Nat → Prop} {b : Nat} {S : List Sec} (h : Dk w F b S) :
    Calls Tryd.prog 16 #[.pointer (some ⟨b, 0, none⟩)] w fun e w' => e = .returned (.int .i64 (S.length : Int)) ∧ w' = w := by
  obtain ⟨v, mb, D, h⟩ := h
  have c0 := two_cell0 h.blk
  obtain ⟨ao, cap, rfl⟩ := ownsRow_form h.secs
  clear h
  go_enter Tryd.func16, Tryd.ntmps16
  go_wp2
  go_ret
  exact ⟨rfl, rfl⟩

def hasB (S : List Sec) (i : Int) : Bool := decide (0 ≤ i ∧ i < (S.length : Int))
end Go.Proofs.YtliboiajhhnajaaDoor
