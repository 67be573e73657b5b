/- Numbers in memory. -/
import Derived.Test.YtliboiajhhnajaaDoorDk
namespace Go.Proofs.YtliboiajhhnajaaDoor
open Go.RowKit Go.Extern

/-- The value 'v' is, in the world 'w', a slice of the numbers 'ns'. -/
def Ints (w : World) (v : Value) (ns : List Int) : Prop :=
  ∃ ao cap g off, v = .slice ao ns.length cap ∧ (0 < ns.length → ao = some ⟨g, off, none⟩) ∧ (∀ (i : Nat) n, ns[i]? = some n → w.cell? ⟨g, off + i, none⟩ = some (.int .i64 n)) ∧ (∀ n ∈ ns, I64 n) ∧ ns.length ≤ 140737488355328 ∧ (ao = none → cap = 0) ∧ ns.length ≤ cap ∧ cap ≤ maxLen
theorem Ints.below {w w' : World} (hb : Below w.heap.size w w') {v : Value} {ns : List Int} (h : Ints w v ns) : Ints w' v ns := by
  obtain ⟨ao, cap, g, off, h1, h2, h3, h4⟩ := h
  exact ⟨ao, cap, g, off, h1, h2, fun i q hq => by rw [hb.cell (cell_lt (h3 i q hq))]; exact h3 i q hq, h4⟩

end Go.Proofs.YtliboiajhhnajaaDoor
