/- Bytes in memory. -/
import Derived.Test.YtnkcebngfnailaaChecked
import Derived.Below
import Derived.Deep.LoopGhost
import Derived.Deep.AppendLies
import Derived.Deep.QuietTactic
import Derived.RowKit
import Derived.ProofKit
import Derived.WalkKit
import Derived.IntWalk
import Derived.Handy
namespace Go.Proofs.Ytnkcebngfnailaa
open Go.RowKit Go.Extern

theorem hide {p : Prop} (h : p) : Hid p := h
theorem cell_lt {w : World} {a : Addr} {v : Value} (h : w.cell? a = some v) : a.block < w.heap.size := by
  rcases Nat.lt_or_ge a.block w.heap.size with g | g
  · exact g
  · simp [World.cell?, Array.getElem?_eq_none g] at h

/-- The value 'v' is, in the world 'w', a slice of the bytes 'bs'. -/
def Bytes (w : World) (v : Value) (bs : List Nat) : Prop :=
  ∃ ao cap g off, v = .slice ao bs.length cap ∧ (0 < bs.length → ao = some ⟨g, off, none⟩) ∧ (∀ (i : Nat) b, bs[i]? = some b → w.cell? ⟨g, off + i, none⟩ = some (.int .u8 (b : Int))) ∧
    (∀ b ∈ bs, b < 256) ∧ bs.length ≤ 140737488355328 ∧ (ao = none → cap = 0) ∧ bs.length ≤ cap ∧ cap ≤ maxLen
theorem Bytes.below {w w' : World} (hb : Below w.heap.size w w') {v : Value} {bs : List Nat} (h : Bytes w v bs) : Bytes w' v bs := by
  obtain ⟨ao, cap, g, off, h1, h2, h3, h4⟩ := h
  exact ⟨ao, cap, g, off, h1, h2, fun i q hq => by rw [hb.cell (cell_lt (h3 i q hq))]; exact h3 i q hq, h4⟩
theorem Bytes.lt {w : World} {v : Value} {bs : List Nat} (h : Bytes w v bs) : ∀ b ∈ bs, b < 256 := by
  obtain ⟨ao, cap, g, off, h1, h2, h3, h4, h5⟩ := h; exact h4
theorem Bytes.len {w : World} {v : Value} {bs : List Nat} (h : Bytes w v bs) : bs.length ≤ 140737488355328 := by
  obtain ⟨ao, cap, g, off, h1, h2, h3, h4, h5, h6⟩ := h; exact h5
theorem Bytes.nil (w : World) : Bytes w (.slice none 0 0) [] := ⟨none, 0, 0, 0, rfl, by simp, by simp, by simp, by simp, by simp, by simp, by simp⟩

/-- The value 'v' is, in the world 'w', a slice of parts. -/
def Parts (w : World) (v : Value) (ps : List (List Nat)) : Prop :=
  ∃ ao cap g off, v = .slice ao ps.length cap ∧ (0 < ps.length → ao = some ⟨g, off, none⟩) ∧ (∀ (i : Nat) p, ps[i]? = some p → ∃ u, w.cell? ⟨g, off + i, none⟩ = some u ∧ Bytes w u p) ∧ ps.length ≤ 140737488355328

theorem take_snoc {α : Type} {l : List α} {j : Nat} {q : α} (h : l[j]? = some q) : l.take (j + 1) = l.take j ++ [q] := by rw [List.take_add_one, h]; rfl

end Go.Proofs.Ytnkcebngfnailaa
