/- Bytes that a call owns; append onto them; Copy, Clone and Same by their contracts. -/
import Derived.Test.YtliboiajhhnajaaDoorCore
import Derived.Laws.AppendOwnNone
import Derived.Laws.BytesArg
namespace Go.Proofs.YtliboiajhhnajaaDoor
open Go.RowKit Go.Extern

/-- Bytes as cells. -/
def cellsB (bs : List Nat) : List Value := bs.map fun b : Nat => Value.int .u8 (b : Int)
theorem cellsB_append (a b : List Nat) : cellsB (a ++ b) = cellsB a ++ cellsB b := by simp [cellsB]
theorem cellsB_length (a : List Nat) : (cellsB a).length = a.length := by simp [cellsB]
theorem cellsB_at {bs : List Nat} {i : Nat} {u : Value} (h : (cellsB bs)[i]? = some u) : ∃ b, bs[i]? = some b ∧ u = .int .u8 (b : Int) := by
  simp only [cellsB, List.getElem?_map, Option.map_eq_some_iff] at h
  obtain ⟨b, h1, h2⟩ := h
  exact ⟨b, h1, h2.symm⟩
theorem cellsB_get {bs : List Nat} {i b : Nat} (h : bs[i]? = some b) : (cellsB bs)[i]? = some (.int .u8 (b : Int)) := by simp [cellsB, h]

/-- 'v' is a slice of the bytes 'bs' in a block of its own, from 'base' on. -/
def Own (w : World) (base : Nat) (v : Value) (bs : List Nat) : Prop :=
  w.ownsRow base 5 1 v bs.length (cellsB bs) ∧ (∀ b ∈ bs, b < 256) ∧ bs.length ≤ 140737488355328

theorem Own.bytes {w : World} {base : Nat} {v : Value} {bs : List Nat} (h : Own w base v bs) : Bytes w v bs := by
  obtain ⟨⟨h1, h2⟩, h3, h4⟩ := h
  rcases h2 with ⟨rfl, h0⟩ | ⟨g, cap, cur, rfl, hg, hh, hc, hm, hs, ht⟩
  · have : bs = [] := List.length_eq_zero_iff.1 h0
    subst this
    exact Bytes.nil w
  · refine ⟨_, cap, g, 0, rfl, fun _ => rfl, fun i b hb => ?_, h3, h4, by simp, hc, hm⟩
    have := (World.ownsRow.cells (w := w) (base := base) (e := 5) (size := 1) (v := .slice (some ⟨g, 0, none⟩) bs.length cap) (n := bs.length) (xs := cellsB bs) ⟨h1, .inr ⟨g, cap, cur, rfl, hg, hh, hc, hm, hs, ht⟩⟩ (g := g) rfl) i _ (cellsB_get hb)
    have e : (⟨g, 0, none⟩ : Addr).add i = ⟨g, 0 + i, none⟩ := by unfold Addr.add; split <;> simp_all
    rw [e] at this; exact this
theorem Own.below {w w' : World} {base : Nat} {v : Value} {bs : List Nat} (h : Own w base v bs) (hb : Below w.heap.size w w') : Own w' base v bs := by
  obtain ⟨⟨h1, h2⟩, h3⟩ := h
  refine ⟨⟨h1, ?_⟩, h3⟩
  rcases h2 with h2 | ⟨g, cap, cur, hv, hg, hh, r⟩
  · exact Or.inl h2
  · refine Or.inr ⟨g, cap, cur, hv, hg, ?_, r⟩
    rw [hb.block g ?_]; exact hh
    rcases Nat.lt_or_ge g w.heap.size with q | q
    · exact q
    · rw [Array.getElem?_eq_none q] at hh; cases hh
theorem Own.base {w : World} {base base' : Nat} {v : Value} {bs : List Nat} (h : Own w base v bs) (hb : base' ≤ base) : Own w base' v bs := by
  obtain ⟨⟨h1, h2⟩, h3⟩ := h
  refine ⟨⟨h1, ?_⟩, h3⟩
  rcases h2 with h2 | ⟨g, cap, cur, hv, hg, r⟩
  · exact Or.inl h2
  · exact Or.inr ⟨g, cap, cur, hv, by omega, r⟩
theorem Own.nil (w : World) (base : Nat) : Own w base (.slice none 0 0) [] := ⟨World.ownsRow_nil _ _ _ _, by simp, by simp⟩
theorem Own.lit (w : World) (base : Nat) (hb : base ≤ w.heap.size) (bs : List Nat) (hl : ∀ b ∈ bs, b < 256) (hn : bs.length ≤ 140737488355328) :
    Own (w.alloc (.cells (cellsB bs).toArray 5)) base (.slice (some ⟨w.heap.size, 0, none⟩) bs.length bs.length) bs :=
  ⟨by have := World.ownsRow_lit (base := base) (e := 5) (size := 1) w (cellsB bs).toArray bs.length hb (by unfold maxLen; omega) (by simp [cellsB]); simpa using this, hl, hn⟩
theorem Own.lt {w : World} {base : Nat} {v : Value} {bs : List Nat} (h : Own w base v bs) : ∀ k, v.ownBlock = some k → base ≤ k ∧ k < w.heap.size := h.1.lt
theorem Own.form {w : World} {base : Nat} {v : Value} {bs : List Nat} (h : Own w base v bs) : ∃ ao cap, v = .slice ao bs.length cap := by
  obtain ⟨⟨h1, h2⟩, h3⟩ := h
  rcases h2 with ⟨rfl, h0⟩ | ⟨g, cap, cur, rfl, hg, r⟩
  · exact ⟨none, 0, by rw [h0]⟩
  · exact ⟨_, _, rfl⟩

theorem infoU8 : (Tryd.prog.info? 5).map (fun i => (i.zero, i.size, i.bytes)) = some (some (.int .u8 0), 1, 1) := by kernel_rfl

theorem grownBy_refl (w : World) (row : Option Nat) : w.grownBy w row := ⟨rfl, rfl, rfl, Nat.le_refl _, fun _ _ _ => rfl⟩

end Go.Proofs.YtliboiajhhnajaaDoor
