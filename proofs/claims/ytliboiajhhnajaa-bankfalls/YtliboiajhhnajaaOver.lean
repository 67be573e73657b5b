/- Bytes written over. -/
import Derived.Test.YtliboiajhhnajaaCrash
namespace Go.Proofs.Ytliboiajhhnajaa
open Go.RowKit Go.Extern

/-- One byte written over. -/
theorem Own.set {w : World} {base g n cap i b : Nat} {bs : List Nat} (h : Own w base (.slice (some ⟨g, 0, none⟩) n cap) bs) (hb : b < 256) : Own (w.setCell ⟨g, i, none⟩ (.int .u8 (b : Int))) base (.slice (some ⟨g, 0, none⟩) n cap) (bs.set i b) := by
  obtain ⟨⟨h1, h2⟩, h3, h4⟩ := h
  have hl : ∀ x ∈ bs.set i b, x < 256 := fun x hx => by
    rcases List.mem_or_eq_of_mem_set hx with h | h
    · exact h3 x h
    · omega
  rcases h2 with ⟨h, -⟩ | ⟨g', cap', cur, hv, hg, hh, hc, hm, hs, ht⟩
  · cases h
  · simp only [Value.slice.injEq, Option.some.injEq, Addr.mk.injEq, and_true] at hv
    obtain ⟨rfl, hn, rfl⟩ := hv
    subst hn
    refine ⟨⟨by rw [cellsB_length, List.length_set]; simp, .inr ⟨g, cap, cur.setIfInBounds i (.int .u8 (b : Int)), by rw [List.length_set], hg, ?_, by rw [List.length_set]; exact hc, hm, by simpa using hs, ?_⟩⟩, hl, by rw [List.length_set]; exact h4⟩
    · rw [setCell_eq_setRow w g i _ _ _ _ hh]
      exact setRow_heap w g _ _ _ _ hh
    · rw [List.length_set, Array.toList_setIfInBounds, List.take_set, ht]
      simp [cellsB]
/-- The bytes of 'v' are being written over; nothing else has turned since 'w0'. -/
def Over (w0 wr : World) (v : Value) (n : Nat) : Prop := (∃ bs, bs.length = n ∧ Own wr 0 v bs) ∧ w0.grownBy wr v.ownBlock
theorem Over.start {w : World} {base : Nat} {v : Value} {bs : List Nat} (h : Own w base v bs) : Over w w v bs.length := ⟨⟨bs, rfl, h.base (Nat.zero_le _)⟩, grownBy_refl _ _⟩
theorem Over.form {w0 wr : World} {ao : Option Addr} {n cap : Nat} (h : Over w0 wr (.slice ao n cap) n) (hn : 0 < n) : ∃ g, ao = some ⟨g, 0, none⟩ := by
  obtain ⟨⟨bs, rfl, ho⟩, -⟩ := h
  obtain ⟨g, cap', cur, e, -⟩ := ownsRow_pos ho.1 hn
  injection e with e1
  exact ⟨g, e1⟩
theorem Over.at_ {w0 wr : World} {g n cap j : Nat} (h : Over w0 wr (.slice (some ⟨g, 0, none⟩) n cap) n) (hj : j < n) :
    ∃ x : Nat, x < 256 ∧ wr.cell? ⟨g, j, none⟩ = some (.int .u8 (x : Int)) ∧ wr.frozen? ⟨g, j, none⟩ = false ∧ ∀ y : Nat, y < 256 → Over w0 (wr.setCell ⟨g, j, none⟩ (.int .u8 (y : Int))) (.slice (some ⟨g, 0, none⟩) n cap) n := by
  obtain ⟨⟨bs, hbl, ho⟩, hg⟩ := h
  have hj' : j < bs.length := by omega
  obtain ⟨cur, hh⟩ := row_block ho.1 (g := g) rfl
  have hb : bs[j]? = some bs[j] := by simp [hj']
  have hrow : wr.ownsRow 0 5 1 (.slice (some ⟨g, 0, none⟩) bs.length cap) bs.length (cellsB bs) := by rw [hbl]; have := ho.1; rw [hbl] at this; exact this
  refine ⟨bs[j], ho.2.1 _ (List.mem_of_getElem? hb), row_cell hrow (cellsB_get hb), row_frozen hh j, fun y hy => ⟨⟨bs.set j y, by rw [List.length_set]; exact hbl, ho.set hy⟩, ?_⟩⟩
  refine ⟨hg.os, hg.tape, hg.output, by have := hg.size; simpa [World.setCell] using this, fun k hk hn => ?_⟩
  rw [Below.heap_setCell _ _ _ _ (fun e : k = g => hn (by rw [e]; rfl))]
  exact hg.block k hk hn
theorem Dk.over {w0 wr : World} {F : Nat → Prop} {b : Nat} {S : List Sec} {v : Value} {n : Nat} (h : Dk w0 F b S) (ho : Over w0 wr v n) (hv : ∀ k, v.ownBlock = some k → ¬ F k) : Dk wr F b S :=
  h.of_blocks fun k o hk hx => by rw [ho.2.block k (heap_lt hx) (fun e => hv k e.symm hk)]; exact hx
theorem Over.below {w0 wr : World} {v : Value} {n B : Nat} (h : Over w0 wr v n) (hB : B ≤ w0.heap.size) (hv : ∀ k, v.ownBlock = some k → B ≤ k) : Below B w0 wr :=
  (Below.refl _ _).grown h.2 hB hv
theorem wSet_eq {S : List Sec} {k : Nat} {s : Sec} {d : List Nat} (hs : S[k]? = some s) (hd : d.length = 128) : (wSet S (k : Int) d)[k]? = some { s with wait := s.wait ++ [d] } := by
  have hk := (List.getElem?_eq_some_iff.1 hs).1
  unfold wSet
  rw [if_pos ⟨hasB_nat hk, hd⟩, Int.toNat_natCast, hs]
  exact List.getElem?_set_self hk
theorem wSet_ne {S : List Sec} {k : Nat} {oi : Int} {d : List Nat} (h : oi ≠ (k : Int)) : (wSet S oi d)[k]? = S[k]? := by
  unfold wSet
  split
  · rename_i hx
    obtain ⟨j, s, rfl, hs⟩ := hasB_at hx.1
    rw [Int.toNat_natCast, hs]
    exact List.getElem?_set_ne (by omega)
  · rfl
theorem u8_not (x : Nat) (h : x < 256) : ∃ y : Nat, y < 256 ∧ bits .xor .u8 IntKind.u8.max (x : Int) = (y : Int) := by
  refine ⟨255 - x, by omega, ?_⟩
  have hall : ∀ n : Fin 256, bits .xor .u8 IntKind.u8.max ((n.val : Nat) : Int) = ((255 - n.val : Nat) : Int) := by decide +kernel
  exact hall ⟨x, h⟩
end Go.Proofs.Ytliboiajhhnajaa
