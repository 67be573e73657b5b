/- What FrameOwn's walk needs besides the contracts. -/
import Derived.Test.YtlgmfiboekmhkabDoorPk3
import Derived.Test.YtlgmfiboekmhkabDoorFrames
import Derived.Laws.BitsLemmas
namespace Go.Proofs.YtlgmfiboekmhkabDoor
open Go.RowKit Go.Extern

/-- One byte written over. -/
theorem Own.set {w : World} {base g n cap i b : Nat} {bs : List Nat} (h : Own w base (.slice (some ⟨g, 0, none⟩) n cap) bs) (hi : i < n) (hb : b < 256) : Own (w.setCell ⟨g, i, none⟩ (.int .u8 (b : Int))) base (.slice (some ⟨g, 0, none⟩) n cap) (bs.set i b) := by
  obtain ⟨⟨h1, h2⟩, h3, h4⟩ := h
  have hl : ∀ x ∈ bs.set i b, x < 256 := fun x hx => by
    rcases List.mem_or_eq_of_mem_set hx with h | h
    · exact h3 x h
    · omega
  rcases h2 with ⟨h, -⟩ | ⟨g', cap', cur, hv, hg, hh, hc, hm, hs, ht⟩
  · cases h
  · simp only [Value.slice.injEq, Option.some.injEq, Addr.mk.injEq, and_true] at hv
    obtain ⟨rfl, hn, rfl⟩ := hv
    subst hn
    refine ⟨⟨by rw [cellsB_length, List.length_set]; simp, .inr ⟨g, cap, cur.setIfInBounds i (.int .u8 (b : Int)), by rw [List.length_set], hg, ?_, by rw [List.length_set]; exact hc, hm, by simpa using hs, ?_⟩⟩, hl, by rw [List.length_set]; exact h4⟩
    · rw [setCell_eq_setRow w g i _ _ _ _ hh]
      exact setRow_heap w g _ _ _ _ hh
    · rw [List.length_set, Array.toList_setIfInBounds, List.take_set, ht]
      simp [cellsB]

/-- A number, and how many bytes it has. -/
structure Pc where
  size : Int
  n : Int

/-- The value 'v' is, in the world 'w', a slice of pieces. -/
def Pieces (w : World) (v : Value) (ps : List Pc) : Prop :=
  ∃ ao cap g off, v = .slice ao ps.length cap ∧ (0 < ps.length → ao = some ⟨g, off, none⟩) ∧
    (∀ (i : Nat) p, ps[i]? = some p → w.cell? ⟨g, off + i * 2, none⟩ = some (.int .i64 p.size) ∧ w.cell? ⟨g, off + i * 2 + 1, none⟩ = some (.int .i64 p.n)) ∧ (∀ p ∈ ps, -9223372036854775808 ≤ p.n ∧ p.n < 9223372036854775808)

theorem i64_and255 (n : Int) : bits .and .i64 n 255 = n % 256 := by
  have h255 : (BitVec.ofInt 64 255).toNat = 2 ^ 8 - 1 := by decide
  have key : (BitVec.ofInt 64 n &&& BitVec.ofInt 64 255).toNat = (n % ((2 ^ 64 : Nat) : Int)).toNat % 2 ^ 8 := by
    rw [BitVec.toNat_and, BitVec.toNat_ofInt, h255, Nat.and_two_pow_sub_one_eq_mod]
  show IntKind.i64.wrap ((BitVec.ofInt 64 n &&& BitVec.ofInt 64 255).toNat : Nat) = n % 256
  rw [key, IntKind.wrap_i64]
  omega
/-- The lowest byte of a number. -/
def low (n : Int) : Nat := (n % 256).toNat
theorem low_lt (n : Int) : low n < 256 := by unfold low; omega
theorem low_and (n : Int) : bits .and .i64 n 255 = ((low n : Nat) : Int) := by rw [i64_and255]; unfold low; omega
theorem low_fit (n : Int) : fitB ((low n : Nat) : Int) 1 = true := by
  have := low_lt n
  simp [fitB, great]; omega
def lows (ps : List Pc) : List Nat := ps.map fun p => low p.n
theorem lows_snoc (ps : List Pc) (p : Pc) : lows (ps ++ [p]) = lows ps ++ [low p.n] := by simp [lows]
theorem lows_length (ps : List Pc) : (lows ps).length = ps.length := by simp [lows]
theorem be_one (n : Nat) (h : n < 256) : be 1 n = [n] := by simp [be, Nat.mod_eq_of_lt h]

/-- An unpacker whose bytes are its own, from 'base' on. -/
def UnpO (w : World) (base b : Nat) (left : List Nat) : Prop :=
  ∃ ao n cap, w.heap[b]? = some (.cells #[.slice ao n cap, .bool false] 57 (0, 0)) ∧ Own w base (.slice ao n cap) left ∧ base ≤ b
theorem UnpO.unp {w : World} {base b : Nat} {left : List Nat} (h : UnpO w base b left) : Unp w b left false := by
  obtain ⟨ao, n, cap, h1, h2, -⟩ := h
  exact ⟨ao, n, cap, h1, h2.bytes, by simp⟩
theorem UnpO.grown {w w' : World} {base b : Nat} {left : List Nat} (h : UnpO w base b left) {row : Option Nat} (hg : w.grownBy w' row) (hr : ∀ k, row = some k → k < base) : UnpO w' base b left := by
  obtain ⟨ao, n, cap, h1, h2, h3⟩ := h
  have key : ∀ k o, base ≤ k → w.heap[k]? = some o → w'.heap[k]? = some o := fun k o hk ho => by
    rw [hg.block k ?_ (fun e => by have := hr k e.symm; omega)]; exact ho
    rcases Nat.lt_or_ge k w.heap.size with q | q
    · exact q
    · rw [Array.getElem?_eq_none q] at ho; cases ho
  exact ⟨ao, n, cap, key b _ h3 h1, h2.of_block (fun k hk o ho => key k o (h2.lt k hk).1 ho), h3⟩
theorem newUnpacker_own (bs : List Nat) (v : Value) (w : World) (hv : Bytes w v bs) :
    Calls Tryd.prog 13 #[v] w fun e w' => ∃ b, e = .returned (.pointer (some ⟨b, 0, none⟩)) ∧ UnpO w' w.heap.size b bs ∧ Below w.heap.size w w' := by
  have H2 := hide (clone_any bs _ w hv)
  obtain ⟨ao, cap, g, off, rfl, -⟩ := hv
  go_enter Tryd.func13, Tryd.ntmps13
  go_wp2_with fail
  refine H2.out.mono ?_
  rintro e w1 ⟨u, rfl, ho, hb⟩
  have HO := hide ho
  have HB := hide hb
  obtain ⟨ao2, cap2, rfl⟩ := ho.form
  clear ho hb
  go_wp2
  go_ret
  exact ⟨_, rfl, ⟨ao2, _, cap2, heap_alloc_new _ _, HO.out.below ((Below.refl _ _).alloc (Nat.le_refl _) _), HB.out.size⟩, HB.out.alloc HB.out.size _⟩

/-- Bytes of a call's own that are written over, byte by byte: how many they are stays. -/
def Over (w0 w : World) (base : Nat) (v : Value) (n : Nat) : Prop := (∃ xs, Own w base v xs ∧ xs.length = n) ∧ w0.grownBy w v.ownBlock
theorem Over.start {w : World} {base : Nat} {v : Value} {xs : List Nat} (h : Own w base v xs) : Over w w base v xs.length := ⟨⟨xs, h, rfl⟩, grownBy_refl _ _⟩
theorem Over.form {w0 w : World} {base : Nat} {ao : Option Addr} {n cap : Nat} (h : Over w0 w base (.slice ao n cap) n) (hn : 0 < n) : ∃ g, ao = some ⟨g, 0, none⟩ := by
  obtain ⟨⟨xs, h1, h2⟩, -⟩ := h
  obtain ⟨g, c, e, -⟩ := h1.1.form (by omega)
  simp only [Value.slice.injEq] at e
  exact ⟨g, e.1⟩
theorem Over.at_ {w0 w : World} {base g n cap j : Nat} (h : Over w0 w base (.slice (some ⟨g, 0, none⟩) n cap) n) (hj : j < n) : ∃ b : Nat, b < 256 ∧ w.cell? ⟨g, j, none⟩ = some (.int .u8 (b : Int)) ∧ w.frozen? ⟨g, j, none⟩ = false ∧ ∀ y : Nat, y < 256 → Over w0 (w.setCell ⟨g, j, none⟩ (.int .u8 (y : Int))) base (.slice (some ⟨g, 0, none⟩) n cap) n := by
  obtain ⟨⟨xs, h1, h2⟩, h3⟩ := h
  subst h2
  have hx : xs[j]? = some xs[j] := by simp
  have k := h1.1.cellAt j (by omega)
  rw [cellsB_get hx] at k
  refine ⟨xs[j], h1.2.1 _ (by simp), k, h1.1.frozenAt j, fun y hy => ⟨⟨xs.set j y, Own.set h1 hj hy, by simp⟩, h3.trans (grown_set w g j _)⟩⟩
theorem Over.own {w0 w : World} {base B : Nat} {v u : Value} {n : Nat} {ys : List Nat} (h : Over w0 w base v n) (hu : Own w0 B u ys) (hne : ∀ k, u.ownBlock = some k → v.ownBlock ≠ some k) : Own w B u ys :=
  hu.of_block fun k hk o ho => by
    rw [h.2.block k ?_ (fun e => hne k hk e.symm)]; exact ho
    rcases Nat.lt_or_ge k w0.heap.size with q | q
    · exact q
    · rw [Array.getElem?_eq_none q] at ho; cases ho
theorem Over.below {w0 w : World} {base B : Nat} {v : Value} {n : Nat} (h : Over w0 w base v n) (hB : B ≤ w0.heap.size) (hv : ∀ k, v.ownBlock = some k → B ≤ k) : Below B w0 w := (Below.refl B w0).grown h.2 hB hv
end Go.Proofs.YtlgmfiboekmhkabDoor
