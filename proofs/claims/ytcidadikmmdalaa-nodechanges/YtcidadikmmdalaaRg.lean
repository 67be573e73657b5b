/- A node that the document's functions build up: appends to its two lists. -/
import Derived.Test.YtcidadikmmdalaaAw
namespace Go.Proofs.Ytcidadikmmdalaa
open Go.RowKit Go.Extern

/-- The node that is read, and the one that grows. -/
structure RpW (w : World) (b4 b5 base : Nat) (L : Int) (kvn vvn : Value) (K V : List Int) (kv vv : Value) (wr : World) : Prop where
  md : MdW 24 w b4 b5 base L K V kv vv wr
  bn : BoxN 24 wr w.heap.size L kvn vvn
  sz : base ≤ wr.heap.size
/-- How the blocks lie. -/
structure Lie (w : World) (b4 b5 base : Nat) : Prop where
  h45 : b4 ≠ b5
  h4 : b4 < base
  h5 : b5 < base
  hw : w.heap.size < b5
theorem RpW.below {w : World} {b4 b5 base : Nat} {L : Int} {kvn vvn : Value} {K V : List Int} {kv vv : Value} {wr wx : World} (h : RpW w b4 b5 base L kvn vvn K V kv vv wr) (hb : Below wr.heap.size wr wx) : RpW w b4 b5 base L kvn vvn K V kv vv wx :=
  ⟨h.md.below hb, h.bn.below hb, Nat.le_trans h.sz hb.size⟩
theorem RpW.c {w : World} {b4 b5 base : Nat} {L : Int} {kvn vvn : Value} {K V : List Int} {kv vv : Value} {wr : World} (h : RpW w b4 b5 base L kvn vvn K V kv vv wr) : wr.cell? ⟨b5, 0, none⟩ = some (.int .i64 L) ∧ wr.cell? ⟨b5, 1, none⟩ = some kv ∧ wr.cell? ⟨b5, 2, none⟩ = some vv := BoxN.cells h.md.h5
/-- What an append to the keys leaves. -/
structure RpK (w : World) (b4 b5 base : Nat) (L : Int) (kvn vvn : Value) (K V : List Int) (vv : Value) (kv0 kv' : Value) (w' : World) : Prop where
  c : w'.cell? ⟨b5, 1, none⟩ = some kv0
  f : w'.frozen? ⟨b5, 1, none⟩ = false
  rp : RpW w b4 b5 base L kvn vvn K V kv' vv (w'.setCell ⟨b5, 1, none⟩ kv')
  bn : BoxN 24 w' w.heap.size L kvn vvn
  bel : Below w.heap.size w w'
structure RpV (w : World) (b4 b5 base : Nat) (L : Int) (kvn vvn : Value) (K V : List Int) (kv : Value) (vv0 vv' : Value) (w' : World) : Prop where
  c : w'.cell? ⟨b5, 2, none⟩ = some vv0
  f : w'.frozen? ⟨b5, 2, none⟩ = false
  rp : RpW w b4 b5 base L kvn vvn K V kv vv' (w'.setCell ⟨b5, 2, none⟩ vv')
  bn : BoxN 24 w' w.heap.size L kvn vvn
  bel : Below w.heap.size w w'
theorem RpW.keys {w : World} {b4 b5 base : Nat} {L : Int} {kvn vvn : Value} {K V : List Int} {kv vv : Value} {wr : World} (h : RpW w b4 b5 base L kvn vvn K V kv vv wr) (hl : Lie w b4 b5 base) {x : Value} {M : List Int} (hx : Ints wr x M) (hn : K.length + M.length ≤ 10000) :
    ∃ kv' w', (Builtin.append_ #[22, 22] 22 #[kv, x]).run Try.prog wr = .ok kv' w' ∧ RpK w b4 b5 base L kvn vvn (K ++ M) V vv kv kv' w' := by
  obtain ⟨h45, h4b, h5b, hwb⟩ := hl
  obtain ⟨kv', w', hr, h1⟩ := h.md.two.append h.sz 22 hx hn
  have g5 := h1.blk b5 _ h.md.h5 (fun e => by have := (h.md.two.hk.lt _ e).1; omega)
  have gn := h1.blk w.heap.size _ h.bn (fun e => by have := (h.md.two.hk.lt _ e).1; omega)
  have hb : Below w.heap.size w w' := h.md.bel.trans (h1.bel.mono (by omega))
  refine ⟨kv', w', hr, by rw [row_cell g5]; rfl, row_frozen g5 1, ⟨⟨?_, set_at1 g5 kv', h1.two.set h5b kv', hb.setCell (show w.heap.size ≤ b5 by omega) _⟩, set_else gn (by omega) _, ?_⟩, gn, hb⟩
  · obtain ⟨x, y, z, h4⟩ := h.md.h4
    exact ⟨x, y, z, set_else (h1.blk b4 _ h4 (fun e => by have := (h.md.two.hk.lt _ e).1; omega)) h45 _⟩
  · have := h1.bel.size; have := h.sz; simp; omega
theorem RpW.vals {w : World} {b4 b5 base : Nat} {L : Int} {kvn vvn : Value} {K V : List Int} {kv vv : Value} {wr : World} (h : RpW w b4 b5 base L kvn vvn K V kv vv wr) (hl : Lie w b4 b5 base) {x : Value} {M : List Int} (hx : Ints wr x M) (hn : V.length + M.length ≤ 10000) :
    ∃ vv' w', (Builtin.append_ #[22, 22] 22 #[vv, x]).run Try.prog wr = .ok vv' w' ∧ RpV w b4 b5 base L kvn vvn K (V ++ M) kv vv vv' w' := by
  obtain ⟨h45, h4b, h5b, hwb⟩ := hl
  obtain ⟨vv', w', hr, h1⟩ := h.md.two.swap.append h.sz 22 hx hn
  have g5 := h1.blk b5 _ h.md.h5 (fun e => by have := (h.md.two.hv.lt _ e).1; omega)
  have gn := h1.blk w.heap.size _ h.bn (fun e => by have := (h.md.two.hv.lt _ e).1; omega)
  have hb : Below w.heap.size w w' := h.md.bel.trans (h1.bel.mono (by omega))
  refine ⟨vv', w', hr, by rw [row_cell g5]; rfl, row_frozen g5 2, ⟨⟨?_, set_at2 g5 vv', h1.two.swap.set h5b vv', hb.setCell (show w.heap.size ≤ b5 by omega) _⟩, set_else gn (by omega) _, ?_⟩, gn, hb⟩
  · obtain ⟨x, y, z, h4⟩ := h.md.h4
    exact ⟨x, y, z, set_else (h1.blk b4 _ h4 (fun e => by have := (h.md.two.hv.lt _ e).1; omega)) h45 _⟩
  · have := h1.bel.size; have := h.sz; simp; omega
theorem RpW.key {w : World} {b4 b5 base : Nat} {L : Int} {kvn vvn : Value} {K V : List Int} {kv vv : Value} {wr : World} (h : RpW w b4 b5 base L kvn vvn K V kv vv wr) (hl : Lie w b4 b5 base) {k : Int} (hk : I64 k) (hn : K.length ≤ 5000) :
    ∃ kv' w', (Builtin.append_ #[22, 22] 22 #[kv, .slice (some ⟨wr.heap.size, 0, none⟩) 1 1]).run Try.prog (wr.alloc (.cells #[.int .i64 k] 3)) = .ok kv' w' ∧ RpK w b4 b5 base L kvn vvn (K ++ [k]) V vv kv kv' w' :=
  (h.below (bel_alloc wr (.cells #[.int .i64 k] 3))).keys hl (ints_lit wr k hk) (by simp; omega)
theorem RpW.val {w : World} {b4 b5 base : Nat} {L : Int} {kvn vvn : Value} {K V : List Int} {kv vv : Value} {wr : World} (h : RpW w b4 b5 base L kvn vvn K V kv vv wr) (hl : Lie w b4 b5 base) {k : Int} (hk : I64 k) (hn : V.length ≤ 5000) :
    ∃ vv' w', (Builtin.append_ #[22, 22] 22 #[vv, .slice (some ⟨wr.heap.size, 0, none⟩) 1 1]).run Try.prog (wr.alloc (.cells #[.int .i64 k] 3)) = .ok vv' w' ∧ RpV w b4 b5 base L kvn vvn K (V ++ [k]) kv vv vv' w' :=
  (h.below (bel_alloc wr (.cells #[.int .i64 k] 3))).vals hl (ints_lit wr k hk) (by simp; omega)
/-- What a region that appends may rely on. -/
structure AppS (w : World) (L : Int) (kvn vvn : Value) (wx : World) : Prop where
  bn : BoxN 24 wx w.heap.size L kvn vvn
  bel : Below w.heap.size w wx
theorem AppS.c {w : World} {L : Int} {kv vv : Value} {wx : World} (h : AppS w L kv vv wx) : wx.cell? ⟨w.heap.size, 0, none⟩ = some (.int .i64 L) ∧ wx.cell? ⟨w.heap.size, 0 + 1, none⟩ = some kv ∧ wx.cell? ⟨w.heap.size, 0 + 2, none⟩ = some vv := h.bn.cells
theorem AppS.below {w : World} {L : Int} {kv vv : Value} {wx wy : World} (h : AppS w L kv vv wx) (hb : Below wx.heap.size wx wy) : AppS w L kv vv wy := ⟨h.bn.below hb, nextB h.bel hb⟩
theorem lit1 (w : World) (k : Int) : (Instr.buildSlice 22 1 #[(0, .int .i64 k)]).run Try.prog w = .ok (.slice (some ⟨w.heap.size, 0, none⟩) 1 1) (w.alloc (.cells #[.int .i64 k] 3)) := by kernel_rfl
theorem store_ints {w : World} {b i : Nat} {x : Value} {a : Option Addr} {n c : Nat} (h : w.cell? ⟨b, i, none⟩ = some x) (hf : w.frozen? ⟨b, i, none⟩ = false) : (Instr.storeAt 22 (.pointer (some ⟨b, i, none⟩)) (.slice a n c)).run Try.prog w = .ok () (w.setCell ⟨b, i, none⟩ (.slice a n c)) := by go_simp
theorem load_rnodeP {w : World} {g i : Nat} {L : Int} {kv vv : Value} (h : w.cell? ⟨g, i, none⟩ = some (.int .i64 L) ∧ w.cell? ⟨g, i + 1, none⟩ = some kv ∧ w.cell? ⟨g, i + 2, none⟩ = some vv) : (Instr.loadAt 24 (.pointer (some ⟨g, i, none⟩))).run Try.prog w = .ok (.agg #[.int .i64 L, kv, vv]) w := by
  obtain ⟨h1, h2, h3⟩ := h
  go_simp
end Go.Proofs.Ytcidadikmmdalaa
