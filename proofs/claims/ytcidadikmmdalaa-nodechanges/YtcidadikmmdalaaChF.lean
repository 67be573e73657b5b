/- What the law NodeChanges hands over and reads. -/
import Derived.Test.YtcidadikmmdalaaCg
import Derived.Test.YtcidadikmmdalaaRi
import Derived.Test.YtcidadikmmdalaaRc
import Derived.Test.YtcidadikmmdalaaWo
import Derived.Test.YtcidadikmmdalaaLs
namespace Go.Proofs.Ytcidadikmmdalaa
open Go.RowKit Go.Extern

theorem enterChange (args : Array Value) (w : World) : (callFunc 21 args).run Try.prog w = .ok (.enter 21 args) w := by kernel_rfl
theorem litP0 (w : World) : (Instr.buildSlice 47 0 #[]).run Try.prog w = .ok (.slice (some ⟨w.heap.size, 0, none⟩) 0 0) (w.alloc (.cells #[] 50)) := by kernel_rfl
/-- The pairs, in a block of their own. -/
theorem copy_e {w : World} {pv : Value} {ps : List En} (hp : Ents w pv ps) (hl : ps.length ≤ 200) (ty : TypeId) :
    ∃ a c cv w', (Builtin.append_ #[47, 47] ty #[.slice (some ⟨w.heap.size, 0, none⟩) 0 0, pv]).run Try.prog (w.alloc (.cells #[] 50)) = .ok (.slice (some a) c cv) w' ∧ SrcE w' a ps ∧ ps.length = c ∧ c ≤ cv ∧ cv ≤ maxLen ∧ Below w.heap.size w w' := by
  obtain ⟨v', w', hr, hg⟩ := append_e (w.alloc (.cells #[] 50)) ty w.heap.size _ pv [] ps (OwnE.empty 50 w w.heap.size (Nat.le_refl _)) (hp.below (bel_alloc _ _)) (by simp; omega) (by simp)
  have hbb : Below w.heap.size w w' := (bel_alloc w (.cells #[] 50)).grown hg.grown (by simp) (fun k e => by simp [Value.ownBlock] at e; omega)
  have hat := hg.at_
  obtain ⟨⟨h1, h2⟩, h3, h4⟩ := hg.own
  rcases h2 with ⟨rfl, h0⟩ | ⟨g, cap, cur, rfl, hgb, hh, hc, hm, hs, ht⟩
  · rcases hat with e | e <;> simp [Value.ownBlock] at e
  · have hcell := World.ownsRow.cells (w := w') (base := w.heap.size) (e := 50) (size := 2) (v := .slice (some ⟨g, 0, none⟩) ps.length cap) (n := ps.length) (xs := cellsE ps) ⟨h1, .inr ⟨g, cap, cur, rfl, hgb, hh, hc, hm, hs, ht⟩⟩ (g := g) rfl
    exact ⟨⟨g, 0, none⟩, _, cap, w', hr, fun j v hv => hcell j v hv, rfl, hc, hm, hbb⟩
/-- What Change is to tell. -/
def ChgF (L : Int) (K V : List Int) (at_ : Int) (ps : List En) (ns : List Nd) (cd : Int) : Prop :=
  ((at_ < 0 ∨ (K.length : Int) ≤ at_ ∨ 2 < ps.length) ∧ ns = [] ∧ cd = 80) ∨
  ∃ i : Nat, at_ = (i : Int) ∧ i < K.length ∧ ps.length ≤ 2 ∧ ((risB (chgS (K.zip V) i ps) = true ∧ ns = cutS L (chgS (K.zip V) i ps) ∧ cd = 0) ∨ (risB (chgS (K.zip V) i ps) = false ∧ ns = [] ∧ cd = 80))
theorem change_all {w : World} {kv vv : Value} {K V : List Int} {L : Int} (hk : Ints w kv K) (hv : Ints w vv V) (h : Rt L K V) (at_ : Int) {a : Addr} {c cv : Nat} {ps : List En} (hs : SrcE w a ps) (hc : ps.length = c) (hcv : c ≤ cv) (hcm : cv ≤ maxLen) (hmo : ∀ p ∈ ps, enOk p) :
    ∃ ns cd, Calls Try.prog 21 #[.agg #[.int .i64 L, kv, vv], .int .i64 at_, .slice (some a) c cv] w (Putted w ns cd) ∧ ChgF L K V at_ ps ns cd := by
  by_cases hx : at_ < 0 ∨ (K.length : Int) ≤ at_ ∨ 2 < c
  · exact ⟨[], 80, change_key hk hv h hx, .inl ⟨by rw [hc]; exact hx, rfl, rfl⟩⟩
  · obtain ⟨i, rfl⟩ : ∃ i : Nat, at_ = (i : Int) := ⟨at_.toNat, by omega⟩
    cases hb : risB (chgS (K.zip V) i ps) with
    | true =>
      have := change_in hk hv h (i := i) (by omega) hs hc (by omega) hcv hcm hmo true hb
      exact ⟨_, 0, by simpa using this, .inr ⟨i, rfl, by omega, by omega, .inl ⟨hb, rfl, rfl⟩⟩⟩
    | false =>
      have := change_in hk hv h (i := i) (by omega) hs hc (by omega) hcv hcm hmo false hb
      exact ⟨_, 80, by simpa using this, .inr ⟨i, rfl, by omega, by omega, .inr ⟨hb, rfl, rfl⟩⟩⟩
theorem chgS_fst {K V : List Int} (h : V.length = K.length) (i : Nat) (ps : List En) : (chgS (K.zip V) i ps).map Prod.fst = K.take i ++ ps.map Prod.fst ++ K.drop (i + 1) := by
  unfold chgS; rw [List.map_append, List.map_append, List.map_take, List.map_drop, zip_fst h]
theorem chgS_snd {K V : List Int} (h : V.length = K.length) (i : Nat) (ps : List En) : (chgS (K.zip V) i ps).map Prod.snd = V.take i ++ ps.map Prod.snd ++ V.drop (i + 1) := by
  unfold chgS; rw [List.map_append, List.map_append, List.map_take, List.map_drop, zip_snd h]
theorem ints_blk {w : World} {g : Nat} {k : Int} (h : w.heap[g]? = some (.cells #[.int .i64 k] 3 (0, 0))) (hk : I64 k) : Ints w (.slice (some ⟨g, 0, none⟩) 1 1) [k] :=
  ⟨ownsRow_row (base := g) (e := 3) ⟨by simp, .inr ⟨g, 1, #[.int .i64 k], rfl, Nat.le_refl _, h, by simp, by unfold maxLen; omega, by simp, by simp [encI]⟩⟩ (by simp), by simpa using hk⟩
/-- The two lists that the law gathers. -/
structure LoW (wL : World) (kv vv : Value) (K V : List Int) (wr : World) : Prop where
  two : Two wL.heap.size wr kv vv K V
  bel : Below wL.heap.size wL wr
/-- What the gathering line reads. -/
structure PbS (wL : World) (pb : Nat) (a b : Int) (wx : World) : Prop where
  bel : Below wL.heap.size wL wx
  box : wx.heap[pb]? = some (.cells #[.int .i64 a, .int .i64 b] 50 (0, 0))
theorem PbS.c {wL : World} {pb : Nat} {a b : Int} {wx : World} (h : PbS wL pb a b wx) : wx.cell? ⟨pb, 0, none⟩ = some (.int .i64 a) ∧ wx.cell? ⟨pb, 0 + 1, none⟩ = some (.int .i64 b) :=
  ⟨by rw [row_cell h.box]; rfl, by rw [row_cell h.box]; rfl⟩
theorem PbS.below {wL : World} {pb : Nat} {a b : Int} {wx wy : World} (h : PbS wL pb a b wx) (hb : Below wx.heap.size wx wy) : PbS wL pb a b wy := ⟨nextB h.bel hb, blk_below hb h.box⟩
theorem PbS.app {wL : World} {pb : Nat} {a b : Int} {wx wy : World} (h : PbS wL pb a b wx) {kv vv kv' : Value} {K V : List Int} (hd : Two1 wL.heap.size wx kv vv wy kv' K V) (hn : kv.ownBlock ≠ some pb) : PbS wL pb a b wy := ⟨h.bel.trans hd.bel, hd.blk _ _ h.box hn⟩
theorem PbS.lt {wL : World} {pb : Nat} {a b : Int} {wx : World} (h : PbS wL pb a b wx) : pb < wx.heap.size := heap_lt h.box
end Go.Proofs.Ytcidadikmmdalaa
