/- Drop. -/
import Derived.Test.YtcidadikmmdalaaDoorPu
namespace Go.Proofs.YtcidadikmmdalaaDoor
open Go.RowKit Go.Extern

theorem res_two {P : Program} {fn : Func} {p u : Tmp} {ty : TypeId} (h : fn.results = #[.cell p ty, .tmp u]) (tmps : Array Value) (w : World) (g : Nat) (t : TypeId) (cs : Array Value) (fr : Nat × Nat) (d : TypeDesc)
    (hp : tmps.getD p undef = .pointer (some ⟨g, 0, none⟩)) (hg : w.heap[g]? = some (.cells cs t fr))
    (hu : P.underlying ty = some d) (hd : (match d with | .struct _ | .array _ _ => true | _ => false) = true) (hi : (P.info? ty).map (·.size) = some cs.size) :
    (results fn tmps).run P w = .ok (.tuple #[.agg cs, tmps.getD u undef]) w := by
  rw [results_cell_tmp h, hp]
  simp [asAddr, run_loadVar_row w g t ty cs fr d hg hu hd hi, Result.andThen]
/-- A node and one result more. -/
theorem ret_node2 {fn : Func} {R : Ending → World → Prop} {a : Act} {w : World} {p u : Tmp} (h : fn.results = #[.cell p 30, .tmp u]) (g : Nat) (x y z : Value) (hp : a.tmps.getD p undef = .pointer (some ⟨g, 0, none⟩))
    (hg : w.heap[g]? = some (.cells #[x, y, z] 30 (0, 0))) (hd : a.defers = []) (hR : R (.returned (.tuple #[.agg #[x, y, z], a.tmps.getD u undef])) w) : bodyPost Tryd.prog fn R .ret a w :=
  bodyPost_ret (res_two h a.tmps w g 30 #[x, y, z] (0, 0) _ hp hg Tryd.underlying30 rfl infoN) hd hR
/-- What a call leaves that tells a node and an error. -/
def Dropped (w : World) (nd : Nd) (c : Int) (e : Ending) (w' : World) : Prop := ∃ kv vv, e = .returned (.tuple #[.agg #[.int .i64 nd.1, kv, vv], errV c]) ∧ Two w.heap.size w' kv vv (nd.2.map Prod.fst) (nd.2.map Prod.snd) ∧ Below w.heap.size w w'
theorem enterPairs (args : Array Value) (w : World) : (callFunc 21 args).run Tryd.prog w = .ok (.enter 21 args) w := by kernel_rfl
theorem dropS_len (l : List En) (k : Int) : (dropS l k).length ≤ l.length + l.length := by
  unfold dropS loS hiS
  rw [List.length_append]
  have h1 := List.length_filter_le (fun p : En => decide (p.1 < k)) l
  have h2 := List.length_filter_le (fun p : En => decide (k < p.1)) l
  omega
/-- The world with a node stored. -/
def stN (w : World) (b : Nat) (L : Int) (kv vv : Value) : World := ((w.setCell ⟨b, 0, none⟩ (.int .i64 L)).setCell ⟨b, 1, none⟩ kv).setCell ⟨b, 2, none⟩ vv
theorem store_node {w : World} {b : Nat} {x y z : Value} {T : TypeId} (h : w.heap[b]? = some (.cells #[x, y, z] T (0, 0))) (L : Int) (a1 : Option Addr) (n1 c1 : Nat) (a2 : Option Addr) (n2 c2 : Nat) : (Instr.storeAt 30 (.pointer (some ⟨b, 0, none⟩)) (.agg #[.int .i64 L, .slice a1 n1 c1, .slice a2 n2 c2])).run Tryd.prog w = .ok () (stN w b L (.slice a1 n1 c1) (.slice a2 n2 c2)) := by
  have d0 := row_cell h 0
  have d1 := row_cell h 1
  have d2 := row_cell h 2
  simp at d0 d1 d2
  have f0 := row_frozen h 0
  have f1 := row_frozen h 1
  have f2 := row_frozen h 2
  clear h
  unfold stN
  go_simp
theorem stN_at {w : World} {b : Nat} {x y z : Value} {T : TypeId} (h : w.heap[b]? = some (.cells #[x, y, z] T (0, 0))) (L : Int) (kv vv : Value) : (stN w b L kv vv).heap[b]? = some (.cells #[.int .i64 L, kv, vv] T (0, 0)) := set_at2 (set_at1 (set_at0 h _) _) _
theorem stN_else {w : World} {b c : Nat} {o : Obj} (h : w.heap[c]? = some o) (hne : c ≠ b) (L : Int) (kv vv : Value) : (stN w b L kv vv).heap[c]? = some o := set_else (set_else (set_else h hne _) hne _) hne _
theorem stN_below {B b : Nat} {w w' : World} (h : Below B w w') (hb : B ≤ b) (L : Int) (kv vv : Value) : Below B w (stN w' b L kv vv) := ((h.setCell hb _).setCell hb _).setCell hb _
theorem Two.stN {base b : Nat} {w : World} {kv vv : Value} {K V : List Int} (h : Two base w kv vv K V) (hb : b < base) (L : Int) (k2 v2 : Value) : Two base (stN w b L k2 v2) kv vv K V := ((h.set hb _).set hb _).set hb _
/-- What Drop's last line reads and writes. -/
structure DrW (w : World) (L : Int) (kv vv : Value) (wx : World) : Prop where
  h2 : BoxN 30 wx w.heap.size L kv vv
  h4 : ∃ x y z, wx.heap[w.heap.size + 1]? = some (.cells #[x, y, z] 30 (0, 0))
  bel : Below w.heap.size w wx
theorem DrW.c {w : World} {L : Int} {kv vv : Value} {wx : World} (h : DrW w L kv vv wx) : wx.cell? ⟨w.heap.size, 0, none⟩ = some (.int .i64 L) ∧ wx.cell? ⟨w.heap.size, 0 + 1, none⟩ = some kv ∧ wx.cell? ⟨w.heap.size, 0 + 2, none⟩ = some vv := h.h2.cells
theorem DrW.below {w : World} {L : Int} {kv vv : Value} {wx wy : World} (h : DrW w L kv vv wx) (hb : Below wx.heap.size wx wy) : DrW w L kv vv wy :=
  ⟨h.h2.below hb, h.h4.imp fun _ h => h.imp fun _ h => h.imp fun _ h => blk_below hb h, nextB h.bel hb⟩
theorem DrW.lts {w : World} {L : Int} {kv vv : Value} {wx : World} (h : DrW w L kv vv wx) : w.heap.size + 2 ≤ wx.heap.size := by
  obtain ⟨x, y, z, h4⟩ := h.h4
  have := heap_lt h4; omega
theorem DrW.belowB {w : World} {L : Int} {kv vv : Value} {wx wy : World} (h : DrW w L kv vv wx) {B : Nat} (hb : Below B wx wy) (hB : w.heap.size + 2 ≤ B) : DrW w L kv vv wy := by
  refine ⟨?_, ?_, h.bel.trans (hb.mono (by omega))⟩
  · unfold BoxN; rw [hb.block _ (by omega)]; exact h.h2
  · obtain ⟨x, y, z, h4⟩ := h.h4
    exact ⟨x, y, z, by rw [hb.block _ (by omega)]; exact h4⟩
theorem DrW.put {w : World} {L : Int} {kv vv : Value} {wx : World} (h : DrW w L kv vv wx) (M : Int) (k2 v2 : Value) : DrW w L kv vv (stN wx (w.heap.size + 1) M k2 v2) := by
  obtain ⟨x, y, z, h4⟩ := h.h4
  exact ⟨stN_else h.h2 (by omega) _ _ _, ⟨_, _, _, stN_at h4 _ _ _⟩, stN_below h.bel (by omega) _ _ _⟩

end Go.Proofs.YtcidadikmmdalaaDoor
