/- Numbers in slices; two slices of one's own. -/
import Derived.Test.YtcidadikmmdalaaDoorSp
import Derived.Laws.OwnMore
import Derived.Laws.Rows
namespace Go.Proofs.YtcidadikmmdalaaDoor
open Go.RowKit Go.Extern

def encI (k : Int) : Value := .int .i64 k
/-- The value 'v' is, in the world 'w', a slice of the numbers 'l'. -/
def Ints (w : World) (v : Value) (l : List Int) : Prop := Row w v (l.map encI) ∧ ∀ k ∈ l, I64 k
theorem Ints.below {w w' : World} (hb : Below w.heap.size w w') {v : Value} {l : List Int} (h : Ints w v l) : Ints w' v l := ⟨h.1.below hb, h.2⟩
theorem Ints.nil (w : World) : Ints w (.slice none 0 0) [] := ⟨Row.nil w, by simp⟩
theorem Ints.len {w : World} {v : Value} {l : List Int} (h : Ints w v l) : l.length ≤ 140737488355328 := by simpa using h.1.len
theorem Ints.form {w : World} {v : Value} {l : List Int} (h : Ints w v l) : ∃ ao n cap, v = .slice ao n cap ∧ Hid (n = l.length) := by
  obtain ⟨ao, cap, rfl⟩ := h.1.form; exact ⟨_, _, _, rfl, by show _ = _; simp⟩
theorem Ints.at_ {w : World} {v : Value} {l : List Int} (h : Ints w v l) : ∃ ao cap g off, v = .slice ao l.length cap ∧ (0 < l.length → ao = some ⟨g, off, none⟩) ∧ (∀ (i : Nat) k, l[i]? = some k → w.cell? ⟨g, off + i, none⟩ = some (.int .i64 k)) := by
  obtain ⟨ao, cap, g, off, rfl, h2, h3, -⟩ := h.1
  refine ⟨ao, cap, g, off, by simp, by simpa using h2, fun i k hk => h3 i _ ?_⟩
  rw [List.getElem?_map, hk]; rfl
/-- 'v' is a slice of the numbers 'l' in a block of its own, from 'base' on. -/
def OwnI (w : World) (base : Nat) (v : Value) (l : List Int) : Prop := w.ownsRow base 3 1 v l.length (l.map encI) ∧ (∀ k ∈ l, I64 k) ∧ l.length ≤ 10000
theorem OwnI.ints {w : World} {base : Nat} {v : Value} {l : List Int} (h : OwnI w base v l) : Ints w v l :=
  ⟨ownsRow_row (by simpa using h.1) (by have := h.2.2; simp; omega), h.2.1⟩
theorem OwnI.below {w w' : World} {base : Nat} {v : Value} {l : List Int} (h : OwnI w base v l) (hb : Below w.heap.size w w') : OwnI w' base v l := ⟨ownsRow_below h.1 hb, h.2⟩
theorem OwnI.base {w : World} {base base' : Nat} {v : Value} {l : List Int} (h : OwnI w base v l) (hb : base' ≤ base) : OwnI w base' v l := ⟨ownsRow_base h.1 hb, h.2⟩
theorem OwnI.nil (w : World) (base : Nat) : OwnI w base (.slice none 0 0) [] := ⟨World.ownsRow_nil _ _ _ _, by simp, by simp⟩
theorem OwnI.lt {w : World} {base : Nat} {v : Value} {l : List Int} (h : OwnI w base v l) : ∀ k, v.ownBlock = some k → base ≤ k ∧ k < w.heap.size := h.1.lt
theorem OwnI.form {w : World} {base : Nat} {v : Value} {l : List Int} (h : OwnI w base v l) : ∃ ao n cap, v = .slice ao n cap ∧ Hid (n = l.length) := h.ints.form
theorem OwnI.same {w w' : World} {base : Nat} {v : Value} {l : List Int} (h : OwnI w base v l) (hk : ∀ k o, v.ownBlock = some k → w.heap[k]? = some o → w'.heap[k]? = some o) : OwnI w' base v l := ⟨ownsRow_of_block h.1 hk, h.2⟩
theorem OwnI.empty (w : World) (base : Nat) (hb : base ≤ w.heap.size) : OwnI (w.alloc (.cells #[] 3)) base (.slice (some ⟨w.heap.size, 0, none⟩) 0 0) [] :=
  ⟨by have := lit_row w base 3 [] hb (by simp); simpa using this, by simp, by simp⟩
theorem ints_lit (w : World) (k : Int) (hk : I64 k) : Ints (w.alloc (.cells #[.int .i64 k] 3)) (.slice (some ⟨w.heap.size, 0, none⟩) 1 1) [k] :=
  ⟨ownsRow_row (base := w.heap.size) (by have := lit_row w w.heap.size 3 [.int .i64 k] (Nat.le_refl _) (by simp); simpa [encI] using this) (by simp), by simpa using hk⟩
theorem infoI : (Tryd.prog.info? 3).map (fun i => (i.zero, i.size, i.bytes)) = some (some (.int .i64 0), 1, 8) := by kernel_rfl
theorem encI_one {l : List Int} : ∀ u ∈ l.map encI, u.oneCell' = true := by
  intro u hu; obtain ⟨k, -, rfl⟩ := List.mem_map.1 hu; rfl
/-- What an append onto numbers of one's own leaves. -/
structure GrewI (w : World) (v : Value) (base : Nat) (w' : World) (v' : Value) (l : List Int) : Prop where
  own : OwnI w' base v' l
  grown : w.grownBy w' v.ownBlock
  at_ : v'.ownBlock = v.ownBlock ∨ v'.ownBlock = some w.heap.size
theorem append_i (w : World) (ty : TypeId) (base : Nat) (v x : Value) (l m : List Int) (hown : OwnI w base v l) (hb : Ints w x m) (hn : l.length + m.length ≤ 10000) (hbase : base ≤ w.heap.size) :
    ∃ v' w', (Builtin.append_ #[22, 22] ty #[v, x]).run Tryd.prog w = .ok v' w' ∧ GrewI w v base w' v' (l ++ m) := by
  obtain ⟨i0, hi, hi2⟩ := Option.map_eq_some_iff.1 infoI
  simp only [Prod.mk.injEq] at hi2
  obtain ⟨v', w', hr, hg⟩ := append_row (ty := ty) Tryd.underlying22 hi hi2.1 hi2.2.1 hi2.2.2 rfl (by omega) w base v x (l.map encI) (m.map encI) (by simpa using hown.1) hb.1 encI_one (by simp; omega) hbase
  refine ⟨v', w', hr, ⟨⟨?_, ?_, by simpa using hn⟩, hg.grown, hg.at_⟩⟩
  · have := hg.own; rw [← List.map_append] at this; simpa using this
  · intro k hk
    rcases List.mem_append.1 hk with h | h
    · exact hown.2.1 k h
    · exact hb.2 k h
theorem GrewI.below {w : World} {v : Value} {base : Nat} {w' : World} {v' : Value} {l : List Int} (h : GrewI w v base w' v' l) {B : Nat} (hB : B ≤ w.heap.size) (h0 : ∀ k, v.ownBlock = some k → B ≤ k) : Below B w w' := (Below.refl B w).grown h.grown hB h0
theorem GrewI.block {w : World} {v : Value} {base : Nat} {w' : World} {v' : Value} {l : List Int} (h : GrewI w v base w' v' l) {k : Nat} {o : Obj} (hk : w.heap[k]? = some o) (hne : v.ownBlock ≠ some k) : w'.heap[k]? = some o := by
  rw [h.grown.block k (heap_lt hk) (fun e => hne e.symm)]; exact hk

/-- Two slices of one's own, apart from one another. -/
structure Two (base : Nat) (w : World) (kv vv : Value) (K V : List Int) : Prop where
  hk : OwnI w base kv K
  hv : OwnI w base vv V
  ne : ∀ k, kv.ownBlock = some k → vv.ownBlock ≠ some k
theorem Two.swap {base : Nat} {w : World} {kv vv : Value} {K V : List Int} (h : Two base w kv vv K V) : Two base w vv kv V K := ⟨h.hv, h.hk, fun k e1 e2 => h.ne k e2 e1⟩
theorem Two.nil (base : Nat) (w : World) : Two base w (.slice none 0 0) (.slice none 0 0) [] [] := ⟨OwnI.nil _ _, OwnI.nil _ _, fun k e => by simp [Value.ownBlock] at e⟩
theorem Two.below {base : Nat} {w w' : World} {kv vv : Value} {K V : List Int} (h : Two base w kv vv K V) (hb : Below w.heap.size w w') : Two base w' kv vv K V := ⟨h.hk.below hb, h.hv.below hb, h.ne⟩
theorem Two.same {base : Nat} {w w' : World} {kv vv : Value} {K V : List Int} (h : Two base w kv vv K V) (hs : ∀ k o, base ≤ k → w.heap[k]? = some o → w'.heap[k]? = some o) : Two base w' kv vv K V :=
  ⟨h.hk.same fun k o e ho => hs k o (h.hk.lt k e).1 ho, h.hv.same fun k o e ho => hs k o (h.hv.lt k e).1 ho, h.ne⟩
theorem Two.set {base b i : Nat} {w : World} {kv vv : Value} {K V : List Int} (h : Two base w kv vv K V) (hb : b < base) (u : Value) : Two base (w.setCell ⟨b, i, none⟩ u) kv vv K V :=
  h.same fun k o hk ho => by rw [Below.heap_setCell _ _ _ _ (by show k ≠ b; omega)]; exact ho
/-- What an append onto the first one leaves. -/
structure Two1 (base : Nat) (w : World) (kv vv : Value) (w' : World) (kv' : Value) (K V : List Int) : Prop where
  two : Two base w' kv' vv K V
  blk : ∀ k o, w.heap[k]? = some o → kv.ownBlock ≠ some k → w'.heap[k]? = some o
  bel : Below base w w'
theorem Two.append {base : Nat} {w : World} {kv vv : Value} {K V : List Int} (h : Two base w kv vv K V) (hbase : base ≤ w.heap.size) (ty : TypeId) {x : Value} {M : List Int} (hx : Ints w x M) (hn : K.length + M.length ≤ 10000) :
    ∃ kv' w', (Builtin.append_ #[22, 22] ty #[kv, x]).run Tryd.prog w = .ok kv' w' ∧ Two1 base w kv vv w' kv' (K ++ M) V := by
  obtain ⟨v', w', hr, hg⟩ := append_i w ty base kv x K M h.hk hx hn hbase
  refine ⟨v', w', hr, ⟨⟨hg.own, h.hv.same fun k o e ho => hg.block ho (fun e2 => h.ne k e2 e), fun k e1 e2 => ?_⟩, fun k o ho hne => hg.block ho hne, hg.below hbase fun k e => (h.hk.lt k e).1⟩⟩
  have := (h.hv.lt k e2).2
  rcases hg.at_ with e | e
  · exact h.ne k (by rw [← e]; exact e1) e2
  · rw [e] at e1; cases e1; omega
theorem Two.ints {base : Nat} {w : World} {kv vv : Value} {K V : List Int} (h : Two base w kv vv K V) : Ints w kv K ∧ Ints w vv V := ⟨h.hk.ints, h.hv.ints⟩

theorem wpList_append_eq {P : Program} {w w' : World} {ops : Array Oper} {rest : List Oper} {o : Oper} {a : Act} {Q : Exit → Act → World → Prop} {v sv xv : Value} {t : TypeId} (hg : o.guard = none) (s x : Operand)
    (hop : o.op = Op.call { callee := Callee.builtin Builtin.append, args := #[s, x], argTypes := #[t, t] }) (hs : a.eval s = sv) (hx : a.eval x = xv) (hrun : (Builtin.append_ #[t, t] o.type #[sv, xv]).run P w = .ok v w')
    (hK : wpList P ops Q rest (a.put o.dst v) w') : wpList P ops Q (o :: rest) a w := by
  refine wpList_plain hg fun K hK' => ?_
  unfold Oper.wp
  simp [execOp, hop, resolve, invoke, builtin, hs, hx, hrun, Result.andThen]
  exact hK' _ _ hK
/-- One block behind a call that leaves what was there. -/
theorem blk_below {w w' : World} (hb : Below w.heap.size w w') {k : Nat} {o : Obj} (h : w.heap[k]? = some o) : w'.heap[k]? = some o := by rw [hb.block k (heap_lt h)]; exact h
theorem bel_alloc (w : World) (o : Obj) : Below w.heap.size w (w.alloc o) := (Below.refl _ _).alloc (Nat.le_refl _) _
theorem nextB {w w1 w2 : World} (h : Below w.heap.size w w1) (h2 : Below w1.heap.size w1 w2) : Below w.heap.size w w2 := h.trans (h2.mono h.size)
theorem row_cell {w : World} {g : Nat} {cs : Array Value} {T : TypeId} (h : w.heap[g]? = some (.cells cs T (0, 0))) (i : Nat) : w.cell? ⟨g, i, none⟩ = cs[i]? := cell_of_row _ _ _ _ _ _ h
theorem row_frozen {w : World} {g : Nat} {cs : Array Value} {T : TypeId} (h : w.heap[g]? = some (.cells cs T (0, 0))) (i : Nat) : w.frozen? ⟨g, i, none⟩ = false := by simp [World.frozen?, h]
theorem heap_new2 (w : World) (o p : Obj) : ((w.alloc o).alloc p).heap[w.heap.size]? = some o := by
  rw [(bel_alloc (w.alloc o) p).block w.heap.size (by simp)]; exact heap_alloc_new w o
end Go.Proofs.YtcidadikmmdalaaDoor
