/- Slices of elements of several cells. -/
import Derived.Test.YtnkcebngfnailaaSl
import Derived.Test.YtnkcebngfnailaaTk
import Derived.Lib.SliceRun
namespace Go.Proofs.Ytnkcebngfnailaa
open Go.RowKit Go.Extern

theorem nextB {w w1 w2 : World} (h : Below w.heap.size w w1) (h2 : Below w1.heap.size w1 w2) : Below w.heap.size w w2 := h.trans (h2.mono h.size)
theorem bel_alloc (w : World) (o : Obj) : Below w.heap.size w (w.alloc o) := (Below.refl _ _).alloc (Nat.le_refl _) _
theorem cell_bel {w w' : World} {a : Addr} {v : Value} (hb : Below w.heap.size w w') (h : w.cell? a = some v) : w'.cell? a = some v := by rw [hb.cell (cell_lt h)]; exact h
theorem row_cell {w : World} {g : Nat} {cs : Array Value} {T : TypeId} (h : w.heap[g]? = some (.cells cs T (0, 0))) (i : Nat) : w.cell? ⟨g, i, none⟩ = cs[i]? := cell_of_row _ _ _ _ _ _ h
theorem blk_below {w w' : World} (hb : Below w.heap.size w w') {k : Nat} {o : Obj} (h : w.heap[k]? = some o) : w'.heap[k]? = some o := by rw [hb.block k (heap_lt h)]; exact h
section
variable {α : Type} {enc : α → List Value} {k : Nat}
def cellsOf (enc : α → List Value) (l : List α) : List Value := l.flatMap enc
theorem cellsOf_append (a b : List α) : cellsOf enc (a ++ b) = cellsOf enc a ++ cellsOf enc b := by simp [cellsOf]
theorem cellsOf_length (hk : ∀ a, (enc a).length = k) : ∀ l : List α, (cellsOf enc l).length = l.length * k
  | [] => by simp [cellsOf]
  | e :: l => by
    have := cellsOf_length hk l
    simp only [cellsOf, List.flatMap_cons, List.length_append, List.length_cons, hk e] at *
    rw [this, Nat.add_mul]; omega
theorem cellsOf_cons (e : α) (l : List α) : cellsOf enc (e :: l) = enc e ++ cellsOf enc l := by simp [cellsOf]
theorem cellsOf_at (hk : ∀ a, (enc a).length = k) : ∀ (l : List α) (i j : Nat) (e : α), l[i]? = some e → j < k → (cellsOf enc l)[i * k + j]? = (enc e)[j]?
  | [], i, j, e, h, _ => by simp at h
  | x :: l, 0, j, e, h, hj => by
    obtain rfl : x = e := by simpa using h
    rw [cellsOf_cons, Nat.zero_mul, Nat.zero_add, List.getElem?_append_left (by rw [hk]; exact hj)]
  | x :: l, i + 1, j, e, h, hj => by
    have := cellsOf_at hk l i j e (by simpa using h) hj
    rw [cellsOf_cons, List.getElem?_append_right (by rw [hk, Nat.add_mul]; omega), hk, ← this]
    congr 1
    rw [Nat.add_mul]; omega
theorem cellsOf_take (hk : ∀ a, (enc a).length = k) : ∀ (l : List α) (o : Nat), (cellsOf enc l).take (o * k) = cellsOf enc (l.take o)
  | [], o => by simp [cellsOf]
  | q :: l, 0 => by simp [cellsOf]
  | q :: l, o + 1 => by
    have ih := cellsOf_take hk l o
    rw [List.take_succ_cons, cellsOf_cons, cellsOf_cons, ← ih, Nat.add_mul, Nat.one_mul, Nat.add_comm, ← hk q, List.take_length_add_append]
theorem cellsOf_drop (hk : ∀ a, (enc a).length = k) : ∀ (l : List α) (o : Nat), (cellsOf enc l).drop (o * k) = cellsOf enc (l.drop o)
  | [], o => by simp [cellsOf]
  | q :: l, 0 => by simp [cellsOf]
  | q :: l, o + 1 => by
    have ih := cellsOf_drop hk l o
    rw [List.drop_succ_cons, cellsOf_cons, ← ih, Nat.add_mul, Nat.one_mul, Nat.add_comm, ← hk q, List.drop_length_add_append]
theorem cellsOf_one (h1 : ∀ a, ∀ u ∈ enc a, u.oneCell' = true) {l : List α} {u : Value} (h : u ∈ cellsOf enc l) : u.oneCell' = true := by
  simp only [cellsOf, List.mem_flatMap] at h
  obtain ⟨a, -, hu⟩ := h
  exact h1 a u hu

/-- 'v' is a slice of the elements 'l', of 'k' cells each, in a block of its own, from 'base' on. -/
def OwnK (enc : α → List Value) (k : Nat) (T : TypeId) (w : World) (base : Nat) (v : Value) (l : List α) : Prop :=
  w.ownsRow base T k v l.length (cellsOf enc l) ∧ l.length ≤ 1000
variable {T : TypeId} {w w' : World} {base : Nat} {v : Value} {l : List α}
theorem OwnK.nil (T : TypeId) (w : World) (base : Nat) : OwnK enc k T w base (.slice none 0 0) [] := ⟨World.ownsRow_nil _ _ _ _, by simp⟩
theorem OwnK.below (h : OwnK enc k T w base v l) (hb : Below w.heap.size w w') : OwnK enc k T w' base v l := ⟨ownsRow_below h.1 hb, h.2⟩
theorem OwnK.same (h : OwnK enc k T w base v l) (hk : ∀ k o, v.ownBlock = some k → w.heap[k]? = some o → w'.heap[k]? = some o) : OwnK enc k T w' base v l := ⟨ownsRow_of_block h.1 hk, h.2⟩
theorem OwnK.rebase {base' : Nat} (h : OwnK enc k T w base v l) (hb : base' ≤ base) : OwnK enc k T w base' v l := ⟨ownsRow_base h.1 hb, h.2⟩
theorem OwnK.lt (h : OwnK enc k T w base v l) : ∀ j, v.ownBlock = some j → base ≤ j ∧ j < w.heap.size := h.1.lt
theorem OwnK.form (h : OwnK enc k T w base v l) : ∃ ao n cap, v = .slice ao n cap ∧ Hid (n = l.length) := by
  obtain ⟨ao, cap, rfl⟩ := ownsRow_form h.1; exact ⟨_, _, _, rfl, rfl⟩
/-- Cells of an element. -/
theorem OwnK.cell (hk : ∀ a, (enc a).length = k) (h : OwnK enc k T w base v l) : ∃ ao cap g, v = .slice ao l.length cap ∧ l.length ≤ cap ∧ cap ≤ maxLen ∧ (ao = none → cap = 0) ∧ (∀ j, v.ownBlock = some j → j = g) ∧ (0 < l.length → ao = some ⟨g, 0, none⟩ ∧ v.ownBlock = some g) ∧ ∀ (i j : Nat) e, l[i]? = some e → j < k → w.cell? ⟨g, i * k + j, none⟩ = (enc e)[j]? := by
  have h0 := h.1
  obtain ⟨⟨h1, h2⟩, h3⟩ := h
  rcases h2 with ⟨rfl, hz⟩ | ⟨g, cap, cur, rfl, hg, hh, hc, hm, hs, ht⟩
  · have : l = [] := List.length_eq_zero_iff.1 hz
    subst this
    exact ⟨none, 0, 0, rfl, by simp, by unfold maxLen; omega, fun _ => rfl, fun j hj => by simp [Value.ownBlock] at hj, by simp, by simp⟩
  · refine ⟨_, cap, g, rfl, hc, hm, by simp, fun j hj => by simpa [Value.ownBlock] using hj.symm, fun _ => ⟨rfl, rfl⟩, fun i j e he hj => ?_⟩
    have e1 := cellsOf_at hk l i j e he hj
    obtain ⟨u, hu⟩ : ∃ u, (enc e)[j]? = some u := ⟨(enc e)[j]'(by rw [hk]; exact hj), by rw [List.getElem?_eq_getElem]⟩
    rw [hu] at e1 ⊢
    have := World.ownsRow.cells h0 (g := g) rfl _ _ e1
    rw [add_plain, Nat.zero_add] at this
    exact this
/-- Cells that are read from an address on. -/
def SrcK (w : World) (a : Addr) (cs : List Value) : Prop := ∀ j u, cs[j]? = some u → w.cell? (a.add j) = some u
theorem SrcK.below {a : Addr} {cs : List Value} (h : SrcK w a cs) (hb : Below w.heap.size w w') : SrcK w' a cs := fun j u hu => cell_bel hb (h j u hu)
theorem SrcK.nil (w : World) (a : Addr) : SrcK w a [] := fun j u h => by simp at h
/-- What an append onto elements of one's own leaves. -/
structure GrewK (enc : α → List Value) (k : Nat) (T : TypeId) (w : World) (v : Value) (base : Nat) (w' : World) (v' : Value) (l : List α) : Prop where
  own : OwnK enc k T w' base v' l
  grown : w.grownBy w' v.ownBlock
  at_ : v'.ownBlock = v.ownBlock ∨ v'.ownBlock = some w.heap.size
theorem GrewK.below {v' : Value} (h : GrewK enc k T w v base w' v' l) {B : Nat} (hB : B ≤ w.heap.size) (h0 : ∀ k, v.ownBlock = some k → B ≤ k) : Below B w w' := (Below.refl B w).grown h.grown hB h0
theorem GrewK.block {v' : Value} (h : GrewK enc k T w v base w' v' l) {j : Nat} {o : Obj} (hk : w.heap[j]? = some o) (hne : v.ownBlock ≠ some j) : w'.heap[j]? = some o := by
  rw [h.grown.block j (heap_lt hk) (fun e => hne e.symm)]; exact hk
theorem append_k {P : Program} {t ts ty : TypeId} {i0 : TypeInfo} {z : Value} {by_ : Nat} (ht : P.underlying ts = some (.slice t)) (hi : P.info? t = some i0) (hz0 : i0.zero = some z) (hz1 : i0.size = k) (hz2 : i0.bytes = by_) (hzc : z.cells.size = k) (hk0 : 0 < k) (hby : by_ ≤ 100)
    (hk : ∀ a, (enc a).length = k) (h1 : ∀ a, ∀ u ∈ enc a, u.oneCell' = true) (hown : OwnK enc k t w base v l) {m : List α} {ad : Addr} {cap : Nat} (hs : SrcK w ad (cellsOf enc m)) (hn : l.length + m.length ≤ 1000) (hbase : base ≤ w.heap.size) :
    ∃ v' w', (Builtin.append_ #[ts, ts] ty #[v, .slice (some ad) m.length cap]).run P w = .ok v' w' ∧ GrewK enc k t w v base w' v' (l ++ m) := by
  obtain ⟨v', w', hr, ho, hg, -, hat⟩ := run_append_own_at (P := P) w base ts ty t i0 z k by_ ht hi hz0 hz1 hz2 hzc hk0 v l.length _ hown.1 ad m.length cap (cellsOf enc m) (cellsOf_length hk m) hs (fun u hu => cellsOf_one h1 hu) (by unfold maxLen; omega)
    (by have : (l.length + m.length) * by_ ≤ 1000 * 100 := Nat.mul_le_mul hn hby; omega) hbase
  exact ⟨v', w', hr, ⟨⟨by rw [List.length_append, cellsOf_append]; exact ho, by simpa using hn⟩, hg, hat⟩⟩
theorem append_k_none {P : Program} {t ts ty : TypeId} {i0 : TypeInfo} (ht : P.underlying ts = some (.slice t)) (hi : P.info? t = some i0) (hown : OwnK enc k t w base v l) :
    (Builtin.append_ #[ts, ts] ty #[v, .slice none 0 0]).run P w = .ok v w ∧ GrewK enc k t w v base w v l :=
  ⟨run_append_owned_none (P := P) (w := w) base ts ty t i0 k ht hi v l.length _ hown.1, ⟨hown, grownBy_refl _ _, .inl rfl⟩⟩
theorem OwnK.empty (T : TypeId) (w : World) (base : Nat) (hb : base ≤ w.heap.size) : OwnK enc k T (w.alloc (.cells #[] T)) base (.slice (some ⟨w.heap.size, 0, none⟩) 0 0) [] :=
  ⟨by have := World.ownsRow_lit (base := base) (e := T) (size := k) w #[] 0 hb (by unfold maxLen; omega) (by simp); simpa [cellsOf] using this, by simp⟩
theorem lit_src (w : World) (T : TypeId) (cs : List Value) : SrcK (w.alloc (.cells cs.toArray T)) ⟨w.heap.size, 0, none⟩ cs := fun j u hu => by
  rw [add_plain, row_cell (heap_alloc_new w _)]; simpa using hu
end
theorem wpList_append_eq {P : Program} {w w' : World} {ops : Array Oper} {rest : List Oper} {o : Oper} {a : Act} {Q : Exit → Act → World → Prop} {v sv xv : Value} {t : TypeId} (hg : o.guard = none) (s x : Operand)
    (hop : o.op = Op.call { callee := Callee.builtin Builtin.append, args := #[s, x], argTypes := #[t, t] }) (hs : a.eval s = sv) (hx : a.eval x = xv) (hrun : (Builtin.append_ #[t, t] o.type #[sv, xv]).run P w = .ok v w')
    (hK : wpList P ops Q rest (a.put o.dst v) w') : wpList P ops Q (o :: rest) a w := by
  refine wpList_plain hg fun K hK' => ?_
  unfold Oper.wp
  simp [execOp, hop, resolve, invoke, builtin, hs, hx, hrun, Result.andThen]
  exact hK' _ _ hK
end Go.Proofs.Ytnkcebngfnailaa
