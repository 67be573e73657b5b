/- Slices of elements of several cells. -/
import Derived.Test.YtjofbehmhdjohaaSpn
import Derived.Laws.CopyRow
namespace Go.Proofs.Ytjofbehmhdjohaa
open Go.RowKit Go.Extern

section
variable {α : Type} {enc : α → List Value} {k : Nat}
def cellsOf (enc : α → List Value) (l : List α) : List Value := l.flatMap enc
theorem cellsOf_append (a b : List α) : cellsOf enc (a ++ b) = cellsOf enc a ++ cellsOf enc b := by simp [cellsOf]
theorem cellsOf_length (hk : ∀ a, (enc a).length = k) : ∀ l : List α, (cellsOf enc l).length = l.length * k
  | [] => by simp [cellsOf]
  | e :: l => by
    have := cellsOf_length hk l
    simp only [cellsOf, List.flatMap_cons, List.length_append, List.length_cons, hk e] at *
    rw [this, Nat.add_mul]; omega
theorem cellsOf_cons (e : α) (l : List α) : cellsOf enc (e :: l) = enc e ++ cellsOf enc l := by simp [cellsOf]
theorem cellsOf_at (hk : ∀ a, (enc a).length = k) : ∀ (l : List α) (i j : Nat) (e : α), l[i]? = some e → j < k → (cellsOf enc l)[i * k + j]? = (enc e)[j]?
  | [], i, j, e, h, _ => by simp at h
  | x :: l, 0, j, e, h, hj => by
    obtain rfl : x = e := by simpa using h
    rw [cellsOf_cons, Nat.zero_mul, Nat.zero_add, List.getElem?_append_left (by rw [hk]; exact hj)]
  | x :: l, i + 1, j, e, h, hj => by
    have := cellsOf_at hk l i j e (by simpa using h) hj
    rw [cellsOf_cons, List.getElem?_append_right (by rw [hk, Nat.add_mul]; omega), hk, ← this]
    congr 1
    rw [Nat.add_mul]; omega
theorem cellsOf_take (hk : ∀ a, (enc a).length = k) : ∀ (l : List α) (o : Nat), (cellsOf enc l).take (o * k) = cellsOf enc (l.take o)
  | [], o => by simp [cellsOf]
  | q :: l, 0 => by simp [cellsOf]
  | q :: l, o + 1 => by
    have ih := cellsOf_take hk l o
    rw [List.take_succ_cons, cellsOf_cons, cellsOf_cons, ← ih, Nat.add_mul, Nat.one_mul, Nat.add_comm, ← hk q, List.take_length_add_append]
theorem cellsOf_drop (hk : ∀ a, (enc a).length = k) : ∀ (l : List α) (o : Nat), (cellsOf enc l).drop (o * k) = cellsOf enc (l.drop o)
  | [], o => by simp [cellsOf]
  | q :: l, 0 => by simp [cellsOf]
  | q :: l, o + 1 => by
    have ih := cellsOf_drop hk l o
    rw [List.drop_succ_cons, cellsOf_cons, ← ih, Nat.add_mul, Nat.one_mul, Nat.add_comm, ← hk q, List.drop_length_add_append]
theorem cellsOf_one (h1 : ∀ a, ∀ u ∈ enc a, u.oneCell' = true) {l : List α} {u : Value} (h : u ∈ cellsOf enc l) : u.oneCell' = true := by
  simp only [cellsOf, List.mem_flatMap] at h
  obtain ⟨a, -, hu⟩ := h
  exact h1 a u hu

/-- 'v' is a slice of the elements 'l', of 'k' cells each, in a block of its own, from 'base' on. -/
def OwnK (enc : α → List Value) (k : Nat) (T : TypeId) (w : World) (base : Nat) (v : Value) (l : List α) : Prop :=
  w.ownsRow base T k v l.length (cellsOf enc l) ∧ l.length ≤ 1000
variable {T : TypeId} {w w' : World} {base : Nat} {v : Value} {l : List α}
theorem OwnK.nil (T : TypeId) (w : World) (base : Nat) : OwnK enc k T w base (.slice none 0 0) [] := ⟨World.ownsRow_nil _ _ _ _, by simp⟩
theorem OwnK.below (h : OwnK enc k T w base v l) (hb : Below w.heap.size w w') : OwnK enc k T w' base v l := ⟨ownsRow_below h.1 hb, h.2⟩
theorem OwnK.same (h : OwnK enc k T w base v l) (hk : ∀ k o, v.ownBlock = some k → w.heap[k]? = some o → w'.heap[k]? = some o) : OwnK enc k T w' base v l := ⟨ownsRow_of_block h.1 hk, h.2⟩
theorem OwnK.rebase {base' : Nat} (h : OwnK enc k T w base v l) (hb : base' ≤ base) : OwnK enc k T w base' v l := ⟨ownsRow_base h.1 hb, h.2⟩
theorem OwnK.lt (h : OwnK enc k T w base v l) : ∀ j, v.ownBlock = some j → base ≤ j ∧ j < w.heap.size := h.1.lt
theorem OwnK.form (h : OwnK enc k T w base v l) : ∃ ao n cap, v = .slice ao n cap ∧ Hid (n = l.length) := by
  obtain ⟨ao, cap, rfl⟩ := ownsRow_form h.1; exact ⟨_, _, _, rfl, rfl⟩
/-- Cells of an element. -/
theorem OwnK.cell (hk : ∀ a, (enc a).length = k) (h : OwnK enc k T w base v l) : ∃ ao cap g, v = .slice ao l.length cap ∧ l.length ≤ cap ∧ cap ≤ maxLen ∧ (ao = none → cap = 0) ∧ (∀ j, v.ownBlock = some j → j = g) ∧ (0 < l.length → ao = some ⟨g, 0, none⟩ ∧ v.ownBlock = some g) ∧ ∀ (i j : Nat) e, l[i]? = some e → j < k → w.cell? ⟨g, i * k + j, none⟩ = (enc e)[j]? := by
  have h0 := h.1
  obtain ⟨⟨h1, h2⟩, h3⟩ := h
  rcases h2 with ⟨rfl, hz⟩ | ⟨g, cap, cur, rfl, hg, hh, hc, hm, hs, ht⟩
  · have : l = [] := List.length_eq_zero_iff.1 hz
    subst this
    exact ⟨none, 0, 0, rfl, by simp, by unfold maxLen; omega, fun _ => rfl, fun j hj => by simp [Value.ownBlock] at hj, by simp, by simp⟩
  · refine ⟨_, cap, g, rfl, hc, hm, by simp, fun j hj => by simpa [Value.ownBlock] using hj.symm, fun _ => ⟨rfl, rfl⟩, fun i j e he hj => ?_⟩
    have e1 := cellsOf_at hk l i j e he hj
    obtain ⟨u, hu⟩ : ∃ u, (enc e)[j]? = some u := ⟨(enc e)[j]'(by rw [hk]; exact hj), by rw [List.getElem?_eq_getElem]⟩
    rw [hu] at e1 ⊢
    have := World.ownsRow.cells h0 (g := g) rfl _ _ e1
    rw [add_plain, Nat.zero_add] at this
    exact this
/-- Cells that are read from an address on. -/
def SrcK (w : World) (a : Addr) (cs : List Value) : Prop := ∀ j u, cs[j]? = some u → w.cell? (a.add j) = some u
theorem SrcK.below {a : Addr} {cs : List Value} (h : SrcK w a cs) (hb : Below w.heap.size w w') : SrcK w' a cs := fun j u hu => cell_bel hb (h j u hu)
theorem SrcK.nil (w : World) (a : Addr) : SrcK w a [] := fun j u h => by simp at h
/-- What an append onto elements of one's own leaves. -/
structure GrewK (enc : α → List Value) (k : Nat) (T : TypeId) (w : World) (v : Value) (base : Nat) (w' : World) (v' : Value) (l : List α) : Prop where
  own : OwnK enc k T w' base v' l
  grown : w.grownBy w' v.ownBlock
  at_ : v'.ownBlock = v.ownBlock ∨ v'.ownBlock = some w.heap.size
theorem GrewK.below {v' : Value} (h : GrewK enc k T w v base w' v' l) {B : Nat} (hB : B ≤ w.heap.size) (h0 : ∀ k, v.ownBlock = some k → B ≤ k) : Below B w w' := (Below.refl B w).grown h.grown hB h0
theorem GrewK.block {v' : Value} (h : GrewK enc k T w v base w' v' l) {j : Nat} {o : Obj} (hk : w.heap[j]? = some o) (hne : v.ownBlock ≠ some j) : w'.heap[j]? = some o := by
  rw [h.grown.block j (heap_lt hk) (fun e => hne e.symm)]; exact hk
theorem append_k {P : Program} {t ts ty : TypeId} {i0 : TypeInfo} {z : Value} {by_ : Nat} (ht : P.underlying ts = some (.slice t)) (hi : P.info? t = some i0) (hz0 : i0.zero = some z) (hz1 : i0.size = k) (hz2 : i0.bytes = by_) (hzc : z.cells.size = k) (hk0 : 0 < k) (hby : by_ ≤ 100)
    (hk : ∀ a, (enc a).length = k) (h1 : ∀ a, ∀ u ∈ enc a, u.oneCell' = true) (hown : OwnK enc k t w base v l) {m : List α} {ad : Addr} {cap : Nat} (hs : SrcK w ad (cellsOf enc m)) (hn : l.length + m.length ≤ 1000) (hbase : base ≤ w.heap.size) :
    ∃ v' w', (Builtin.append_ #[ts, ts] ty #[v, .slice (some ad) m.length cap]).run P w = .ok v' w' ∧ GrewK enc k t w v base w' v' (l ++ m) := by
  obtain ⟨v', w', hr, ho, hg, -, hat⟩ := run_append_own_at (P := P) w base ts ty t i0 z k by_ ht hi hz0 hz1 hz2 hzc hk0 v l.length _ hown.1 ad m.length cap (cellsOf enc m) (cellsOf_length hk m) hs (fun u hu => cellsOf_one h1 hu) (by unfold maxLen; omega)
    (by have : (l.length + m.length) * by_ ≤ 1000 * 100 := Nat.mul_le_mul hn hby; omega) hbase
  exact ⟨v', w', hr, ⟨⟨by rw [List.length_append, cellsOf_append]; exact ho, by simpa using hn⟩, hg, hat⟩⟩
theorem append_k_none {P : Program} {t ts ty : TypeId} {i0 : TypeInfo} (ht : P.underlying ts = some (.slice t)) (hi : P.info? t = some i0) (hown : OwnK enc k t w base v l) :
    (Builtin.append_ #[ts, ts] ty #[v, .slice none 0 0]).run P w = .ok v w ∧ GrewK enc k t w v base w v l :=
  ⟨run_append_owned_none (P := P) (w := w) base ts ty t i0 k ht hi v l.length _ hown.1, ⟨hown, grownBy_refl _ _, .inl rfl⟩⟩
theorem OwnK.empty (T : TypeId) (w : World) (base : Nat) (hb : base ≤ w.heap.size) : OwnK enc k T (w.alloc (.cells #[] T)) base (.slice (some ⟨w.heap.size, 0, none⟩) 0 0) [] :=
  ⟨by have := World.ownsRow_lit (base := base) (e := T) (size := k) w #[] 0 hb (by unfold maxLen; omega) (by simp); simpa [cellsOf] using this, by simp⟩
theorem lit_src (w : World) (T : TypeId) (cs : List Value) : SrcK (w.alloc (.cells cs.toArray T)) ⟨w.heap.size, 0, none⟩ cs := fun j u hu => by
  rw [add_plain, row_cell (heap_alloc_new w _)]; simpa using hu
end
/-- A span's cells. -/
def enS (s : S) : List Value := [.int .i64 s.vol, .int .i64 s.frm, .int .i64 s.len, .bool s.wr]
theorem enS_len (s : S) : (enS s).length = 4 := rfl
theorem enS_one (s : S) : ∀ u ∈ enS s, u.oneCell' = true := by
  intro u hu; simp only [enS, List.mem_cons, List.not_mem_nil, or_false] at hu; rcases hu with rfl | rfl | rfl | rfl <;> rfl
/-- 'v' is, in the world 'w', a slice of the spans 'l', in a block of 'Z'. -/
def Sps (w : World) (Z : Nat → Prop) (v : Value) (l : List S) : Prop :=
  ∃ ao cap g off, v = .slice ao l.length cap ∧ (0 < l.length → ao = some ⟨g, off, none⟩ ∧ Z g) ∧
    (∀ (i : Nat) s, l[i]? = some s → w.cell? ⟨g, off + i * 4, none⟩ = some (.int .i64 s.vol) ∧ w.cell? ⟨g, off + i * 4 + 1, none⟩ = some (.int .i64 s.frm) ∧ w.cell? ⟨g, off + i * 4 + 2, none⟩ = some (.int .i64 s.len) ∧ w.cell? ⟨g, off + i * 4 + 3, none⟩ = some (.bool s.wr)) ∧
    (∀ s ∈ l, sOk s) ∧ l.length ≤ 140737488355328 ∧ (ao = none → cap = 0) ∧ l.length ≤ cap ∧ cap ≤ maxLen
section
variable {w w' : World} {Z Z' : Nat → Prop} {v : Value} {l : List S}
theorem Sps.nil (w : World) (Z : Nat → Prop) : Sps w Z (.slice none 0 0) [] := ⟨none, 0, 0, 0, rfl, by simp, by simp, by simp, by simp, by simp, by simp, by simp⟩
theorem Sps.mono (h : Sps w Z v l) (hz : ∀ k, k < w.heap.size → Z k → Z' k) : Sps w Z' v l := by
  obtain ⟨ao, cap, g, off, h1, h2, h3, h4⟩ := h
  refine ⟨ao, cap, g, off, h1, fun hp => ⟨(h2 hp).1, ?_⟩, h3, h4⟩
  obtain ⟨s, hs⟩ : ∃ s, l[0]? = some s := ⟨l[0], by rw [List.getElem?_eq_getElem hp]⟩
  exact hz g (cell_lt (h3 0 s hs).1) (h2 hp).2
theorem Sps.keep (h : Sps w Z v l) (hk : ∀ k, k < w.heap.size → Z k → w'.heap[k]? = w.heap[k]?) : Sps w' Z v l := by
  obtain ⟨ao, cap, g, off, h1, h2, h3, h4⟩ := h
  refine ⟨ao, cap, g, off, h1, h2, fun i s hs => ?_, h4⟩
  have hp : 0 < l.length := by have := (List.getElem?_eq_some_iff.1 hs).1; omega
  obtain ⟨c0, c1, c2, c3⟩ := h3 i s hs
  have e := hk g (cell_lt c0) (h2 hp).2
  exact ⟨by rw [World.cell?_of_block e]; exact c0, by rw [World.cell?_of_block e]; exact c1, by rw [World.cell?_of_block e]; exact c2, by rw [World.cell?_of_block e]; exact c3⟩
theorem Sps.below (h : Sps w Z v l) (hb : Below w.heap.size w w') : Sps w' Z v l := h.keep fun k hk _ => hb.block k hk
theorem Sps.ok (h : Sps w Z v l) : ∀ s ∈ l, sOk s := by obtain ⟨ao, cap, g, off, h1, h2, h3, h4, -⟩ := h; exact h4
theorem Sps.len (h : Sps w Z v l) : l.length ≤ 140737488355328 := by obtain ⟨ao, cap, g, off, h1, h2, h3, h4, h5, -⟩ := h; exact h5
theorem Sps.form (h : Sps w Z v l) : ∃ ao n cap, v = .slice ao n cap ∧ Hid (n = l.length) := by
  obtain ⟨ao, cap, g, off, rfl, -⟩ := h; exact ⟨_, _, _, rfl, rfl⟩
theorem Sps.src (h : Sps w Z v l) : (∃ ad cap, v = .slice (some ad) l.length cap ∧ SrcK w ad (cellsOf enS l)) ∨ (v = .slice none 0 0 ∧ l = []) := by
  obtain ⟨ao, cap, g, off, rfl, h2, h3, h4, h5, h6, h7⟩ := h
  cases ao with
  | none =>
    right
    have hy : l = [] := by
      rcases Nat.eq_zero_or_pos l.length with h | h
      · exact List.length_eq_zero_iff.1 h
      · cases (h2 h).1
    subst hy
    obtain rfl := h6 rfl
    exact ⟨rfl, rfl⟩
  | some ad =>
    left
    refine ⟨ad, cap, rfl, fun j u hu => ?_⟩
    have hj : j < l.length * 4 := by have := (List.getElem?_eq_some_iff.1 hu).1; rwa [cellsOf_length enS_len] at this
    have ead := Option.some.inj (h2 (by omega)).1
    subst ead
    obtain ⟨s, hs⟩ : ∃ s, l[j / 4]? = some s := ⟨l[j / 4]'(by omega), by rw [List.getElem?_eq_getElem]⟩
    have e1 := cellsOf_at enS_len l (j / 4) (j % 4) s hs (by omega)
    rw [show j / 4 * 4 + j % 4 = j by omega, hu] at e1
    obtain ⟨c0, c1, c2, c3⟩ := h3 _ s hs
    rw [add_plain]
    have hm : j % 4 = 0 ∨ j % 4 = 1 ∨ j % 4 = 2 ∨ j % 4 = 3 := by omega
    rcases hm with hm | hm | hm | hm <;> rw [hm] at e1 <;> simp only [enS, List.getElem?_cons_zero, List.getElem?_cons_succ] at e1 <;> rw [e1]
    · rw [show off + j = off + j / 4 * 4 by omega]; exact c0
    · rw [show off + j = off + j / 4 * 4 + 1 by omega]; exact c1
    · rw [show off + j = off + j / 4 * 4 + 2 by omega]; exact c2
    · rw [show off + j = off + j / 4 * 4 + 3 by omega]; exact c3
theorem OwnK.sps {T : TypeId} {base : Nat} (h : OwnK enS 4 T w base v l) (hok : ∀ s ∈ l, sOk s) : Sps w (fun k => v.ownBlock = some k) v l := by
  have h2 := h.2
  obtain ⟨ao, cap, g, hv, hc, hm, hn, -, hp, hx⟩ := h.cell enS_len
  refine ⟨ao, cap, g, 0, hv, hp, fun i s hs => ?_, hok, by omega, hn, hc, hm⟩
  rw [Nat.zero_add]
  exact ⟨hx i 0 s hs (by omega), hx i 1 s hs (by omega), hx i 2 s hs (by omega), hx i 3 s hs (by omega)⟩
end
end Go.Proofs.Ytjofbehmhdjohaa
