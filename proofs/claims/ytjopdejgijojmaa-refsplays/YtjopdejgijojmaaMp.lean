/- Maps in memory, by their pairs in whatever order. -/
import Derived.Test.YtjopdejgijojmaaSl
import Derived.Maps.Range
import Derived.RangeFuncSeq
namespace Go.Proofs.Ytjopdejgijojmaa
open Go.RowKit Go.Extern Go.MapKept Go.ChangeMaps
open Go.Maps (Keyed)

/-- Keys of a type: how they lie in memory, and which of them are meant. -/
structure KeyE (P : Program) (k : TypeId) {α : Type} (ek : α → Value) (G : α → Prop) : Prop where
  law : Keyed P k
  ok : ∀ {a}, G a → ∃ kl, keyOf P k (ek a) = some kl
  inj : ∀ {a b}, ek a = ek b → a = b

/-- An entry's pair. -/
def me (e : MapEntry) : Value × Value := (e.key, e.val)

theorem perm_set {α : Type} {x : α} : ∀ {l : List α} {j : Nat} {a : α}, l[j]? = some a → (l.set j x).Perm (x :: l.eraseIdx j)
  | [], j, a, h => by simp at h
  | y :: r, 0, a, _ => by simp
  | y :: r, j + 1, a, h => by
    simp only [List.set_cons_succ, List.eraseIdx_cons_succ]
    exact ((perm_set (l := r) (j := j) (a := a) (by simpa using h)).cons y).trans (List.Perm.swap x y _)
theorem perm_erase {α : Type} : ∀ {l : List α} {j : Nat} {a : α}, l[j]? = some a → l.Perm (a :: l.eraseIdx j)
  | [], j, a, h => by simp at h
  | y :: r, 0, a, h => by simp at h; subst h; simp
  | y :: r, j + 1, a, h => by
    simp only [List.eraseIdx_cons_succ]
    exact ((perm_erase (l := r) (j := j) (a := a) (by simpa using h)).cons y).trans (List.Perm.swap a y _)

section
variable {α β : Type} [DecidableEq α]
theorem filter_out {a : α} {l : List (α × β)} (h : ∀ p ∈ l, p.1 ≠ a) : l.filter (fun p => decide (p.1 ≠ a)) = l := List.filter_eq_self.2 (fun p hp => by simpa using h p hp)
theorem perm_key {a : α} {c : β} : ∀ {l : List (α × β)}, (l.map Prod.fst).Nodup → (a, c) ∈ l → l.Perm ((a, c) :: l.filter (fun p => decide (p.1 ≠ a)))
  | [], _, h => by simp at h
  | q :: r, hn, h => by
    simp only [List.map_cons, List.nodup_cons] at hn
    rcases List.mem_cons.1 h with rfl | h
    · rw [List.filter_cons_of_neg (by simp), filter_out (fun p hp e => hn.1 (List.mem_map.2 ⟨p, hp, e⟩))]
    · have hne : q.1 ≠ a := fun e => hn.1 (by rw [e]; exact List.mem_map.2 ⟨_, h, rfl⟩)
      rw [List.filter_cons_of_pos (by simpa using hne)]
      exact ((perm_key hn.2 h).cons q).trans (List.Perm.swap _ _ _)
end

/-- All blocks but one are as they were. -/
def Keep (m : Nat) (w wx : World) : Prop := ∀ k, k ≠ m → wx.heap[k]? = w.heap[k]?
theorem Keep.refl (m : Nat) (w : World) : Keep m w w := fun _ _ => rfl
theorem Keep.drew (m : Nat) (w : World) : Keep m w w.drew := fun _ _ => rfl
theorem Keep.cell {m : Nat} {w wx : World} (h : Keep m w wx) {b i : Nat} {v : Value} (hne : b ≠ m) (hc : w.cell? ⟨b, i, none⟩ = some v) : wx.cell? ⟨b, i, none⟩ = some v := by
  unfold World.cell? at hc ⊢
  rw [h b hne]; exact hc
section
variable {P : Program} {k : TypeId} {α β : Type} {ek : α → Value} {G : α → Prop} {ev : β → Value}

/-- The block 'b' is a map of the entries 'es', which are the pairs 'l'. -/
structure MapAt (ek : α → Value) (G : α → Prop) (ev : β → Value) (w : World) (b : Nat) (l : List (α × β)) (es : Array MapEntry) (clock : Nat) : Prop where
  blk : w.heap[b]? = some (.map es clock)
  st : Stamped es clock
  pairs : (es.toList.map me).Perm (l.map fun p => (ek p.1, ev p.2))
  good : ∀ p ∈ l, G p.1
def MapIs (ek : α → Value) (G : α → Prop) (ev : β → Value) (w : World) (b : Nat) (l : List (α × β)) : Prop := ∃ es clock, MapAt ek G ev w b l es clock

variable {w : World} {b : Nat} {l : List (α × β)} {es : Array MapEntry} {clock : Nat}

theorem MapAt.mem (h : MapAt ek G ev w b l es clock) {e : MapEntry} (he : e ∈ es.toList) : ∃ p ∈ l, e.key = ek p.1 ∧ e.val = ev p.2 := by
  have h1 := h.pairs.mem_iff.1 (List.mem_map.2 ⟨e, he, rfl⟩)
  obtain ⟨p, hp, h2⟩ := List.mem_map.1 h1
  obtain ⟨h3, h4⟩ := Prod.mk.inj h2
  exact ⟨p, hp, h3.symm, h4.symm⟩
theorem MapAt.mem' (h : MapAt ek G ev w b l es clock) {p : α × β} (hp : p ∈ l) : ∃ e ∈ es.toList, e.key = ek p.1 ∧ e.val = ev p.2 := by
  have h1 := h.pairs.mem_iff.2 (List.mem_map.2 ⟨p, hp, rfl⟩)
  obtain ⟨e, he, h2⟩ := List.mem_map.1 h1
  obtain ⟨h3, h4⟩ := Prod.mk.inj h2
  exact ⟨e, he, h3, h4⟩
theorem MapAt.nodup (h : MapAt ek G ev w b l es clock) : (l.map Prod.fst).Nodup := by
  have h1 : es.toList.Pairwise (fun x y => x.key ≠ y.key) := ((stamped_iff es clock).1 h.st).2.2
  have h2 : (es.toList.map me).Pairwise (fun x y => x.1 ≠ y.1) := List.pairwise_map.2 h1
  have h3 : (l.map fun p => (ek p.1, ev p.2)).Pairwise (fun x y => x.1 ≠ y.1) := (h.pairs.pairwise_iff (fun {x y} (e : x.1 ≠ y.1) => e.symm)).1 h2
  have h4 := List.pairwise_map.1 h3
  exact List.pairwise_map.2 (h4.imp (fun {x y} (hne : ek x.1 ≠ ek y.1) e => hne (by rw [e])))
theorem MapAt.size (h : MapAt ek G ev w b l es clock) : es.size = l.length := by
  have := h.pairs.length_eq
  simpa using this
theorem MapAt.perm (h : MapAt ek G ev w b l es clock) {l' : List (α × β)} (hp : l.Perm l') : MapAt ek G ev w b l' es clock :=
  ⟨h.blk, h.st, h.pairs.trans (hp.map _), fun p hq => h.good p (hp.mem_iff.2 hq)⟩
theorem MapIs.perm (h : MapIs ek G ev w b l) {l' : List (α × β)} (hp : l.Perm l') : MapIs ek G ev w b l' := by
  obtain ⟨es, clock, h⟩ := h; exact ⟨es, clock, h.perm hp⟩
theorem MapIs.of_block {w' : World} (h : MapIs ek G ev w b l) (hb : ∀ o, w.heap[b]? = some o → w'.heap[b]? = some o) : MapIs ek G ev w' b l := by
  obtain ⟨es, clock, h⟩ := h; exact ⟨es, clock, hb _ h.blk, h.st, h.pairs, h.good⟩
theorem MapIs.lt (h : MapIs ek G ev w b l) : b < w.heap.size := by obtain ⟨es, clock, h⟩ := h; exact heap_lt h.blk
theorem MapIs.nodup (h : MapIs ek G ev w b l) : (l.map Prod.fst).Nodup := by obtain ⟨es, clock, h⟩ := h; exact h.nodup
theorem MapIs.good (h : MapIs ek G ev w b l) : ∀ p ∈ l, G p.1 := by obtain ⟨es, clock, h⟩ := h; exact h.good
theorem MapIs.isMap (h : MapIs ek G ev w b l) : ∃ es clock, w.heap[b]? = some (.map es clock) := by obtain ⟨es, clock, h⟩ := h; exact ⟨_, _, h.blk⟩
theorem MapIs.made (ek : α → Value) (G : α → Prop) (ev : β → Value) (w : World) : MapIs ek G ev (w.alloc (.map #[] 0)) w.heap.size [] :=
  ⟨#[], 0, (MapKept.heap_alloc w _).1, stamped_empty 0, by simp, by simp⟩

theorem MapAt.keys (h : MapAt ek G ev w b l es clock) (K : KeyE P k ek G) : ∀ e ∈ es.toList, ∃ kl, keyOf P k e.key = some kl := fun e he => by
  obtain ⟨p, hp, h1, -⟩ := h.mem he
  rw [h1]; exact K.ok (h.good p hp)
theorem MapAt.find (h : MapAt ek G ev w b l es clock) (K : KeyE P k ek G) {a : α} (ha : G a) (wx : World) :
    ((Instr.findKey k (ek a) es.toList).run P wx = .ok none wx ∧ (∀ e ∈ es.toList, e.key ≠ ek a) ∧ ∀ p ∈ l, p.1 ≠ a) ∨
    ∃ j e c, (Instr.findKey k (ek a) es.toList).run P wx = .ok (some (j, ev c)) wx ∧ es.toList[j]? = some e ∧ e.key = ek a ∧ e.val = ev c ∧ (a, c) ∈ l := by
  obtain ⟨kl, hkl⟩ := K.ok ha
  rcases K.law.find wx hkl es.toList (h.keys K) with ⟨h1, h2⟩ | ⟨j, e, h1, h2, h3⟩
  · refine Or.inl ⟨h1, h2, fun p hp e1 => ?_⟩
    obtain ⟨e, he, h3, -⟩ := h.mem' hp
    exact h2 e he (by rw [h3, e1])
  · obtain ⟨p, hp, h4, h5⟩ := h.mem (List.mem_of_getElem? h2)
    obtain rfl : p.1 = a := K.inj (by rw [← h4, h3])
    exact Or.inr ⟨j, e, p.2, by rw [h1, h5], h2, h3, h5, hp⟩
theorem mem_key_unique {l : List (α × β)} (hn : (l.map Prod.fst).Nodup) {a : α} {c d : β} (h1 : (a, c) ∈ l) (h2 : (a, d) ∈ l) : c = d := by
  induction l with
  | nil => simp at h1
  | cons q r ih =>
    simp only [List.map_cons, List.nodup_cons] at hn
    rcases List.mem_cons.1 h1 with e1 | g1
    · rcases List.mem_cons.1 h2 with e2 | g2
      · exact (Prod.mk.inj (e1.trans e2.symm)).2
      · exact absurd (List.mem_map.2 ⟨(a, d), g2, by rw [← e1]⟩) hn.1
    · rcases List.mem_cons.1 h2 with e2 | g2
      · exact absurd (List.mem_map.2 ⟨(a, c), g1, by rw [← e2]⟩) hn.1
      · exact ih hn.2 g1 g2

variable {t e : TypeId}
/-- 'm[k]' at a key that is there. -/
theorem MapIs.look_in (h : MapIs ek G ev w b l) (K : KeyE P k ek G) (ht : P.underlying t = some (.map k e)) {a : α} {c : β} (hm : (a, c) ∈ l) (ok : Bool) :
    (Instr.lookup t (.map (some b)) (ek a) ok).run P w = .ok (if ok then .tuple #[ev c, .bool true] else ev c) w := by
  have ha := h.good _ hm
  obtain ⟨es, clock, h⟩ := h
  obtain ⟨kl, hkl⟩ := K.ok ha
  rcases h.find K ha w with ⟨h1, h2, h3⟩ | ⟨j, e1, c', h1, h2, h3, h4, h5⟩
  · exact absurd rfl (h3 _ hm)
  · obtain rfl := mem_key_unique h.nodup hm h5
    simp [Instr.lookup, run_underlying ht, MapKept.run_getObj_map h.blk, K.law.check w _ hkl, h1, Result.andThen]
/-- .. at one that is not. -/
theorem MapIs.look_out (h : MapIs ek G ev w b l) (K : KeyE P k ek G) (ht : P.underlying t = some (.map k e)) {z : Value} (hz : (zeroValue e).run P w = .ok z w) {a : α} (ha : G a) (hm : ∀ p ∈ l, p.1 ≠ a) (ok : Bool) :
    (Instr.lookup t (.map (some b)) (ek a) ok).run P w = .ok (if ok then .tuple #[z, .bool false] else z) w := by
  obtain ⟨es, clock, h⟩ := h
  obtain ⟨kl, hkl⟩ := K.ok ha
  rcases h.find K ha w with ⟨h1, h2, h3⟩ | ⟨j, e1, c', h1, h2, h3, h4, h5⟩
  · simp [Instr.lookup, run_underlying ht, MapKept.run_getObj_map h.blk, K.law.check w _ hkl, h1, hz, Result.andThen]
  · exact absurd rfl (hm _ h5)
/-- 'm[k] = v'. -/
theorem MapIs.store [DecidableEq α] (h : MapIs ek G ev w b l) (K : KeyE P k ek G) (ht : P.underlying t = some (.map k e)) {a : α} (ha : G a) (c : β) :
    ∃ w', (Instr.mapUpdate t (.map (some b)) (ek a) (ev c)).run P w = .ok () w' ∧ MapIs ek G ev w' b ((a, c) :: l.filter (fun p => decide (p.1 ≠ a))) ∧ w.grownBy w' (some b) ∧ Keep b w w' := by
  obtain ⟨es, clock, h⟩ := h
  obtain ⟨kl, hkl⟩ := K.ok ha
  have gr : ∀ o, w.grownBy (setBlock w b o) (some b) ∧ Keep b w (setBlock w b o) := fun o => ⟨⟨rfl, rfl, rfl, by simp [setBlock], fun i _ hi => heap_setBlock_other h.blk _ (fun e => hi (by rw [e]))⟩, fun k hk => heap_setBlock_other h.blk _ hk⟩
  have gd : ∀ p ∈ (a, c) :: l.filter (fun p => decide (p.1 ≠ a)), G p.1 := fun p hp => by
    rcases List.mem_cons.1 hp with rfl | hp
    · exact ha
    · exact h.good p (List.mem_filter.1 hp).1
  rcases h.find K ha w with ⟨h1, h2, h3⟩ | ⟨j, e1, c', h1, h2, h3, h4, h5⟩
  · refine ⟨setBlock w b (.map (es.push ⟨ek a, ev c, clock⟩) (clock + 1)), ?_, ⟨_, _, heap_setBlock_same h.blk _, stamped_push h.st h2, ?_, gd⟩, gr _⟩
    · simp [Instr.mapUpdate, run_underlying ht, MapKept.run_getObj_map h.blk, K.law.check w false hkl, h1, MapKept.run_setObj_map _ h.blk, Result.andThen, setBlock]
    · rw [filter_out h3, Array.toList_push, List.map_append, List.map_cons]
      exact (List.perm_append_singleton _ _).trans (h.pairs.cons _)
  · have hj : es[j]? = some e1 := by simpa using h2
    have hlist : (es.modify j (fun e' => { e' with key := ek a, val := ev c })).toList = es.toList.set j { e1 with key := ek a, val := ev c } := by rw [Array.toList_modify, modify_eq_set _ _ _ _ h2]
    refine ⟨setBlock w b (.map (es.modify j (fun e' => { e' with key := ek a, val := ev c })) clock), ?_, ⟨_, _, heap_setBlock_same h.blk _, stamped_modify h.st j _ (fun _ _ => rfl) (fun e' _ he' => by rw [hj] at he'; cases he'; exact h3.symm), ?_, gd⟩, gr _⟩
    · simp [Instr.mapUpdate, run_underlying ht, MapKept.run_getObj_map h.blk, K.law.check w false hkl, h1, hj, h3, K.law.stays w hkl, MapKept.run_setObj_map _ h.blk, Result.andThen, setBlock]
    · rw [hlist, List.map_set, List.map_cons]
      have p1 : (es.toList.map me)[j]? = some (me e1) := by simp [h2]
      refine (perm_set p1).trans (List.Perm.cons _ ?_)
      have p2 : (me e1 :: (es.toList.map me).eraseIdx j).Perm (l.map fun p => (ek p.1, ev p.2)) := (perm_erase p1).symm.trans h.pairs
      have p3 := p2.trans ((perm_key h.nodup h5).map (fun p => (ek p.1, ev p.2)))
      have p4 : me e1 = (ek a, ev c') := by unfold me; rw [h3, h4]
      rw [p4, List.map_cons] at p3
      exact p3.cons_inv
/-- 'delete(m, k)'. -/
theorem MapIs.drop [DecidableEq α] (h : MapIs ek G ev w b l) (K : KeyE P k ek G) (ht : P.underlying t = some (.map k e)) {a : α} (ha : G a) (ty : TypeId) :
    ∃ w', (Builtin.delete_ #[t, k] ty #[.map (some b), ek a]).run P w = .ok (.tuple #[]) w' ∧ MapIs ek G ev w' b (l.filter (fun p => decide (p.1 ≠ a))) ∧ w.grownBy w' (some b) ∧ Keep b w w' := by
  obtain ⟨es, clock, h⟩ := h
  obtain ⟨kl, hkl⟩ := K.ok ha
  have gr : ∀ o, w.grownBy (setBlock w b o) (some b) ∧ Keep b w (setBlock w b o) := fun o => ⟨⟨rfl, rfl, rfl, by simp [setBlock], fun i _ hi => heap_setBlock_other h.blk _ (fun e => hi (by rw [e]))⟩, fun k hk => heap_setBlock_other h.blk _ hk⟩
  have gd : ∀ p ∈ l.filter (fun p => decide (p.1 ≠ a)), G p.1 := fun p hp => h.good p (List.mem_filter.1 hp).1
  rcases h.find K ha w with ⟨h1, h2, h3⟩ | ⟨j, e1, c', h1, h2, h3, h4, h5⟩
  · refine ⟨setBlock w b (.map es clock), ?_, ⟨_, _, heap_setBlock_same h.blk _, h.st, by rw [filter_out h3]; exact h.pairs, gd⟩, gr _⟩
    simp [Builtin.delete_, run_underlying ht, MapKept.run_getObj_map h.blk, K.law.check w _ hkl, h1, MapKept.run_setObj_map _ h.blk, Result.andThen, setBlock]
  · have hjl : j < es.size := by simpa using (List.getElem?_eq_some_iff.1 h2).1
    have hsub : (es.eraseIdxIfInBounds j).toList = es.toList.eraseIdx j := by
      unfold Array.eraseIdxIfInBounds
      rw [dif_pos hjl]
      simp
    refine ⟨setBlock w b (.map (es.eraseIdxIfInBounds j) clock), ?_, ⟨_, _, heap_setBlock_same h.blk _, stamped_erase h.st j, ?_, gd⟩, gr _⟩
    · simp [Builtin.delete_, run_underlying ht, MapKept.run_getObj_map h.blk, K.law.check w _ hkl, h1, MapKept.run_setObj_map _ h.blk, Result.andThen, setBlock]
    · have p1 : (es.toList.map me)[j]? = some (me e1) := by simp [h2]
      have p2 : (me e1 :: (es.toList.map me).eraseIdx j).Perm (l.map fun p => (ek p.1, ev p.2)) := (perm_erase p1).symm.trans h.pairs
      have p3 := p2.trans ((perm_key h.nodup h5).map (fun p => (ek p.1, ev p.2)))
      have p4 : me e1 = (ek a, ev c') := by unfold me; rw [h3, h4]
      rw [p4, List.map_cons] at p3
      rw [hsub, map_eraseIdx]
      exact p3.cons_inv
theorem MapIs.len (h : MapIs ek G ev w b l) (ht : P.underlying t = some (.map k e)) (ty : TypeId) : (Builtin.len_ #[t] ty #[.map (some b)]).run P w = .ok (.int .i64 (l.length : Int)) w := by
  obtain ⟨es, clock, h⟩ := h
  have := h.size
  simp [Builtin.len_, run_underlying ht, MapKept.run_getObj_map h.blk, Result.andThen, this, goInt]

/-- A walk over a map is under way: 'r' is its iterator, 'todo' what is still to come. -/
structure RangeAt (ek : α → Value) (G : α → Prop) (ev : β → Value) (w : World) (b r : Nat) (l todo : List (α × β)) (es : Array MapEntry) (clock since : Nat) (seen : Array Nat) (c0 : Nat) : Prop where
  map : MapAt ek G ev w b l es clock
  it : w.heap[r]? = some (.mapIter (some b) since seen c0)
  old : ∀ x ∈ es.toList, x.born < since
  left : ((leftOf es seen).toList.map me).Perm (todo.map fun p => (ek p.1, ev p.2))
  h1 : since ≤ c0
  h2 : since ≤ clock
def RangeIs (ek : α → Value) (G : α → Prop) (ev : β → Value) (w : World) (b r : Nat) (l todo : List (α × β)) : Prop := ∃ es clock since seen c0, RangeAt ek G ev w b r l todo es clock since seen c0

theorem RangeIs.map {r : Nat} {todo : List (α × β)} (h : RangeIs ek G ev w b r l todo) : MapIs ek G ev w b l := by
  obtain ⟨es, clock, since, seen, c0, h⟩ := h; exact ⟨es, clock, h.map⟩
theorem RangeIs.iter {r : Nat} {todo : List (α × β)} (h : RangeIs ek G ev w b r l todo) : ∃ m s seen c, w.heap[r]? = some (.mapIter m s seen c) := by
  obtain ⟨es, clock, since, seen, c0, h⟩ := h; exact ⟨_, _, _, _, h.it⟩
theorem RangeIs.of_blocks {w' : World} {r : Nat} {todo : List (α × β)} (h : RangeIs ek G ev w b r l todo) (hb : ∀ o, w.heap[b]? = some o → w'.heap[b]? = some o) (hr : ∀ o, w.heap[r]? = some o → w'.heap[r]? = some o) : RangeIs ek G ev w' b r l todo := by
  obtain ⟨es, clock, since, seen, c0, h⟩ := h
  exact ⟨es, clock, since, seen, c0, ⟨hb _ h.map.blk, h.map.st, h.map.pairs, h.map.good⟩, hr _ h.it, h.old, h.left, h.h1, h.h2⟩
theorem MapIs.range (h : MapIs ek G ev w b l) (ht : P.underlying t = some (.map k e)) :
    ∃ o, (Instr.range t (.map (some b))).run P w = .ok (.pointer (some ⟨w.heap.size, 0, none⟩)) (w.alloc o) ∧ RangeIs ek G ev (w.alloc o) b w.heap.size l l ∧ o.isWalk = true := by
  have hlt := h.lt
  obtain ⟨es, clock, h⟩ := h
  refine ⟨.mapIter (some b) clock #[] clock, run_range_map w t k e b es clock ht h.blk, ⟨es, clock, clock, #[], clock, ⟨((MapKept.heap_alloc w _).2 b hlt).trans h.blk, h.st, h.pairs, h.good⟩, (MapKept.heap_alloc w _).1, ((stamped_iff es clock).1 h.st).1, ?_, Nat.le_refl _, Nat.le_refl _⟩, rfl⟩
  have : leftOf es #[] = es := by simp [leftOf]
  rw [this]; exact h.pairs
theorem left_perm {es : Array MapEntry} {seen : Array Nat} {e : MapEntry} (he : e ∈ (leftOf es seen).toList) (hn : (es.toList.map (·.born)).Nodup) : (leftOf es seen).toList.Perm (e :: (leftOf es (seen.push e.born)).toList) := by
  have hnd : es.toList.Nodup := by
    rw [List.nodup_iff_pairwise_ne] at hn ⊢
    exact (List.pairwise_map.1 hn).imp (fun h e => h (by rw [e]))
  obtain ⟨h1, h2⟩ := mem_left he
  have f1 : ∀ s : Array Nat, (leftOf es s).toList = es.toList.filter (fun e => !s.contains e.born) := fun s => by unfold leftOf; simp
  have hc : ∀ x, (seen.push e.born).contains x = (seen.contains x || x == e.born) := fun x => by rw [Array.contains_push]
  rw [f1, f1]
  refine (List.perm_ext_iff_of_nodup (hnd.filter _) (List.nodup_cons.2 ⟨fun hx => ?_, hnd.filter _⟩)).2 (fun x => ?_)
  · have := (List.mem_filter.1 hx).2
    rw [hc] at this; simp at this
  · simp only [List.mem_filter, List.mem_cons]
    constructor
    · rintro ⟨hx, hs⟩
      by_cases hb : x.born = e.born
      · exact Or.inl (born_inj hn hx h1 hb)
      · exact Or.inr ⟨hx, by rw [hc]; simp at hs ⊢; exact ⟨hs, hb⟩⟩
    · rintro (rfl | ⟨hx, hs⟩)
      · exact ⟨h1, by rw [h2]; rfl⟩
      · rw [hc] at hs; exact ⟨hx, by simp at hs ⊢; exact hs.1⟩
/-- The step. -/
theorem RangeIs.next {r : Nat} {todo : List (α × β)} (h : RangeIs ek G ev w b r l todo) (ty : TypeId) :
    (todo = [] ∧ (Instr.next (.pointer (some ⟨r, 0, none⟩)) false ty).run P w = .ok (.tuple #[.bool false]) w) ∨
    ∃ p todo' w', todo.Perm (p :: todo') ∧ (Instr.next (.pointer (some ⟨r, 0, none⟩)) false ty).run P w = .ok (.tuple #[.bool true, ek p.1, ev p.2]) w' ∧ RangeIs ek G ev w' b r l todo' ∧ w.grownBy w' (some r) ∧ w'.heap.size = w.heap.size ∧
      (Instr.entry (.pointer (some ⟨r, 0, none⟩))).run P w' = .ok (.tuple #[ek p.1, ev p.2]) w' := by
  obtain ⟨es, clock, since, seen, c0, h⟩ := h
  have hne : r ≠ b := fun e => by have := h.it; rw [e, h.map.blk] at this; cases this
  have hn := ((stamped_iff es clock).1 h.map.st).2.1
  rcases run_next_at (P := P) w ty r b since c0 seen es clock h.it h.map.blk h.old h.h1 with ⟨h0, hrun⟩ | ⟨e, he, w1, hal, hrun⟩
  · refine Or.inl ⟨?_, hrun⟩
    have := h.left.length_eq
    simp [h0] at this
    exact List.length_eq_zero_iff.1 this.symm
  · have hm := h.left.mem_iff.1 (List.mem_map.2 ⟨e, he, rfl⟩)
    obtain ⟨p, hp, h3⟩ := List.mem_map.1 hm
    obtain ⟨h4, h5⟩ := Prod.mk.inj h3
    obtain ⟨s, u, rfl⟩ := List.append_of_mem hp
    have hr1 : w1.heap[r]? = some (.mapIter (some b) since seen c0) := by rcases hal with rfl | rfl <;> exact h.it
    have hb1 : w1.heap[b]? = some (.map es clock) := by rcases hal with rfl | rfl <;> exact h.map.blk
    have hset := heap_set (o' := .mapIter (some b) since (seen.push e.born) clock) hr1
    have hb' : (setBlock w1 r (.mapIter (some b) since (seen.push e.born) clock)).heap[b]? = some (.map es clock) := (hset.2 b (fun e1 => hne e1.symm)).trans hb1
    have hen := run_entry_at (P := P) _ r b since seen es clock e hset.1 hb' (mem_left he).1 hn
    refine Or.inr ⟨p, s ++ u, _, List.perm_middle, by rw [hrun, h4, h5], ⟨es, clock, since, seen.push e.born, clock, ⟨hb', h.map.st, h.map.pairs, h.map.good⟩, hset.1, h.old, ?_, h.h2, h.h2⟩, ?_, ?_, by rw [h4, h5]; exact hen⟩
    · have q1 := (left_perm he hn).map me
      have q2 := q1.symm.trans h.left
      have q3 := q2.trans ((List.perm_middle (a := p) (l₁ := s) (l₂ := u)).map (fun p => (ek p.1, ev p.2)))
      rw [List.map_cons, List.map_cons, h3] at q3
      exact q3.cons_inv
    · rcases hal with rfl | rfl <;> exact ⟨rfl, rfl, rfl, by simp [setBlock], fun i _ hi => hset.2 i (fun e1 => hi (by rw [e1]))⟩
    · rcases hal with rfl | rfl <;> simp [setBlock]
end
theorem Keep.map {α β : Type} {ek : α → Value} {G : α → Prop} {ev : β → Value} {m : Nat} {w wx : World} (h : Keep m w wx) {b : Nat} {l : List (α × β)} (hne : b ≠ m) (hm : MapIs ek G ev w b l) : MapIs ek G ev wx b l := hm.of_block (fun _ ho => by rw [h b hne]; exact ho)
end Go.Proofs.Ytjopdejgijojmaa
