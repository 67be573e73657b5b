/- A table beside the document's list. -/
import Derived.Test.YtjofbehmhdjohaaRl
namespace Go.Proofs.Ytjofbehmhdjohaa
open Go.RowKit Go.Extern

theorem Tied.cut {E A : List En} (h : Tied E A) (p : Nat) : Tied (E.take p ++ E.drop (p + 1)) (A.take p ++ A.drop (p + 1)) := by
  unfold Tied at *
  simp only [List.map_append, List.map_take, List.map_drop, h]
theorem filter_cut {A : List En} (hu : Up (A.map En.num)) {p : Nat} {y : En} (hy : A[p]? = some y) : (A.filter fun e => e.num != y.num) = A.take p ++ A.drop (p + 1) := by
  obtain ⟨hp, hpy⟩ := List.getElem?_eq_some_iff.1 hy
  have e0 : A = A.take p ++ y :: A.drop (p + 1) := by rw [← hpy, ← List.drop_eq_getElem_cons hp, List.take_append_drop]
  have h1 : ∀ e ∈ A.take p, (e.num != y.num) = true := fun e he => by
    obtain ⟨q, hq⟩ := List.mem_iff_getElem?.1 he
    have hqp : q < p := by have := (List.getElem?_eq_some_iff.1 hq).1; simp at this; omega
    rw [List.getElem?_take_of_lt hqp] at hq
    have := hu.lt (num_at hq) (num_at hy) hqp
    simp; omega
  have h2 : ∀ e ∈ A.drop (p + 1), (e.num != y.num) = true := fun e he => by
    obtain ⟨q, hq⟩ := List.mem_iff_getElem?.1 he
    rw [List.getElem?_drop] at hq
    have := hu.lt (num_at hy) (num_at hq) (by omega)
    simp; omega
  have e1 : (A.filter fun e => e.num != y.num) = ((A.take p ++ y :: A.drop (p + 1)).filter fun e => e.num != y.num) := by rw [← e0]
  rw [e1, List.filter_append, List.filter_cons_of_neg (by simp), List.filter_eq_self.2 h1, List.filter_eq_self.2 h2]
theorem Tied.take {E A : List En} (h : Tied E A) (p : Nat) : Tied (E.take p) (A.take p) := by
  unfold Tied at *; simp only [List.map_take, h]
theorem Tied.any {E A : List En} (h : Tied E A) (f : List S → Bool) : (E.any fun e => f e.sps) = A.any fun e => f e.sps := by
  have h1 : (E.map (fun e => (e.num, e.sps))).any (fun q => f q.2) = (A.map (fun e => (e.num, e.sps))).any (fun q => f q.2) := by rw [h]
  simpa [List.any_map, Function.comp_def] using h1
theorem Tied.free {E A : List En} (h : Tied E A) {p : Nat} {x y : En} (hx : E[p]? = some x) (hy : A[p]? = some y) : freeB E x p = freeB A y p := by
  unfold freeB
  rw [(h.at_ hx hy).2, (h.take p).any (fun l => clE y.sps l)]
theorem map_filter_num {A : List En} (f : List S → Bool) : (A.filter fun e => f e.sps).map En.num = ((A.map (fun e => (e.num, e.sps))).filter (fun q => f q.2)).map Prod.fst := by
  induction A with
  | nil => rfl
  | cons e A ih =>
    simp only [List.filter_cons, List.map_cons]
    by_cases hf : f e.sps = true
    · simp only [hf, if_true, List.map_cons, ih]
    · simp only [hf, if_false, ih, Bool.false_eq_true]
theorem Tied.ahead {E A : List En} (h : Tied E A) {p : Nat} {x y : En} (hx : E[p]? = some x) (hy : A[p]? = some y) : aheadS E p x = aheadS A p y := by
  unfold aheadS
  rw [(h.at_ hx hy).2, map_filter_num (fun l => clE l y.sps), map_filter_num (fun l => clE l y.sps), h.take p]
theorem Tied.rdy {E A : List En} (h : Tied E A) : ∀ j, rdyN E j = rdyN A j
  | 0 => rfl
  | j + 1 => by
    have ih := h.rdy j
    unfold rdyN
    rw [ih]
    congr 1
    rcases Nat.lt_or_ge j E.length with hj | hj
    · have hx : E[j]? = some E[j] := List.getElem?_eq_getElem hj
      have hy : A[j]? = some (A[j]'(by rw [← h.len]; exact hj)) := List.getElem?_eq_getElem _
      rw [hx, hy]
      simp only
      rw [h.free hx hy, (h.at_ hx hy).1]
    · rw [List.getElem?_eq_none hj, List.getElem?_eq_none (by rw [← h.len]; exact hj)]
theorem free_iff {A : List En} {p : Nat} {y : En} : freeB A y p = true ↔ aheadS A p y = [] := by
  unfold freeB aheadS
  rw [List.map_eq_nil_iff, List.filter_eq_nil_iff]
  constructor
  · intro h e he hc
    rw [clE_comm] at hc
    rw [List.any_eq_true.2 ⟨e, he, hc⟩] at h
    cases h
  · intro h
    rw [List.any_eq_false.2 (fun e he hc => h e he (by rw [clE_comm]; exact hc))]
    rfl
section
variable {w wr w2 : World} {b : Nat} {E : List En} {last : Int} {av dv : Value} {A : List En} {D : List Int}
/-- Another list instead of the law's own. -/
theorem EnS.swap (h : EnS w b E last av A dv D wr) (hb : Below wr.heap.size wr w2) {av' : Value} {A' : List En} (ho : OwnK enE 2 44 w2 wr.heap.size av' A') (hs : ∀ e ∈ A', e ∈ A) : EnS w b E last av' A' dv D w2 := by
  have hlt := fun k hk => ho.lt k hk
  refine ⟨h.st.mine (Turn.of_below hb) (fun k hk => ?_) (fun k hk => ?_), ho.rebase h.st.size, h.dn.below hb, fun k hk e => ?_, fun e he => h.asp e (hs e he)⟩
  · rcases hk with hk | hk
    · exact (h.al.lt k hk).1
    · exact (h.dn.lt k hk).1
  · rcases hk with hk | hk
    · exact ⟨.inr (hlt k hk).1, (hlt k hk).2⟩
    · exact ⟨.inl (.inr hk), Nat.lt_of_lt_of_le (h.dn.lt k hk).2 hb.size⟩
  · have := (hlt k hk).1; have := (h.dn.lt k e).2; omega
/-- A slice's own row of spans, that may be written over. -/
def InRow (w : World) (v : Value) : Prop := ∀ g n cap, v = .slice (some ⟨g, 0, none⟩) n cap → ∃ cur : Array Value, w.heap[g]? = some (.cells cur 24 (0, 0)) ∧ n * 4 ≤ cur.size
theorem InRow.of {base : Nat} {v : Value} {l : List S} (h : OwnK enS 4 24 w base v l) : InRow w v := by
  rintro g n cap rfl
  rcases h.1.2 with ⟨e, -⟩ | ⟨g', cap', cur, e, h1, h2, h3, h4, h5, h6⟩
  · cases e
  · injection e with e1 e2 e3
    injection e1 with e1
    injection e1 with e1
    subst e1
    exact ⟨cur, h2, by rw [h5, e2]; exact Nat.mul_le_mul_right 4 h3⟩
theorem InRow.kept {w w' : World} {v : Value} (h : InRow w v) (hk : ∀ k o, v.ownBlock = some k → w.heap[k]? = some o → w'.heap[k]? = some o) : InRow w' v := by
  rintro g n cap rfl
  obtain ⟨cur, h1, h2⟩ := h g n cap rfl
  exact ⟨cur, hk g _ rfl h1, h2⟩
/-- What Add leaves, right spans or not; the list that was handed in may be written over. -/
structure Tried (w wr w2 : World) (b : Nat) (E : List En) (last : Int) (av dv : Value) (A : List En) (D : List Int) (v : Value) (l : List S) (kv : Int) (ev : Value) (E' : List En) (last' : Int) (w' : World) : Prop where
  cl : ∀ w'', Turn (fun k => v.ownBlock = some k) w' w'' → EnS w b E' last' av A dv D w''
  row : InRow w' v
  keep : ∀ k o, wr.heap.size ≤ k → w2.heap[k]? = some o → w'.heap[k]? = some o
  or_ : (l.all rightB = true ∧ kv = last + 1 ∧ ev = .nilIface ∧ last' = last + 1 ∧ ∃ x : En, E' = E ++ [x] ∧ x.num = last + 1 ∧ x.sps = l) ∨ (l.all rightB = false ∧ kv = 0 ∧ ev = errV 20 ∧ E' = E ∧ last' = last)
theorem EnS.try_ (h : EnS w b E last av A dv D wr) {v : Value} {l : List S} (hb : Below wr.heap.size wr w2) (ho : OwnK enS 4 24 w2 wr.heap.size v l) (hok : ∀ s ∈ l, sOk s) (hlast : last + 1 ≤ 900) :
    Calls Try.prog 14 #[.pointer (some ⟨b, 0, none⟩), v] w2 (fun e w' => ∃ kv ev E' last', e = .returned (.tuple #[.int .i64 kv, ev]) ∧ Tried w wr w2 b E last av dv A D v l kv ev E' last' w') := by
  have hvlt := fun k hk => ho.lt k hk
  cases hr : l.all rightB with
  | false =>
    refine (add_bad (ho.sps hok) hr).mono ?_
    rintro e w' ⟨rfl, hb'⟩
    refine ⟨_, _, E, last, rfl, fun w'' ht => ?_, (InRow.of ho).kept fun k o _ hk => blk_below hb' hk, fun k o _ hk => blk_below hb' hk, .inr ⟨hr, rfl, by rw [errV_code (by omega)], rfl, rfl⟩⟩
    exact h.below ((nextB hb hb').trans (ht.below (nextB hb hb').size fun k hk => (hvlt k hk).1))
  | true =>
    have hst : St w (fun k => (av.ownBlock = some k ∨ dv.ownBlock = some k) ∨ (wr.heap.size ≤ k ∧ k < w2.heap.size)) b E last w2 :=
      h.st.mine (Turn.of_below hb) (fun k hk => by
        rcases hk with hk | hk
        · exact (h.al.lt k hk).1
        · exact (h.dn.lt k hk).1) (fun k hk => by
        rcases hk with hk | hk
        · refine ⟨.inl hk, Nat.lt_of_lt_of_le ?_ hb.size⟩
          rcases hk with hk | hk
          · exact (h.al.lt k hk).2
          · exact (h.dn.lt k hk).2
        · exact ⟨.inr hk.1, hk.2⟩)
    refine (hst.add (ho.sps hok) hr ho.2 hlast (fun k _ hk => hst.notb (.inr (hvlt k hk)))).mono ?_
    rintro e w' ⟨x, rfl, e1, e2, hs, hk⟩
    refine ⟨_, _, E ++ [x], last + 1, rfl, fun w'' ht => ?_, (InRow.of ho).kept fun k o hv hk' => hk k o (.inr (hvlt k hv)) hk', fun k o hle hk' => hk k o (.inr ⟨hle, heap_lt hk'⟩) hk', .inl ⟨hr, rfl, rfl, rfl, x, rfl, e1, e2⟩⟩
    have h2 := h.below hb
    refine ⟨hs.mine ⟨ht.os, ht.tape, ht.output, ht.size, fun k hk hn => ht.block k hk (fun e => hn (.inr (hvlt k e)))⟩ (fun k hk => ?_) (fun k hk => ⟨.inl (.inl hk), ?_⟩), ?_, ?_, h.ne, h.asp⟩
    · rcases hk with (hk | hk) | hk
      · exact (h.al.lt k hk).1
      · exact (h.dn.lt k hk).1
      · have := hk.1; have := h.st.size; omega
    · obtain ⟨F, f1, f2, f3, f4, f5⟩ := hs
      exact Nat.lt_of_lt_of_le (f4 k (.inl hk)) ht.size
    · refine h2.al.same fun k o hv ho' => ?_
      have h3 := hk k o (.inl (.inl hv)) ho'
      rw [ht.block k (heap_lt h3) (fun e => by have := (hvlt k e).1; have := (h.al.lt k hv).2; omega)]
      exact h3
    · refine h2.dn.same fun k o hv ho' => ?_
      have h3 := hk k o (.inl (.inr hv)) ho'
      rw [ht.block k (heap_lt h3) (fun e => by have := (hvlt k e).1; have := (h.dn.lt k hv).2; omega)]
      exact h3
end
/-- Done, whatever the number. -/
theorem EnS.doneAny {w wr : World} {b : Nat} {E : List En} {last : Int} {av dv : Value} {A : List En} {D : List Int} (h : EnS w b E last av A dv D wr) (k : Int) : Calls Try.prog 18 #[.pointer (some ⟨b, 0, none⟩), .int .i64 k] wr (fun e w' =>
    (e = .returned (errV 130) ∧ (∀ x ∈ E, x.num ≠ k) ∧ EnS w b E last av A dv D w') ∨
    (∃ p x, e = .returned (errV 131) ∧ E[p]? = some x ∧ x.num = k ∧ freeB E x p = false ∧ EnS w b E last av A dv D w') ∨
    (∃ p x, e = .returned (errV 0) ∧ E[p]? = some x ∧ x.num = k ∧ freeB E x p = true ∧ EnS w b (E.take p ++ E.drop (p + 1)) last av A dv D w')) := by
  refine (h.st.done k).mono ?_
  rintro e w' (⟨rfl, hno, hs, hk⟩ | ⟨p, x, rfl, h1, h2, h3, hs, hk⟩ | ⟨p, x, rfl, h1, h2, h3, hs, hk⟩)
  · exact .inl ⟨rfl, hno, h.table hs hk⟩
  · exact .inr (.inl ⟨p, x, rfl, h1, h2, h3, h.table hs hk⟩)
  · exact .inr (.inr ⟨p, x, rfl, h1, h2, h3, h.table hs hk⟩)
/-- Two lists of numbers of one's own. -/
structure TwoI (w0 wr : World) (v1 v2 : Value) (l1 l2 : List Int) : Prop where
  o1 : OwnI wr w0.heap.size v1 l1
  o2 : OwnI wr w0.heap.size v2 l2
  ne : ∀ k, v1.ownBlock = some k → v2.ownBlock ≠ some k
  bel : Below w0.heap.size w0 wr
section
variable {w0 wr w' : World} {v1 v2 : Value} {l1 l2 : List Int}
theorem TwoI.start (w0 : World) : TwoI w0 w0 (.slice none 0 0) (.slice none 0 0) [] [] := ⟨OwnI.nil _ _, OwnI.nil _ _, fun k h => by simp [Value.ownBlock] at h, Below.refl _ _⟩
theorem TwoI.below (h : TwoI w0 wr v1 v2 l1 l2) (hb : Below wr.heap.size wr w') : TwoI w0 w' v1 v2 l1 l2 := ⟨h.o1.below hb, h.o2.below hb, h.ne, nextB h.bel hb⟩
theorem TwoI.swap (h : TwoI w0 wr v1 v2 l1 l2) : TwoI w0 wr v2 v1 l2 l1 := ⟨h.o2, h.o1, fun k e1 e2 => h.ne k e2 e1, h.bel⟩
theorem TwoI.app (h : TwoI w0 wr v1 v2 l1 l2) {k : Int} (hk : I64 k) (hl : l1.length ≤ 2000) :
    ∃ a n c w', (Builtin.append_ #[45, 45] 45 #[v1, .slice (some ⟨wr.heap.size, 0, none⟩) 1 1]).run Try.prog (wr.alloc (.cells #[.int .i64 k] 3)) = .ok (.slice a n c) w' ∧ TwoI w0 w' (.slice a n c) v2 (l1 ++ [k]) l2 ∧ ∀ q o, v1.ownBlock ≠ some q → wr.heap[q]? = some o → w'.heap[q]? = some o := by
  obtain ⟨a, n, c, w', hr, ho, ht, hat⟩ := more_turn h.o1 h.bel.size hk hl
  have h2l : ∀ k, v2.ownBlock = some k → k < wr.heap.size := fun k hk => (h.o2.lt k hk).2
  refine ⟨a, n, c, w', hr, ⟨ho, h.o2.same fun k o hk ho => ?_, fun k hk e => ?_, h.bel.trans (ht.below h.bel.size fun k hk => (h.o1.lt k hk).1)⟩, fun q o hn ho => by rw [ht.block q (heap_lt ho) hn]; exact ho⟩
  · rw [ht.block k (h2l k hk) (fun e => h.ne k e hk)]; exact ho
  · rcases hat with e1 | ⟨j, e1, hj⟩
    · exact h.ne k (by rw [← e1]; exact hk) e
    · rw [e1] at hk; cases hk; have := h2l _ e; omega
end
end Go.Proofs.Ytjofbehmhdjohaa
