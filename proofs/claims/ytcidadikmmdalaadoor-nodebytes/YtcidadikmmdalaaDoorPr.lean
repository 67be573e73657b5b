/- Entries in memory. -/
import Derived.Test.YtcidadikmmdalaaDoorSl
namespace Go.Proofs.YtcidadikmmdalaaDoor
open Go.RowKit Go.Extern

/-- An entry: its state, its size. -/
abbrev En := Int × Int
def enOk (e : En) : Prop := I64 e.1 ∧ I64 e.2
def cellsE (l : List En) : List Value := l.flatMap fun e => [Value.int .i64 e.1, Value.int .i64 e.2]
theorem cellsE_append (a b : List En) : cellsE (a ++ b) = cellsE a ++ cellsE b := by simp [cellsE]
theorem cellsE_one (e : En) : cellsE [e] = [Value.int .i64 e.1, Value.int .i64 e.2] := by simp [cellsE]
theorem cellsE_length : ∀ l : List En, (cellsE l).length = l.length * 2
  | [] => rfl
  | e :: l => by
    have := cellsE_length l
    simp only [cellsE, List.flatMap_cons, List.length_append, List.length_cons, List.length_nil] at *
    omega
theorem cellsE_at : ∀ (l : List En) (i : Nat) (e : En), l[i]? = some e → (cellsE l)[i * 2]? = some (.int .i64 e.1) ∧ (cellsE l)[i * 2 + 1]? = some (.int .i64 e.2)
  | [], i, e, h => by simp at h
  | x :: l, 0, e, h => by
    obtain rfl : x = e := by simpa using h
    simp [cellsE]
  | x :: l, i + 1, e, h => by
    have := cellsE_at l i e (by simpa using h)
    have e1 : cellsE (x :: l) = [Value.int .i64 x.1, Value.int .i64 x.2] ++ cellsE l := rfl
    rw [e1, show (i + 1) * 2 = i * 2 + 2 by omega, show i * 2 + 2 + 1 = (i * 2 + 1) + 2 by omega]
    simpa using this
theorem cellsE_mem {l : List En} {u : Value} (h : u ∈ cellsE l) : u.oneCell' = true := by
  simp only [cellsE, List.mem_flatMap, List.mem_cons, List.not_mem_nil, or_false] at h
  obtain ⟨e, -, rfl | rfl⟩ := h <;> rfl
theorem cellsE_cell {l : List En} {j : Nat} {u : Value} (h : (cellsE l)[j]? = some u) : ∃ e, l[j / 2]? = some e ∧ (j = j / 2 * 2 ∧ u = .int .i64 e.1 ∨ j = j / 2 * 2 + 1 ∧ u = .int .i64 e.2) := by
  have hj : j < (cellsE l).length := (List.getElem?_eq_some_iff.1 h).1
  rw [cellsE_length] at hj
  have hi : j / 2 < l.length := by omega
  obtain ⟨h0, h1⟩ := cellsE_at l (j / 2) l[j / 2] (by simp [hi])
  refine ⟨l[j / 2], by simp [hi], ?_⟩
  rcases (show j = j / 2 * 2 ∨ j = j / 2 * 2 + 1 by omega) with e | e
  · left; refine ⟨e, ?_⟩; rw [← e, h] at h0; exact Option.some.inj h0
  · right; refine ⟨e, ?_⟩; rw [← e, h] at h1; exact Option.some.inj h1

theorem cell_below {w wr : World} (hb : Below w.heap.size w wr) {a : Addr} {v : Value} (h : w.cell? a = some v) : wr.cell? a = some v := by rw [hb.cell (cell_lt h)]; exact h
/-- The value 'v' is, in the world 'w', a slice of the entries 'l'. -/
def Ents (w : World) (v : Value) (l : List En) : Prop :=
  ∃ ao cap g off, v = .slice ao l.length cap ∧ (0 < l.length → ao = some ⟨g, off, none⟩) ∧
    (∀ (i : Nat) e, l[i]? = some e → w.cell? ⟨g, off + i * 2, none⟩ = some (.int .i64 e.1) ∧ w.cell? ⟨g, off + i * 2 + 1, none⟩ = some (.int .i64 e.2)) ∧
    (∀ e ∈ l, enOk e) ∧ l.length ≤ 140737488355328 ∧ (ao = none → cap = 0) ∧ l.length ≤ cap ∧ cap ≤ maxLen
theorem Ents.below {w w' : World} (hb : Below w.heap.size w w') {v : Value} {l : List En} (h : Ents w v l) : Ents w' v l := by
  obtain ⟨ao, cap, g, off, h1, h2, h3, h4⟩ := h
  exact ⟨ao, cap, g, off, h1, h2, fun i q hq => by rw [hb.cell (cell_lt (h3 i q hq).1), hb.cell (cell_lt (h3 i q hq).2)]; exact h3 i q hq, h4⟩
theorem Ents.ok {w : World} {v : Value} {l : List En} (h : Ents w v l) : ∀ e ∈ l, enOk e := by
  obtain ⟨ao, cap, g, off, h1, h2, h3, h4, -⟩ := h; exact h4
theorem Ents.len {w : World} {v : Value} {l : List En} (h : Ents w v l) : l.length ≤ 140737488355328 := by
  obtain ⟨ao, cap, g, off, h1, h2, h3, h4, h5, -⟩ := h; exact h5
theorem Ents.form {w : World} {v : Value} {l : List En} (h : Ents w v l) : ∃ ao n cap, v = .slice ao n cap ∧ Hid (n = l.length) := by
  obtain ⟨ao, cap, g, off, rfl, -⟩ := h; exact ⟨_, _, _, rfl, rfl⟩
theorem Ents.nil (w : World) : Ents w (.slice none 0 0) [] := ⟨none, 0, 0, 0, rfl, by simp, by simp, by simp, by simp, by simp, by simp, by simp⟩

/-- 'v' is a slice of the entries 'l' in a block of its own, from 'base' on. -/
def OwnE (t : TypeId) (w : World) (base : Nat) (v : Value) (l : List En) : Prop :=
  w.ownsRow base t 2 v l.length (cellsE l) ∧ (∀ e ∈ l, enOk e) ∧ l.length ≤ 1000
theorem OwnE.ents {t : TypeId} {w : World} {base : Nat} {v : Value} {l : List En} (h : OwnE t w base v l) : Ents w v l := by
  obtain ⟨⟨h1, h2⟩, h3, h4⟩ := h
  rcases h2 with ⟨rfl, h0⟩ | ⟨g, cap, cur, rfl, hg, hh, hc, hm, hs, ht⟩
  · have : l = [] := List.length_eq_zero_iff.1 h0
    subst this
    exact Ents.nil w
  · have hcell := World.ownsRow.cells (w := w) (base := base) (e := t) (size := 2) (v := .slice (some ⟨g, 0, none⟩) l.length cap) (n := l.length) (xs := cellsE l) ⟨h1, .inr ⟨g, cap, cur, rfl, hg, hh, hc, hm, hs, ht⟩⟩ (g := g) rfl
    have ea : ∀ i, (⟨g, 0, none⟩ : Addr).add i = ⟨g, 0 + i, none⟩ := fun i => by unfold Addr.add; split <;> simp_all
    refine ⟨_, cap, g, 0, rfl, fun _ => rfl, fun i e he => ?_, h3, by omega, by simp, hc, hm⟩
    obtain ⟨c0, c1⟩ := cellsE_at l i e he
    have d0 := hcell _ _ c0
    have d1 := hcell _ _ c1
    rw [ea] at d0 d1
    exact ⟨d0, by rw [Nat.add_assoc]; exact d1⟩
theorem OwnE.below {t : TypeId} {w w' : World} {base : Nat} {v : Value} {l : List En} (h : OwnE t w base v l) (hb : Below w.heap.size w w') : OwnE t w' base v l := by
  obtain ⟨⟨h1, h2⟩, h3⟩ := h
  refine ⟨⟨h1, ?_⟩, h3⟩
  rcases h2 with h2 | ⟨g, cap, cur, hv, hg, hh, r⟩
  · exact Or.inl h2
  · refine Or.inr ⟨g, cap, cur, hv, hg, ?_, r⟩
    rw [hb.block g ?_]; exact hh
    rcases Nat.lt_or_ge g w.heap.size with q | q
    · exact q
    · rw [Array.getElem?_eq_none q] at hh; cases hh
theorem OwnE.base {t : TypeId} {w : World} {base base' : Nat} {v : Value} {l : List En} (h : OwnE t w base v l) (hb : base' ≤ base) : OwnE t w base' v l := by
  obtain ⟨⟨h1, h2⟩, h3⟩ := h
  refine ⟨⟨h1, ?_⟩, h3⟩
  rcases h2 with h2 | ⟨g, cap, cur, hv, hg, r⟩
  · exact Or.inl h2
  · exact Or.inr ⟨g, cap, cur, hv, by omega, r⟩
theorem OwnE.nil (t : TypeId) (w : World) (base : Nat) : OwnE t w base (.slice none 0 0) [] := ⟨World.ownsRow_nil _ _ _ _, by simp, by simp⟩
theorem OwnE.empty (t : TypeId) (w : World) (base : Nat) (hb : base ≤ w.heap.size) : OwnE t (w.alloc (.cells #[] t)) base (.slice (some ⟨w.heap.size, 0, none⟩) 0 0) [] :=
  ⟨by have := World.ownsRow_lit (base := base) (e := t) (size := 2) w #[] 0 hb (by unfold maxLen; omega) (by simp); simpa [cellsE] using this, by simp, by simp⟩
theorem OwnE.lt {t : TypeId} {w : World} {base : Nat} {v : Value} {l : List En} (h : OwnE t w base v l) : ∀ k, v.ownBlock = some k → base ≤ k ∧ k < w.heap.size := h.1.lt
theorem OwnE.form {t : TypeId} {w : World} {base : Nat} {v : Value} {l : List En} (h : OwnE t w base v l) : ∃ ao n cap, v = .slice ao n cap ∧ Hid (n = l.length) := h.ents.form

/-- What an append onto entries of one's own leaves. -/
structure GrewE (t : TypeId) (w : World) (v : Value) (base : Nat) (w' : World) (v' : Value) (l : List En) : Prop where
  own : OwnE t w' base v' l
  grown : w.grownBy w' v.ownBlock
  at_ : v'.ownBlock = v.ownBlock ∨ v'.ownBlock = some w.heap.size

theorem append_ents {t ts ty : TypeId} {i0 : TypeInfo} (ht : Tryd.prog.underlying ts = some (.slice t)) (hi : Tryd.prog.info? t = some i0) (hz0 : i0.zero = some (.agg #[.int .i64 0, .int .i64 0])) (hz1 : i0.size = 2) (hz2 : i0.bytes = 16)
    (w : World) (base : Nat) (v x : Value) (l m : List En) (hown : OwnE t w base v l) (hb : Ents w x m) (hn : l.length + m.length ≤ 1000) (hbase : base ≤ w.heap.size) :
    ∃ v' w', (Builtin.append_ #[ts, ts] ty #[v, x]).run Tryd.prog w = .ok v' w' ∧ GrewE t w v base w' v' (l ++ m) := by
  obtain ⟨ao, cap, g, off, rfl, h2, h3, h4, h5, h6, h7, h8⟩ := hb
  have hall : ∀ e ∈ l ++ m, enOk e := by
    intro b hb
    rcases List.mem_append.1 hb with h | h
    · exact hown.2.1 b h
    · exact h4 b h
  cases ao with
  | none =>
    have hy : m = [] := by
      rcases Nat.eq_zero_or_pos m.length with h | h
      · exact List.length_eq_zero_iff.1 h
      · cases h2 h
    subst hy
    obtain rfl := h6 rfl
    exact ⟨v, w, run_append_owned_none (P := Tryd.prog) (w := w) base ts ty t i0 2 ht hi v l.length _ hown.1, ⟨by simpa using hown, grownBy_refl _ _, .inl rfl⟩⟩
  | some ad =>
    have hnews : ∀ j u, (cellsE m)[j]? = some u → w.cell? (ad.add j) = some u := by
      intro j u hu
      obtain ⟨e, hb1, hor⟩ := cellsE_cell hu
      have hpos : 0 < m.length := by
        rcases Nat.eq_zero_or_pos m.length with h | h
        · rw [List.length_eq_zero_iff.1 h] at hb1; cases hb1
        · exact h
      have ead := Option.some.inj (h2 hpos)
      subst ead
      have ea : (⟨g, off, none⟩ : Addr).add j = ⟨g, off + j, none⟩ := by unfold Addr.add; split <;> simp_all
      rw [ea]
      obtain ⟨c0, c1⟩ := h3 _ e hb1
      rcases hor with ⟨hj, rfl⟩ | ⟨hj, rfl⟩
      · rw [hj]; exact c0
      · rw [hj, ← Nat.add_assoc]; exact c1
    obtain ⟨v', w', hr, ho, hg, -, hat⟩ := run_append_own_at (P := Tryd.prog) w base ts ty t i0 (.agg #[.int .i64 0, .int .i64 0]) 2 16 ht hi hz0 hz1 hz2 rfl (by decide) v l.length (cellsE l) hown.1 ad m.length cap (cellsE m) (cellsE_length m) hnews
      (fun u hu => cellsE_mem hu) (by unfold maxLen; omega) (by omega) hbase
    exact ⟨v', w', hr, ⟨⟨by rw [cellsE_append, List.length_append]; exact ho, hall, by simpa using hn⟩, hg, hat⟩⟩
theorem infoE : (Tryd.prog.info? 56).map (fun i => (i.zero, i.size, i.bytes)) = some (some (.agg #[.int .i64 0, .int .i64 0]), 2, 16) := by kernel_rfl
theorem append_e (w : World) (ty : TypeId) (base : Nat) (v x : Value) (l m : List En) (hown : OwnE 56 w base v l) (hb : Ents w x m) (hn : l.length + m.length ≤ 1000) (hbase : base ≤ w.heap.size) :
    ∃ v' w', (Builtin.append_ #[53, 53] ty #[v, x]).run Tryd.prog w = .ok v' w' ∧ GrewE 56 w v base w' v' (l ++ m) := by
  obtain ⟨i0, hi, hi2⟩ := Option.map_eq_some_iff.1 infoE
  simp only [Prod.mk.injEq] at hi2
  exact append_ents Tryd.underlying53 hi hi2.1 hi2.2.1 hi2.2.2 w base v x l m hown hb hn hbase
/-- A literal of one entry. -/
theorem ents_lit (w : World) (t : TypeId) (e : En) (he : enOk e) : Ents (w.alloc (.cells #[.int .i64 e.1, .int .i64 e.2] t)) (.slice (some ⟨w.heap.size, 0, none⟩) 1 1) [e] := by
  refine ⟨_, _, w.heap.size, 0, rfl, fun _ => rfl, fun i x hx => ?_, by simpa using he, by simp, by simp, by simp, by unfold maxLen; omega⟩
  obtain ⟨rfl, rfl⟩ : i = 0 ∧ x = e := by
    cases i with
    | zero => exact ⟨rfl, by simpa using hx.symm⟩
    | succ i => simp at hx
  rw [cell_of_row _ _ _ _ _ _ (heap_alloc_new w _), cell_of_row _ _ _ _ _ _ (heap_alloc_new w _)]
  exact ⟨rfl, rfl⟩
theorem wpList_append_e {w : World} {ops : Array Oper} {rest : List Oper} {o : Oper} {a : Act} {Q : Exit → Act → World → Prop} (hgd : o.guard = none) (s x : Operand)
    (ho : o.op = .call { callee := .builtin .append, args := #[s, x], argTypes := #[53, 53] })
    (base : Nat) (v u : Value) (l m : List En) (hs : a.eval s = v) (hx : a.eval x = u) (hown : OwnE 56 w base v l) (hb : Ents w u m) (hn : l.length + m.length ≤ 1000) (hbase : base ≤ w.heap.size)
    (h : ∀ v' w', GrewE 56 w v base w' v' (l ++ m) → wpList Tryd.prog ops Q rest (a.put o.dst v') w') : wpList Tryd.prog ops Q (o :: rest) a w := by
  refine wpList_plain hgd fun K hK => ?_
  obtain ⟨v', w', hr, h1⟩ := append_e w o.type base v u l m hown hb hn hbase
  unfold Oper.wp
  simp [execOp, ho, resolve, invoke, builtin, hs, hx, hr, Result.andThen]
  exact hK _ _ (h v' w' h1)
theorem GrewE.below {t : TypeId} {w : World} {v : Value} {base : Nat} {w' : World} {v' : Value} {l : List En} (h : GrewE t w v base w' v' l) {B : Nat} (hB : B ≤ w.heap.size) (h0 : ∀ k, v.ownBlock = some k → B ≤ k) : Below B w w' := (Below.refl B w).grown h.grown hB h0
end Go.Proofs.YtcidadikmmdalaaDoor
