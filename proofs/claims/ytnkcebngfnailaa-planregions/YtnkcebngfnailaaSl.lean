/- Slices of one-cell elements. -/
import Derived.Test.YtnkcebngfnailaaCore
import Derived.Laws.AppendOwnNone
import Derived.Deep.MidRow
import Derived.Deep.WholeRow
namespace Go.Proofs.Ytnkcebngfnailaa
open Go.RowKit Go.Extern

/-- A number of 64 bits. -/
def I64 (k : Int) : Prop := -9223372036854775808 ≤ k ∧ k < 9223372036854775808
theorem I64.wf {k : Int} (h : I64 k) : (Lit.int .i64 k).wf = true := by
  simp only [Lit.wf, IntKind.min, IntKind.max, IntKind.bits, IntKind.signed]; unfold I64 at h; simp; omega
theorem I64.of_wf {k : Int} (h : (Lit.int .i64 k).wf = true) : I64 k := by
  have : (-9223372036854775808 : Int) ≤ k ∧ k ≤ 9223372036854775807 := by simpa [Lit.wf, IntKind.min, IntKind.max, IntKind.bits, IntKind.signed] using h
  unfold I64; omega

theorem heap_lt {w : World} {k : Nat} {o : Obj} (h : w.heap[k]? = some o) : k < w.heap.size := (Array.getElem?_eq_some_iff.1 h).1
theorem add_plain (b off i : Nat) : (⟨b, off, none⟩ : Addr).add i = ⟨b, off + i, none⟩ := by unfold Addr.add; split <;> simp_all
/-- The value 'v' is, in the world 'w', a slice of the cells 'xs'. -/
def Row (w : World) (v : Value) (xs : List Value) : Prop :=
  ∃ ao cap g off, v = .slice ao xs.length cap ∧ (0 < xs.length → ao = some ⟨g, off, none⟩) ∧ (∀ (i : Nat) u, xs[i]? = some u → w.cell? ⟨g, off + i, none⟩ = some u) ∧
    xs.length ≤ 140737488355328 ∧ (ao = none → cap = 0) ∧ xs.length ≤ cap ∧ cap ≤ maxLen
theorem Row.below {w w' : World} (hb : Below w.heap.size w w') {v : Value} {xs : List Value} (h : Row w v xs) : Row w' v xs := by
  obtain ⟨ao, cap, g, off, h1, h2, h3, h4⟩ := h
  exact ⟨ao, cap, g, off, h1, h2, fun i q hq => by rw [hb.cell (cell_lt (h3 i q hq))]; exact h3 i q hq, h4⟩
theorem Row.len {w : World} {v : Value} {xs : List Value} (h : Row w v xs) : xs.length ≤ 140737488355328 := by
  obtain ⟨ao, cap, g, off, h1, h2, h3, h4, -⟩ := h; exact h4
theorem Row.nil (w : World) : Row w (.slice none 0 0) [] := ⟨none, 0, 0, 0, rfl, by simp, by simp, by simp, by simp, by simp, by simp⟩
theorem Row.form {w : World} {v : Value} {xs : List Value} (h : Row w v xs) : ∃ ao cap, v = .slice ao xs.length cap := by
  obtain ⟨ao, cap, g, off, rfl, -⟩ := h; exact ⟨_, _, rfl⟩
/-- What is owned stays so where its block is as it was. -/
theorem ownsRow_of_block {w w' : World} {base : Nat} {e : TypeId} {size : Nat} {v : Value} {n : Nat} {xs : List Value} (h : w.ownsRow base e size v n xs) (hk : ∀ k o, v.ownBlock = some k → w.heap[k]? = some o → w'.heap[k]? = some o) : w'.ownsRow base e size v n xs := by
  obtain ⟨h1, h2⟩ := h
  refine ⟨h1, ?_⟩
  rcases h2 with h2 | ⟨g, cap, cur, rfl, hg, hh, r⟩
  · exact Or.inl h2
  · exact Or.inr ⟨g, cap, cur, rfl, hg, hk g _ rfl hh, r⟩
theorem ownsRow_base {w : World} {base base' : Nat} {e : TypeId} {size : Nat} {v : Value} {n : Nat} {xs : List Value} (h : w.ownsRow base e size v n xs) (hb : base' ≤ base) : w.ownsRow base' e size v n xs := by
  obtain ⟨h1, h2⟩ := h
  refine ⟨h1, ?_⟩
  rcases h2 with h2 | ⟨g, cap, cur, rfl, hg, hh, r⟩
  · exact Or.inl h2
  · exact Or.inr ⟨g, cap, cur, rfl, by omega, hh, r⟩
theorem ownsRow_below {w w' : World} {base : Nat} {e : TypeId} {size : Nat} {v : Value} {n : Nat} {xs : List Value} (h : w.ownsRow base e size v n xs) (hb : Below w.heap.size w w') : w'.ownsRow base e size v n xs :=
  ownsRow_of_block h fun k o _ ho => by rw [hb.block k (heap_lt ho)]; exact ho
theorem ownsRow_form {w : World} {base : Nat} {e : TypeId} {size : Nat} {v : Value} {n : Nat} {xs : List Value} (h : w.ownsRow base e size v n xs) : ∃ ao cap, v = .slice ao n cap := by
  rcases h.2 with ⟨rfl, rfl⟩ | ⟨g, cap, cur, rfl, -⟩
  · exact ⟨_, _, rfl⟩
  · exact ⟨_, _, rfl⟩
theorem ownsRow_pos {w : World} {base : Nat} {e : TypeId} {size : Nat} {v : Value} {n : Nat} {xs : List Value} (h : w.ownsRow base e size v n xs) (hn : 0 < n) :
    ∃ g cap cur, v = .slice (some ⟨g, 0, none⟩) n cap ∧ w.heap[g]? = some (.cells cur e (0, 0)) ∧ n ≤ cap ∧ cap ≤ maxLen ∧ cur.size = cap * size ∧ cur.toList.take (n * size) = xs ∧ base ≤ g := by
  rcases h.2 with ⟨rfl, rfl⟩ | ⟨g, cap, cur, rfl, h1, h2, h3, h4, h5, h6⟩
  · omega
  · exact ⟨g, cap, cur, rfl, h2, h3, h4, h5, h6, h1⟩
theorem ownsRow_row {w : World} {base : Nat} {e : TypeId} {v : Value} {xs : List Value} (h : w.ownsRow base e 1 v xs.length xs) (hl : xs.length ≤ 140737488355328) : Row w v xs := by
  rcases h.2 with ⟨rfl, h0⟩ | ⟨g, cap, cur, rfl, hg, hh, hc, hm, hs, ht⟩
  · rw [List.length_eq_zero_iff.1 h0]; exact Row.nil w
  · refine ⟨_, cap, g, 0, rfl, fun _ => rfl, fun i u hu => ?_, hl, by simp, hc, hm⟩
    have := World.ownsRow.cells (w := w) (base := base) (e := e) (size := 1) (v := .slice (some ⟨g, 0, none⟩) xs.length cap) (n := xs.length) (xs := xs) h (g := g) rfl i _ hu
    rw [add_plain] at this; exact this
theorem set_cell_row {w : World} {g j : Nat} {cur : Array Value} {T : TypeId} (h : w.heap[g]? = some (.cells cur T (0, 0))) (u : Value) :
    (w.setCell ⟨g, j, none⟩ u).heap[g]? = some (.cells (cur.setIfInBounds j u) T (0, 0)) := by
  have e1 := setCell_eq_setRow w g j _ _ _ u h
  have h1 := setRow_heap w g _ (cur.setIfInBounds j u) _ _ h
  rw [← e1] at h1
  exact h1
/-- One element of a slice of one's own is stored. -/
theorem ownsRow_store {w : World} {base : Nat} {e : TypeId} {v : Value} {xs : List Value} (h : w.ownsRow base e 1 v xs.length xs) {i : Nat} (hi : i < xs.length) (u : Value) :
    ∃ g cap, v = .slice (some ⟨g, 0, none⟩) xs.length cap ∧ xs.length ≤ cap ∧ (w.setCell ⟨g, i, none⟩ u).ownsRow base e 1 v xs.length (xs.set i u) ∧ ∃ cur, w.heap[g]? = some (.cells cur e (0, 0)) ∧ i < cur.size := by
  obtain ⟨g, cap, cur, rfl, hh, hc, hm, hs, ht, hg⟩ := ownsRow_pos h (by omega)
  rw [Nat.mul_one] at hs ht
  refine ⟨g, cap, rfl, hc, ⟨by simp, Or.inr ⟨g, cap, cur.setIfInBounds i u, rfl, hg, ?_, hc, hm, by simp [hs], ?_⟩⟩, cur, hh, by omega⟩
  · exact set_cell_row hh _
  · rw [Nat.mul_one]
    simp only [Array.toList_setIfInBounds]
    rw [List.take_set, ht]
theorem grownBy_refl (w : World) (row : Option Nat) : w.grownBy w row := ⟨rfl, rfl, rfl, Nat.le_refl _, fun _ _ _ => rfl⟩
/-- What an append onto a slice of one's own leaves. -/
structure Grew (t : TypeId) (w : World) (v : Value) (base : Nat) (w' : World) (v' : Value) (xs : List Value) : Prop where
  own : w'.ownsRow base t 1 v' xs.length xs
  grown : w.grownBy w' v.ownBlock
  at_ : v'.ownBlock = v.ownBlock ∨ v'.ownBlock = some w.heap.size
theorem Grew.below {t : TypeId} {w : World} {v : Value} {base : Nat} {w' : World} {v' : Value} {xs : List Value} (h : Grew t w v base w' v' xs) {B : Nat} (hB : B ≤ w.heap.size) (h0 : ∀ k, v.ownBlock = some k → B ≤ k) : Below B w w' := (Below.refl B w).grown h.grown hB h0
theorem append_row {P : Program} {t ts ty : TypeId} {i0 : TypeInfo} {z : Value} {by_ : Nat} (ht : P.underlying ts = some (.slice t)) (hi : P.info? t = some i0) (hz0 : i0.zero = some z) (hz1 : i0.size = 1) (hz2 : i0.bytes = by_) (hzc : z.cells.size = 1) (hby : by_ ≤ 8)
    (w : World) (base : Nat) (v x : Value) (xs ys : List Value) (hown : w.ownsRow base t 1 v xs.length xs) (hb : Row w x ys) (hone : ∀ u ∈ ys, u.oneCell' = true) (hn : xs.length + ys.length ≤ 10000000000) (hbase : base ≤ w.heap.size) :
    ∃ v' w', (Builtin.append_ #[ts, ts] ty #[v, x]).run P w = .ok v' w' ∧ Grew t w v base w' v' (xs ++ ys) := by
  obtain ⟨ao, cap, g, off, rfl, h2, h3, h5, h6, h7, h8⟩ := hb
  cases ao with
  | none =>
    have hy : ys = [] := by
      rcases Nat.eq_zero_or_pos ys.length with h | h
      · exact List.length_eq_zero_iff.1 h
      · cases h2 h
    subst hy
    obtain rfl := h6 rfl
    exact ⟨v, w, run_append_owned_none (P := P) (w := w) base ts ty t i0 1 ht hi v xs.length _ hown, ⟨by simpa using hown, grownBy_refl _ _, .inl rfl⟩⟩
  | some ad =>
    have hnews : ∀ j u, ys[j]? = some u → w.cell? (ad.add j) = some u := by
      intro j u hu
      have hpos : 0 < ys.length := by
        rcases Nat.eq_zero_or_pos ys.length with h | h
        · rw [List.length_eq_zero_iff.1 h] at hu; cases hu
        · exact h
      have e := Option.some.inj (h2 hpos)
      subst e
      rw [add_plain]; exact h3 j u hu
    obtain ⟨v', w', hr, ho, hg, -, hat⟩ := run_append_own_at (P := P) w base ts ty t i0 z 1 by_ ht hi hz0 hz1 hz2 hzc (by omega) v xs.length xs hown ad ys.length cap ys (by simp) hnews hone (by unfold maxLen; omega) (by have : (xs.length + ys.length) * by_ ≤ 10000000000 * 8 := Nat.mul_le_mul hn hby; omega) hbase
    exact ⟨v', w', hr, ⟨by rw [List.length_append]; exact ho, hg, hat⟩⟩
theorem lit_row (w : World) (base : Nat) (t : TypeId) (xs : List Value) (hb : base ≤ w.heap.size) (hl : xs.length ≤ 1000000) : (w.alloc (.cells xs.toArray t)).ownsRow base t 1 (.slice (some ⟨w.heap.size, 0, none⟩) xs.length xs.length) xs.length xs := by
  have := World.ownsRow_lit (base := base) (e := t) (size := 1) w xs.toArray xs.length hb (by unfold maxLen; omega) (by simp)
  simpa using this

/-- Of what was there nothing has turned but blocks of 'F'. -/
structure Turn (F : Nat → Prop) (w w' : World) : Prop where
  os : w'.os = w.os
  tape : w'.tape = w.tape
  output : w'.output = w.output
  size : w.heap.size ≤ w'.heap.size
  block : ∀ k, k < w.heap.size → ¬ F k → w'.heap[k]? = w.heap[k]?
theorem Turn.refl (F : Nat → Prop) (w : World) : Turn F w w := ⟨rfl, rfl, rfl, Nat.le_refl _, fun _ _ _ => rfl⟩
theorem Turn.trans {F F1 : Nat → Prop} {w w1 w2 : World} (h : Turn F w w1) (k : Turn F1 w1 w2) (hF : ∀ i, i < w.heap.size → F1 i → F i) : Turn F w w2 :=
  ⟨k.os.trans h.os, k.tape.trans h.tape, k.output.trans h.output, Nat.le_trans h.size k.size, fun i hi hn => by
    rw [k.block i (Nat.lt_of_lt_of_le hi h.size) (fun e => hn (hF i hi e)), h.block i hi hn]⟩
theorem Turn.of_below {F : Nat → Prop} {w w' : World} (h : Below w.heap.size w w') : Turn F w w' := ⟨h.os, h.tape, h.output, h.size, fun k hk _ => h.block k hk⟩
theorem Turn.of_grown {F : Nat → Prop} {w w' : World} {row : Option Nat} (h : w.grownBy w' row) (hr : ∀ k, row = some k → F k) : Turn F w w' :=
  ⟨h.os, h.tape, h.output, h.size, fun k hk hn => h.block k hk (fun e => hn (hr k e.symm))⟩
theorem Turn.below {F : Nat → Prop} {w w' : World} {B : Nat} (h : Turn F w w') (hB : B ≤ w.heap.size) (hF : ∀ k, F k → B ≤ k) : Below B w w' :=
  ⟨h.os, h.tape, h.output, h.size, fun k hk => h.block k (by omega) (fun e => by have := hF k e; omega)⟩
/-- Blocks of 'F', and those that are new. -/
def ext (F : Nat → Prop) (w w' : World) (k : Nat) : Prop := F k ∨ (w.heap.size ≤ k ∧ k < w'.heap.size)
end Go.Proofs.Ytnkcebngfnailaa
