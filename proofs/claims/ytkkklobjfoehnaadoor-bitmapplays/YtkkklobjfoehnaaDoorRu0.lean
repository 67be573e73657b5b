/- What stretches have in them. -/
import Derived.Test.YtkkklobjfoehnaaDoorRu
namespace Go.Proofs.YtkkklobjfoehnaaDoor
open Go.RowKit Go.Extern

/-- How many are set from 'a' on. -/
def cntFrom (l : List Bool) (a : Nat) : Nat := (l.drop a).count true
theorem cntFrom_step {l : List Bool} {a : Nat} (h : a < l.length) : cntFrom l a = (if l.getD a false then 1 else 0) + cntFrom l (a + 1) := by
  unfold cntFrom
  rw [List.drop_eq_getElem_cons h, List.count_cons]
  have : l.getD a false = l[a] := by simp [List.getD, h]
  rw [this]
  cases l[a] <;> simp; omega
theorem cntFrom_skip {l : List Bool} : ∀ (d a : Nat), a + d ≤ l.length → (∀ q, a ≤ q → q < a + d → l.getD q false ≠ true) → cntFrom l a = cntFrom l (a + d)
  | 0, a, _, _ => rfl
  | d + 1, a, hl, h => by
    rw [cntFrom_step (by omega)]
    have h0 := h a (Nat.le_refl _) (by omega)
    rw [if_neg h0, Nat.zero_add, cntFrom_skip d (a + 1) (by omega) (fun q h1 h2 => h q (by omega) (by omega))]
    congr 1; omega
theorem cntFrom_run {l : List Bool} : ∀ (d a : Nat), a + d ≤ l.length → (∀ q, a ≤ q → q < a + d → l.getD q false = true) → cntFrom l a = d + cntFrom l (a + d)
  | 0, a, _, _ => by simp
  | d + 1, a, hl, h => by
    rw [cntFrom_step (by omega)]
    have h0 := h a (Nat.le_refl _) (by omega)
    rw [if_pos h0, cntFrom_run d (a + 1) (by omega) (fun q h1 h2 => h q (by omega) (by omega))]
    have : a + 1 + d = a + (d + 1) := by omega
    rw [this]; omega
theorem cntFrom_end (l : List Bool) {a : Nat} (h : l.length ≤ a) : cntFrom l a = 0 := by
  unfold cntFrom; rw [List.drop_of_length_le h]; rfl
theorem cntFrom_none {l : List Bool} {a : Nat} (h : firstS l a true = none) : cntFrom l a = 0 := by
  rcases Nat.lt_or_ge a l.length with q | q
  · rw [cntFrom_skip (l.length - a) a (by omega) (fun z h1 h2 => firstS_none.1 h z h1 (by omega))]
    exact cntFrom_end l (by omega)
  · exact cntFrom_end l q
theorem cntFrom_zero (l : List Bool) : cntFrom l 0 = l.count true := rfl
/-- One stretch: what stands in it, ahead of it and behind it. -/
structure Run1 (l : List Bool) (a f z : Nat) : Prop where
  next : firstS l a true = some f
  lt : f < z
  le : z ≤ l.length
  on : ∀ q, f ≤ q → q < z → l.getD q false = true
  off : ∀ q, a ≤ q → q < f → l.getD q false = false
  stop : hasS l (z : Int) = false
  open_ : firstS l f false = some z ∨ (firstS l f false = none ∧ z = l.length)
theorem run1 {l : List Bool} {a f z : Nat} (h : firstS l a true = some f) (hz : endS l f = z) : Run1 l a f z := by
  obtain ⟨g1, g2⟩ := endS_gt h
  obtain ⟨h1, h2, h3, h4⟩ := firstS_some.1 h
  rw [hz] at g1 g2
  unfold endS at hz
  cases hq : firstS l f false with
  | none =>
    rw [hq] at hz
    obtain rfl : l.length = z := hz
    refine ⟨h, g1, g2, fun q a1 a2 => by have := firstS_none.1 hq q a1 a2; simpa using this, fun q a1 a2 => by have := h4 q a1 a2; simpa using this, hasS_out (by unfold inB; simp), .inr ⟨hq, rfl⟩⟩
  | some y =>
    rw [hq] at hz
    obtain rfl : y = z := hz
    obtain ⟨k1, k2, k3, k4⟩ := firstS_some.1 hq
    refine ⟨h, g1, g2, fun q a1 a2 => by have := k4 q a1 a2; simpa using this, fun q a1 a2 => by have := h4 q a1 a2; simpa using this, by rw [hasS_nat]; exact k3, .inl hq⟩
theorem Run1.cnt {l : List Bool} {a f z : Nat} (h : Run1 l a f z) : cntFrom l a = (z - f) + cntFrom l z := by
  have ha := (firstS_some.1 h.next).1
  have e1 := cntFrom_skip (l := l) (f - a) a (by have := h.le; have := h.lt; omega) (fun q h1 h2 => by rw [h.off q h1 (by omega)]; decide)
  rw [show a + (f - a) = f by omega] at e1
  have e2 := cntFrom_run (l := l) (z - f) f (by have := h.le; have := h.lt; omega) (fun q h1 h2 => h.on q h1 (by omega))
  rw [show f + (z - f) = z by have := h.lt; omega] at e2
  rw [e1, e2]
/-- Ahead of a stretch stands a clear number, or none. -/
theorem Run1.ahead {l : List Bool} {a f z : Nat} (h : Run1 l a f z) (ha : a = 0 ∨ hasS l (a : Int) = false) : hasS l ((f : Int) - 1) = false := by
  have haf := (firstS_some.1 h.next).1
  have hf : l.getD f false = true := h.on f (Nat.le_refl _) h.lt
  rcases Nat.eq_zero_or_pos f with e | e
  · subst e; unfold hasS; simp
  · have ef : ((f : Int) - 1) = ((f - 1 : Nat) : Int) := by omega
    rw [ef, hasS_nat]
    have : a ≤ f - 1 := by
      rcases ha with h0 | h0
      · omega
      · rcases Nat.lt_or_ge a f with q | q
        · omega
        · obtain rfl : a = f := by omega
          rw [hasS_nat, hf] at h0; cases h0
    exact h.off _ this (by omega)
theorem Run1.last {l : List Bool} {a f z : Nat} (h : Run1 l a f z) : hasS l ((z : Int) - 1) = true := by
  have e : ((z : Int) - 1) = ((z - 1 : Nat) : Int) := by have := h.lt; omega
  rw [e, hasS_nat]
  exact h.on _ (by have := h.lt; omega) (by have := h.lt; omega)
/-- A bitmap, its stretches and one of them in a variable. -/
structure RuS (w : World) (F : Nat → Prop) (b : Nat) (l : List Bool) (s : Nat) (u : Value) (rs : List (Nat × Nat)) (rb f k : Nat) (wx : World) : Prop where
  own : OwnE 50 wx s u (enR rs)
  bm : Bm wx F b l
  bel : Below w.heap.size w wx
  r0 : wx.cell? ⟨rb, 0, none⟩ = some (.int .i64 (f : Int))
  r1 : wx.cell? ⟨rb, 1, none⟩ = some (.int .i64 (k : Int))
theorem RuS.below {w : World} {F : Nat → Prop} {b : Nat} {l : List Bool} {s : Nat} {u : Value} {rs : List (Nat × Nat)} {rb f k : Nat} {wx wy : World} (h : RuS w F b l s u rs rb f k wx) (hb : Below wx.heap.size wx wy) : RuS w F b l s u rs rb f k wy :=
  ⟨h.own.below hb, h.bm.below hb, below_next h.bel hb, by rw [hb.cell (cell_lt h.r0)]; exact h.r0, by rw [hb.cell (cell_lt h.r1)]; exact h.r1⟩
theorem RuS.start {w : World} {F : Nat → Prop} {b : Nat} {l : List Bool} {s : Nat} {u : Value} {rs : List (Nat × Nat)} {wr : World} (f k : Nat) (ho : OwnE 50 wr s u (enR rs)) (hm : Bm wr F b l) (hb : Below w.heap.size w wr) : RuS w F b l s u rs wr.heap.size f k (wr.alloc (.cells #[.int .i64 (f : Int), .int .i64 (k : Int)] 50)) :=
  ⟨ho.below (bel_alloc _ _), hm.below (bel_alloc _ _), below_next hb (bel_alloc _ _), by rw [cell_of_row _ _ _ _ _ _ (heap_alloc_new wr _)]; rfl, by rw [cell_of_row _ _ _ _ _ _ (heap_alloc_new wr _)]; rfl⟩
/-- One stretch of a slice of stretches. -/
theorem run_at {w : World} {s : Nat} {u : Value} {rs : List (Nat × Nat)} (h : OwnE 50 w s u (enR rs)) {j f k : Nat} (hj : rs[j]? = some (f, k)) : ∃ g off cap, u = .slice (some ⟨g, off, none⟩) rs.length cap ∧ w.cell? ⟨g, off + j * 2, none⟩ = some (.int .i64 (f : Int)) ∧ w.cell? ⟨g, off + j * 2 + 1, none⟩ = some (.int .i64 (k : Int)) := by
  obtain ⟨ao, cap, g, off, hv, h2, h3, -⟩ := h.ents
  rw [enR_length] at hv h2
  have hlt := (List.getElem?_eq_some_iff.1 hj).1
  obtain rfl := h2 (by omega)
  have := h3 j ((f : Int), (k : Int)) (by unfold enR; rw [List.getElem?_map, hj]; rfl)
  exact ⟨g, off, cap, hv, this.1, this.2⟩
end Go.Proofs.YtkkklobjfoehnaaDoor
