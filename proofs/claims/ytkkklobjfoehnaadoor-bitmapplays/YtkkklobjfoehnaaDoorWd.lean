/- Words of bits, and the flags that they stand for. -/
import Derived.Test.YtkkklobjfoehnaaDoorPop
namespace Go.Proofs.YtkkklobjfoehnaaDoor

/-- The bit of a number. -/
def bitAt (ws : List Nat) (i : Nat) : Bool := (ws.getD (i / 64) 0).testBit (i % 64)
/-- The words 'ws' stand for the flags 'l'. -/
structure IsMap (ws : List Nat) (l : List Bool) : Prop where
  len : ws.length = (l.length + 63) / 64
  lt : ∀ x ∈ ws, x < 18446744073709551616
  bit : ∀ i, bitAt ws i = l.getD i false
theorem isMap_nil : IsMap [] [] := ⟨rfl, fun x hx => (List.not_mem_nil hx).elim, fun i => by simp [bitAt]⟩
theorem IsMap.word {ws : List Nat} {l : List Bool} (h : IsMap ws l) {i : Nat} (hi : i < l.length) : ∃ x, ws[i / 64]? = some x ∧ x < 18446744073709551616 ∧ ws.getD (i / 64) 0 = x := by
  have hl := h.len
  have hk : i / 64 < ws.length := by omega
  exact ⟨ws[i / 64], by simp [hk], h.lt _ (List.getElem_mem hk), by simp [List.getD, hk]⟩

theorem cnt_flags : ∀ (k x : Nat) (l : List Bool), l.length ≤ k → (∀ i, i < k → x.testBit i = l.getD i false) → cnt k x = l.count true
  | 0, x, l, hl, _ => by
    have : l = [] := List.length_eq_zero_iff.1 (by omega)
    subst this; rfl
  | k + 1, x, l, hl, h => by
    have h0 := h 0 (by omega)
    rw [Nat.testBit_zero] at h0
    match l, hl, h, h0 with
    | [], _, h, h0 =>
      have ih := cnt_flags k (x / 2) [] (by simp) (fun i hi => by have := h (i + 1) (by omega); rw [Nat.testBit_succ] at this; simpa using this)
      simp at h0
      simp only [cnt, ih]
      simp; omega
    | b :: t, hl, h, h0 =>
      have ih := cnt_flags k (x / 2) t (by simp at hl; omega) (fun i hi => by have := h (i + 1) (by omega); rw [Nat.testBit_succ] at this; simpa using this)
      simp only [cnt, ih, List.count_cons]
      simp only [List.getD_cons_zero] at h0
      subst h0
      by_cases hx : x % 2 = 1
      · simp [hx]; omega
      · have : x % 2 = 0 := by omega
        simp [this]
theorem map_count : ∀ (ws : List Nat) (l : List Bool), IsMap ws l → (ws.map (cnt 64)).sum = l.count true
  | [], l, h => by
    have := h.len
    have : l = [] := List.length_eq_zero_iff.1 (by simp at this; omega)
    subst this; rfl
  | x :: t, l, h => by
    have hl := h.len
    simp only [List.length_cons] at hl
    have hd : IsMap t (l.drop 64) := by
      refine ⟨by rw [List.length_drop]; omega, fun y hy => h.lt y (List.mem_cons_of_mem _ hy), fun i => ?_⟩
      have := h.bit (i + 64)
      unfold bitAt at this ⊢
      rw [show (i + 64) / 64 = i / 64 + 1 by omega, show (i + 64) % 64 = i % 64 by omega] at this
      simp only [List.getD_cons_succ] at this
      rw [this]
      simp [List.getD, List.getElem?_drop, Nat.add_comm]
    have h1 : cnt 64 x = (l.take 64).count true := by
      apply cnt_flags
      · rw [List.length_take]; omega
      · intro i hi
        have := h.bit i
        unfold bitAt at this
        rw [Nat.div_eq_of_lt hi, Nat.mod_eq_of_lt hi] at this
        simp only [List.getD_cons_zero] at this
        rw [this]
        simp [List.getD, hi]
    rw [List.map_cons, List.sum_cons, map_count t _ hd, h1, ← List.count_append, List.take_append_drop]
theorem count_le_length (l : List Bool) : l.count true ≤ l.length := List.count_le_length

theorem getD_set {α : Type} (ws : List α) (k j : Nat) (x d : α) : (ws.set k x).getD j d = if j = k ∧ k < ws.length then x else ws.getD j d := by
  simp only [List.getD, List.getElem?_set]
  by_cases h : k = j
  · subst h
    by_cases h2 : k < ws.length
    · simp [h2]
    · simp [h2]
  · have : ¬ j = k := fun e => h e.symm
    simp [h, this]
/-- One bit is turned. -/
theorem isMap_turn {ws : List Nat} {l : List Bool} (h : IsMap ws l) {i : Nat} (hi : i < l.length) (b : Bool) (y : Nat) (hy : y < 18446744073709551616)
    (hb : ∀ j, j < 64 → y.testBit j = if j = i % 64 then b else (ws.getD (i / 64) 0).testBit j) : IsMap (ws.set (i / 64) y) (l.set i b) := by
  have hl := h.len
  refine ⟨by simp [hl], fun z hz => ?_, fun j => ?_⟩
  · rcases List.mem_or_eq_of_mem_set hz with h1 | h1
    · exact h.lt z h1
    · rw [h1]; exact hy
  · have hbit := h.bit j
    unfold bitAt at hbit ⊢
    rw [getD_set, getD_set]
    by_cases hj : j / 64 = i / 64
    · rw [if_pos ⟨hj, by omega⟩, hb _ (Nat.mod_lt _ (by decide))]
      by_cases e : j = i
      · subst e; rw [if_pos rfl, if_pos ⟨rfl, hi⟩]
      · rw [if_neg (by omega), if_neg (fun q => e q.1), ← hj, hbit]
    · rw [if_neg (fun q => hj q.1), if_neg (fun q => hj (by rw [q.1])), hbit]
theorem or_bit (x k : Nat) (hx : x < 18446744073709551616) (hk : k < 64) : x ||| 2 ^ k < 18446744073709551616 ∧ ∀ j, j < 64 → (x ||| 2 ^ k).testBit j = if j = k then true else x.testBit j := by
  refine ⟨Nat.or_lt_two_pow (n := 64) hx (Nat.pow_lt_pow_right (by decide) hk), fun j _ => ?_⟩
  rw [Nat.testBit_or, Nat.testBit_two_pow]
  by_cases e : k = j
  · subst e; simp
  · rw [if_neg (fun q => e q.symm)]; simp [e]
/-- A word without one bit. -/
def clr (x k : Nat) : Nat := (BitVec.ofNat 64 x &&& ~~~ BitVec.ofNat 64 (2 ^ k)).toNat
theorem clr_bit (x k : Nat) : clr x k < 18446744073709551616 ∧ ∀ j, j < 64 → (clr x k).testBit j = if j = k then false else x.testBit j := by
  refine ⟨BitVec.isLt _, fun j hj => ?_⟩
  unfold clr
  rw [BitVec.testBit_toNat, BitVec.getLsbD_and, BitVec.getLsbD_not, BitVec.getLsbD_ofNat, BitVec.getLsbD_ofNat, Nat.testBit_two_pow]
  by_cases e : k = j
  · subst e; simp [hj]
  · rw [if_neg (fun q => e q.symm)]; simp [e, hj]
theorem isMap_set {ws : List Nat} {l : List Bool} (h : IsMap ws l) {i : Nat} (hi : i < l.length) : IsMap (ws.set (i / 64) (ws.getD (i / 64) 0 ||| 2 ^ (i % 64))) (l.set i true) := by
  obtain ⟨x, -, hx, e⟩ := h.word hi
  rw [e]
  obtain ⟨h1, h2⟩ := or_bit x (i % 64) hx (Nat.mod_lt _ (by decide))
  exact isMap_turn h hi true _ h1 (fun j hj => by rw [e]; exact h2 j hj)
theorem isMap_clear {ws : List Nat} {l : List Bool} (h : IsMap ws l) {i : Nat} (hi : i < l.length) : IsMap (ws.set (i / 64) (clr (ws.getD (i / 64) 0) (i % 64))) (l.set i false) := by
  obtain ⟨x, -, -, e⟩ := h.word hi
  rw [e]
  obtain ⟨h1, h2⟩ := clr_bit x (i % 64)
  exact isMap_turn h hi false _ h1 (fun j hj => by rw [e]; exact h2 j hj)
theorem isMap_grow {ws : List Nat} {l : List Bool} (h : IsMap ws l) (m : Nat) : IsMap (ws ++ List.replicate ((l.length + m + 63) / 64 - ws.length) 0) (l ++ List.replicate m false) := by
  have hl := h.len
  refine ⟨by simp; omega, fun x hx => ?_, fun i => ?_⟩
  · rcases List.mem_append.1 hx with h1 | h1
    · exact h.lt x h1
    · rw [(List.mem_replicate.1 h1).2]; decide
  · have hb := h.bit i
    unfold bitAt at hb ⊢
    have e1 : (ws ++ List.replicate ((l.length + m + 63) / 64 - ws.length) 0).getD (i / 64) 0 = ws.getD (i / 64) 0 := by
      simp only [List.getD, List.getElem?_append]
      split
      · rfl
      · rename_i hq
        rw [List.getElem?_eq_none (by omega : ws.length ≤ i / 64)]
        rw [List.getElem?_replicate]; split <;> rfl
    rw [e1, hb]
    simp only [List.getD, List.getElem?_append]
    split
    · rfl
    · rename_i hq
      rw [List.getElem?_eq_none (by omega : l.length ≤ i), List.getElem?_replicate]; split <;> rfl
theorem and_bit_ne (x k : Nat) : (x &&& 2 ^ k = 0) ↔ x.testBit k = false := by
  constructor
  · intro h
    have := congrArg (fun n => n.testBit k) h
    simpa [Nat.testBit_and, Nat.testBit_two_pow] using this
  · intro h
    apply Nat.eq_of_testBit_eq
    intro j
    rw [Nat.testBit_and, Nat.testBit_two_pow, Nat.zero_testBit]
    by_cases e : k = j
    · subst e; simp [h]
    · simp [e]

/-- The least number from 'a' on whose flag is 'on'. -/
def firstS (l : List Bool) (a : Nat) (on : Bool) : Option Nat := (List.range l.length).find? fun j => decide (a ≤ j) && (l.getD j false == on)
theorem firstS_some {l : List Bool} {a : Nat} {on : Bool} {k : Nat} : firstS l a on = some k ↔ a ≤ k ∧ k < l.length ∧ l.getD k false = on ∧ ∀ j, a ≤ j → j < k → l.getD j false ≠ on := by
  unfold firstS
  rw [List.find?_range_eq_some]
  simp only [Bool.and_eq_true, decide_eq_true_eq, beq_iff_eq, List.mem_range]
  constructor
  · rintro ⟨⟨h1, h2⟩, h3, h4⟩
    refine ⟨h1, h3, h2, fun j hj hk e => ?_⟩
    have := h4 j hk
    simp [hj] at this
    simp [List.getD] at e
    exact this e
  · rintro ⟨h1, h2, h3, h4⟩
    refine ⟨⟨h1, h3⟩, h2, fun j hj => ?_⟩
    by_cases ha : a ≤ j
    · have := h4 j ha hj
      simp only [Bool.not_eq_true', Bool.and_eq_false_iff]
      right; simpa using this
    · simp [ha]
theorem firstS_none {l : List Bool} {a : Nat} {on : Bool} : firstS l a on = none ↔ ∀ j, a ≤ j → j < l.length → l.getD j false ≠ on := by
  unfold firstS
  rw [List.find?_eq_none]
  simp only [Bool.and_eq_true, decide_eq_true_eq, beq_iff_eq, List.mem_range]
  exact ⟨fun h j hj hk e => h j hk ⟨hj, e⟩, fun h j hk ⟨hj, e⟩ => h j hj hk e⟩

/-- The bits that are looked for. -/
def wantW (on : Bool) (x : Nat) : Nat := if on then x else 18446744073709551615 - x
theorem wantW_lt (on : Bool) (x : Nat) (hx : x < 18446744073709551616) : wantW on x < 18446744073709551616 := by unfold wantW; split <;> omega
theorem wantW_bit (on : Bool) (x j : Nat) (hx : x < 18446744073709551616) (hj : j < 64) : (wantW on x).testBit j = (x.testBit j == on) := by
  unfold wantW
  cases on with
  | true => simp
  | false =>
    rw [if_neg (by decide), show 18446744073709551615 - x = 2 ^ 64 - (x + 1) by omega, Nat.testBit_two_pow_sub_succ hx]
    simp [hj]
theorem ctz_bits (x : Nat) (h0 : x ≠ 0) (h : x < 18446744073709551616) : x.testBit (Lib.ctz 64 x) = true ∧ (∀ j, j < Lib.ctz 64 x → x.testBit j = false) ∧ Lib.ctz 64 x < 64 := by
  obtain ⟨m, hm, hk⟩ := Lib.ctzFrom_spec 64 x (by omega) h
  have e : Lib.ctz 64 x = Lib.ctzFrom 64 x := by simp [Lib.ctz, h0]
  rw [e]
  generalize Lib.ctzFrom 64 x = k at hm hk
  rw [hm, Nat.mul_comm]
  refine ⟨?_, fun j hj => ?_, hk⟩
  · rw [Nat.testBit_mul_two_pow]; simp [Nat.testBit_zero]
  · rw [Nat.testBit_mul_two_pow]; simp; omega
/-- One round of a search. -/
theorem find_round {ws : List Nat} {l : List Bool} (h : IsMap ws l) {a i : Nat} {on : Bool} (ha : a ≤ i) (hn : ∀ j, a ≤ j → j < i → l.getD j false ≠ on) (x rest : Nat) (hx : ws[i / 64]? = some x) (hr : rest = wantW on x / 2 ^ (i % 64)) :
    rest < 18446744073709551616 ∧ (rest ≠ 0 → i + Lib.ctz 64 rest < l.length → firstS l a on = some (i + Lib.ctz 64 rest)) ∧
    ((rest = 0 ∨ l.length ≤ i + Lib.ctz 64 rest) → ∀ j, a ≤ j → j < (i / 64 + 1) * 64 → j < l.length → l.getD j false ≠ on) ∧ Lib.ctz 64 rest ≤ 64 := by
  have hxm : x < 18446744073709551616 := h.lt x (List.mem_of_getElem? hx)
  have hrl : rest < 18446744073709551616 := by
    rw [hr]; exact Nat.lt_of_le_of_lt (Nat.div_le_self _ _) (wantW_lt on x hxm)
  have hbit : ∀ j, i % 64 + j < 64 → rest.testBit j = (l.getD (i + j) false == on) := by
    intro j hj
    have hb := h.bit (i + j)
    unfold bitAt at hb
    rw [show (i + j) / 64 = i / 64 by omega, show (i + j) % 64 = i % 64 + j by omega] at hb
    rw [hr, Nat.testBit_div_two_pow, Nat.add_comm j, wantW_bit on x _ hxm hj, ← hb]
    simp [List.getD, hx]
  have hhigh : ∀ j, 64 ≤ i % 64 + j → rest.testBit j = false := by
    intro j hj
    rw [hr, Nat.testBit_div_two_pow]
    exact Nat.testBit_lt_two_pow (Nat.lt_of_lt_of_le (wantW_lt on x hxm) (show 2 ^ 64 ≤ 2 ^ (j + i % 64) from Nat.pow_le_pow_right (by decide) (by omega)))
  refine ⟨hrl, fun h0 hf => ?_, fun hor j hj hk hjl => ?_, ?_⟩
  · obtain ⟨t1, t2, t3⟩ := ctz_bits rest h0 hrl
    have hin : i % 64 + Lib.ctz 64 rest < 64 := by
      rcases Nat.lt_or_ge (i % 64 + Lib.ctz 64 rest) 64 with q | q
      · exact q
      · rw [hhigh _ q] at t1; cases t1
    refine firstS_some.2 ⟨by omega, hf, ?_, fun j hj hk e => ?_⟩
    · have := hbit _ hin
      rw [t1] at this
      exact (beq_iff_eq.1 this.symm)
    · by_cases hji : j < i
      · exact hn j hj hji e
      · have := hbit (j - i) (by omega)
        rw [t2 _ (by omega), show i + (j - i) = j by omega] at this
        rw [e] at this; simp at this
  · by_cases hji : j < i
    · exact hn j hj hji
    · intro e
      have hbj := hbit (j - i) (by omega)
      rw [show i + (j - i) = j by omega, e] at hbj
      simp only [beq_self_eq_true] at hbj
      have h0 : rest ≠ 0 := fun z => by rw [z] at hbj; simp at hbj
      rcases hor with hz | hz
      · exact h0 hz
      · obtain ⟨t1, t2, t3⟩ := ctz_bits rest h0 hrl
        rw [t2 _ (by omega)] at hbj
        cases hbj
  · by_cases h0 : rest = 0
    · rw [h0]; decide
    · have := (ctz_bits rest h0 hrl).2.2; omega
end Go.Proofs.YtkkklobjfoehnaaDoor
