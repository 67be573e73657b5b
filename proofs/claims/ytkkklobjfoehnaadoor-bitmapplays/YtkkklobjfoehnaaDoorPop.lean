/- How many bits of a word are set: the sum in steps is the count of the bits, one by one. -/
import Derived.Lib.TrailingZeros
namespace Go.Proofs.YtkkklobjfoehnaaDoor

/-- How many of the lowest 'k' bits are set. -/
def cnt : Nat → Nat → Nat
  | 0, _ => 0
  | k + 1, x => x % 2 + cnt k (x / 2)
theorem cnt_le : ∀ k x, cnt k x ≤ k
  | 0, _ => Nat.le_refl _
  | k + 1, x => by have := cnt_le k (x / 2); simp only [cnt]; omega
theorem cnt_split : ∀ j k x, cnt (j + k) x = cnt j x + cnt k (x / 2 ^ j)
  | 0, k, x => by simp [cnt]
  | j + 1, k, x => by
    have := cnt_split j k (x / 2)
    rw [show j + 1 + k = (j + k) + 1 by omega]
    simp only [cnt]
    rw [this, Nat.div_div_eq_div_mul, Nat.pow_succ, Nat.mul_comm 2]
    omega
theorem cnt_low : ∀ j x y, cnt j (x + 2 ^ j * y) = cnt j x
  | 0, _, _ => rfl
  | j + 1, x, y => by
    have e : (x + 2 ^ (j + 1) * y) / 2 = x / 2 + 2 ^ j * y := by
      rw [Nat.pow_succ, Nat.mul_comm (2 ^ j) 2, Nat.mul_assoc]; omega
    have e2 : (x + 2 ^ (j + 1) * y) % 2 = x % 2 := by
      rw [Nat.pow_succ, Nat.mul_comm (2 ^ j) 2, Nat.mul_assoc]; omega
    simp only [cnt]
    rw [e, e2, cnt_low j (x / 2) y]
theorem cnt_byte (k b h : Nat) (hb : b < 256) : cnt (8 + k) (b + 256 * h) = cnt 8 b + cnt k h := by
  rw [cnt_split, show b + 256 * h = b + 2 ^ 8 * h by omega, cnt_low]
  congr 2
  omega

/-- A word out of its bytes. -/
def val : List Nat → Nat
  | [] => 0
  | b :: t => b + 256 * val t
def Bys (l : List Nat) : Prop := ∀ b ∈ l, b < 256
theorem Bys.tail {b : Nat} {l : List Nat} (h : Bys (b :: l)) : Bys l := fun x hx => h x (List.mem_cons_of_mem _ hx)
theorem Bys.head {b : Nat} {l : List Nat} (h : Bys (b :: l)) : b < 256 := h b List.mem_cons_self
theorem val_lt : ∀ l, Bys l → val l < 256 ^ l.length
  | [], _ => by simp [val]
  | b :: t, h => by
    have := val_lt t h.tail
    have hb := h.head
    simp only [val, List.length_cons, Nat.pow_succ]
    omega
theorem val_of : ∀ (k x : Nat), x < 256 ^ k → ∃ l, l.length = k ∧ Bys l ∧ val l = x
  | 0, x, h => ⟨[], rfl, ⟨fun b hb => (List.not_mem_nil hb).elim, by simp only [Nat.pow_zero] at h; simp only [val]; omega⟩⟩
  | k + 1, x, h => by
    obtain ⟨l, h1, h2, h3⟩ := val_of k (x / 256) (by rw [Nat.pow_succ] at h; omega)
    refine ⟨x % 256 :: l, by simp [h1], fun b hb => ?_, by simp only [val, h3]; omega⟩
    rcases List.mem_cons.1 hb with rfl | hb
    · omega
    · exact h2 b hb
theorem cnt_val : ∀ l, Bys l → cnt (8 * l.length) (val l) = (l.map (cnt 8)).sum
  | [], _ => rfl
  | b :: t, h => by
    rw [List.length_cons, show 8 * (t.length + 1) = 8 + 8 * t.length by omega, val, cnt_byte _ _ _ h.head, cnt_val t h.tail]
    simp

theorem and_split (h H b c : Nat) (hb : b < 256) (hc : c < 256) : (b + 256 * h) &&& (c + 256 * H) = (b &&& c) + 256 * (h &&& H) := by
  have hbc : b &&& c < 2 ^ 8 := Nat.and_lt_two_pow _ (by omega)
  rw [Nat.add_comm b, Nat.add_comm c, Nat.add_comm (b &&& c), show (256 : Nat) = 2 ^ 8 by rfl]
  apply Nat.eq_of_testBit_eq
  intro i
  rw [Nat.testBit_and, Nat.testBit_two_pow_mul_add _ hb, Nat.testBit_two_pow_mul_add _ hc, Nat.testBit_two_pow_mul_add _ hbc]
  split
  · rw [Nat.testBit_and]
  · rw [Nat.testBit_and]
/-- The same byte again and again. -/
def rep (c : Nat) (k : Nat) : Nat := val (List.replicate k c)
theorem rep_succ (c k : Nat) : rep c (k + 1) = c + 256 * rep c k := rfl

def f1 (b : Nat) : Nat := (b / 2 &&& 85) + (b &&& 85)
def f2 (b : Nat) : Nat := (b / 4 &&& 51) + (b &&& 51)
def f3 (b : Nat) : Nat := b / 16 + b &&& 15
theorem f1_dec : ∀ b : Fin 256, ∀ r : Fin 2, (b.val / 2 + r.val * 128 &&& 85) = (b.val / 2 &&& 85) ∧ f1 b.val < 256 := by decide +kernel
theorem f2_dec : ∀ b : Fin 256, ∀ r : Fin 4, (b.val / 4 + r.val * 64 &&& 51) = (b.val / 4 &&& 51) ∧ f2 b.val < 256 := by decide +kernel
theorem f12_dec : ∀ b : Fin 256, f2 (f1 b.val) < 256 ∧ f2 (f1 b.val) % 16 ≤ 4 ∧ f2 (f1 b.val) / 16 ≤ 4 ∧ f3 (f2 (f1 b.val)) = cnt 8 b.val := by decide +kernel
theorem f3_dec : ∀ b r : Fin 80, b.val % 16 ≤ 4 → b.val / 16 ≤ 4 → r.val ≤ 4 → (b.val / 16 + r.val * 16 + b.val &&& 15) = (b.val / 16 + b.val &&& 15) := by decide +kernel

theorem step1 : ∀ l, Bys l → (val l / 2 &&& rep 85 l.length) + (val l &&& rep 85 l.length) = val (l.map f1)
  | [], _ => rfl
  | b :: t, h => by
    have hb := h.head
    have ih := step1 t h.tail
    have hd : (b / 2 + val t % 2 * 128 &&& 85) = (b / 2 &&& 85) := (f1_dec ⟨b, hb⟩ ⟨val t % 2, by omega⟩).1
    have e : val (b :: t) / 2 = (b / 2 + val t % 2 * 128) + 256 * (val t / 2) := by simp only [val]; omega
    rw [e, List.length_cons, rep_succ, and_split _ _ _ _ (by omega) (by decide), hd, val, and_split _ _ _ _ hb (by decide), List.map_cons, val, ← ih]
    unfold f1
    omega
theorem step2 : ∀ l, Bys l → (val l / 4 &&& rep 51 l.length) + (val l &&& rep 51 l.length) = val (l.map f2)
  | [], _ => rfl
  | b :: t, h => by
    have hb := h.head
    have ih := step2 t h.tail
    have hd : (b / 4 + val t % 4 * 64 &&& 51) = (b / 4 &&& 51) := (f2_dec ⟨b, hb⟩ ⟨val t % 4, by omega⟩).1
    have e : val (b :: t) / 4 = (b / 4 + val t % 4 * 64) + 256 * (val t / 4) := by simp only [val]; omega
    rw [e, List.length_cons, rep_succ, and_split _ _ _ _ (by omega) (by decide), hd, val, and_split _ _ _ _ hb (by decide), List.map_cons, val, ← ih]
    unfold f2
    omega
/-- No half of a byte is above 4. -/
def Low (l : List Nat) : Prop := ∀ b ∈ l, b % 16 ≤ 4 ∧ b / 16 ≤ 4
theorem step3 : ∀ l, Low l → (val l / 16 + val l &&& rep 15 l.length) = val (l.map f3)
  | [], _ => rfl
  | b :: t, h => by
    have hb := h b List.mem_cons_self
    have ht : Low t := fun x hx => h x (List.mem_cons_of_mem _ hx)
    have ih := step3 t ht
    have hr : val t % 16 ≤ 4 := by
      match t, ht with
      | [], _ => simp [val]
      | c :: s, ht => have := ht c List.mem_cons_self; simp only [val]; omega
    have e : val (b :: t) / 16 + val (b :: t) = (b / 16 + val t % 16 * 16 + b) + 256 * (val t / 16 + val t) := by simp only [val]; omega
    have hd := f3_dec ⟨b, by omega⟩ ⟨val t % 16, by omega⟩ hb.1 hb.2 hr
    rw [e, List.length_cons, rep_succ, and_split _ _ _ _ (by omega) (by decide), List.map_cons, val, ← ih]
    simp only at hd
    rw [hd]
    rfl

theorem map8 {l : List Nat} (h : l.length = 8) : ∃ a b c d e f g i, l = [a, b, c, d, e, f, g, i] := by
  match l, h with
  | [a, b, c, d, e, f, g, i], _ => exact ⟨a, b, c, d, e, f, g, i, rfl⟩
theorem cut_high {x r k q : Nat} (h : x = r + k * q) (hr : r < k) : x / k = q := by
  subst h
  rw [Nat.add_mul_div_left _ _ (by omega), Nat.div_eq_of_lt hr, Nat.zero_add]
theorem sumA (a b c d e f g i : Nat) (h0 : a ≤ 8) : (a + 256 * b + 65536 * c + 16777216 * d + 4294967296 * e + 1099511627776 * f + 281474976710656 * g + 72057594037927936 * i) / 256 = b + 256 * c + 65536 * d + 16777216 * e + 4294967296 * f + 1099511627776 * g + 281474976710656 * i :=
  cut_high (r := a) (by omega) (by omega)
theorem sumB (a b c d e f g i : Nat) (h0 : a ≤ 16) (h1 : b ≤ 16) : (a + 256 * b + 65536 * c + 16777216 * d + 4294967296 * e + 1099511627776 * f + 281474976710656 * g + 72057594037927936 * i) / 65536 = c + 256 * d + 65536 * e + 16777216 * f + 4294967296 * g + 1099511627776 * i :=
  cut_high (r := a + 256 * b) (by omega) (by omega)
theorem sumC (a b c d e f g i : Nat) (h0 : a ≤ 32) (h1 : b ≤ 32) (h2 : c ≤ 32) (h3 : d ≤ 32) : (a + 256 * b + 65536 * c + 16777216 * d + 4294967296 * e + 1099511627776 * f + 281474976710656 * g + 72057594037927936 * i) / 4294967296 = e + 256 * f + 65536 * g + 16777216 * i :=
  cut_high (r := a + 256 * b + 65536 * c + 16777216 * d) (by omega) (by omega)
theorem sumD (a b c d e f g i : Nat) (h0 : a ≤ 64) : (a + 256 * b + 65536 * c + 16777216 * d + 4294967296 * e + 1099511627776 * f + 281474976710656 * g + 72057594037927936 * i) % 128 = a := by
  rw [show a + 256 * b + 65536 * c + 16777216 * d + 4294967296 * e + 1099511627776 * f + 281474976710656 * g + 72057594037927936 * i = a + 128 * (2 * b + 512 * c + 131072 * d + 33554432 * e + 8589934592 * f + 2199023255552 * g + 562949953421312 * i) by omega, Nat.add_mul_mod_self_left, Nat.mod_eq_of_lt (by omega)]
theorem sumE (a b c d e f g i : Nat) (h0 : a ≤ 64) (h1 : b ≤ 64) (h2 : c ≤ 64) (h3 : d ≤ 64) (h4 : e ≤ 64) (h5 : f ≤ 64) (h6 : g ≤ 64) (h7 : i ≤ 64) : a + 256 * b + 65536 * c + 16777216 * d + 4294967296 * e + 1099511627776 * f + 281474976710656 * g + 72057594037927936 * i < 18446744073709551616 := by omega
theorem sumF (a b c d e f g i a' b' c' d' e' f' g' : Nat) : a + 256 * b + 65536 * c + 16777216 * d + 4294967296 * e + 1099511627776 * f + 281474976710656 * g + 72057594037927936 * i + (a' + 256 * b' + 65536 * c' + 16777216 * d' + 4294967296 * e' + 1099511627776 * f' + 281474976710656 * g') = (a + a') + 256 * (b + b') + 65536 * (c + c') + 16777216 * (d + d') + 4294967296 * (e + e') + 1099511627776 * (f + f') + 281474976710656 * (g + g') + 72057594037927936 * i := by omega
theorem sumG (a b c d e f g i a' b' c' d' e' f' : Nat) : a + 256 * b + 65536 * c + 16777216 * d + 4294967296 * e + 1099511627776 * f + 281474976710656 * g + 72057594037927936 * i + (a' + 256 * b' + 65536 * c' + 16777216 * d' + 4294967296 * e' + 1099511627776 * f') = (a + a') + 256 * (b + b') + 65536 * (c + c') + 16777216 * (d + d') + 4294967296 * (e + e') + 1099511627776 * (f + f') + 281474976710656 * g + 72057594037927936 * i := by omega
theorem sumH (a b c d e f g i a' b' c' d' : Nat) : a + 256 * b + 65536 * c + 16777216 * d + 4294967296 * e + 1099511627776 * f + 281474976710656 * g + 72057594037927936 * i + (a' + 256 * b' + 65536 * c' + 16777216 * d') = (a + a') + 256 * (b + b') + 65536 * (c + c') + 16777216 * (d + d') + 4294967296 * e + 1099511627776 * f + 281474976710656 * g + 72057594037927936 * i := by omega
/-- The sum of eight bytes, each at most 8. -/
theorem sum8a (a b c d e f g i x y z u : Nat) (h0 : a ≤ 8) (h1 : b ≤ 8) (h2 : c ≤ 8) (h3 : d ≤ 8) (h4 : e ≤ 8) (h5 : f ≤ 8) (h6 : g ≤ 8) (h7 : i ≤ 8)
    (hx : x = a + 256 * b + 65536 * c + 16777216 * d + 4294967296 * e + 1099511627776 * f + 281474976710656 * g + 72057594037927936 * i)
    (hy : y = x + x / 256) (hz : z = y + y / 65536) (hu : u = z + z / 4294967296) :
    u % 128 = a + b + (c + d) + (e + f + (g + i)) ∧ y < 18446744073709551616 ∧ z < 18446744073709551616 ∧ u < 18446744073709551616 := by
  rw [hx, sumA _ _ _ _ _ _ _ _ h0, sumF] at hy
  clear hx
  rw [hy, sumB _ _ _ _ _ _ _ _ (Nat.add_le_add h0 h1) (Nat.add_le_add h1 h2), sumG] at hz
  rw [hz, sumC _ _ _ _ _ _ _ _ (Nat.add_le_add (Nat.add_le_add h0 h1) (Nat.add_le_add h2 h3)) (Nat.add_le_add (Nat.add_le_add h1 h2) (Nat.add_le_add h3 h4)) (Nat.add_le_add (Nat.add_le_add h2 h3) (Nat.add_le_add h4 h5)) (Nat.add_le_add (Nat.add_le_add h3 h4) (Nat.add_le_add h5 h6)), sumH] at hu
  refine ⟨?_, ?_, ?_, ?_⟩
  · rw [hu, sumD]
    clear hu hz hy; omega
  · rw [hy]; clear hu hz hy; apply sumE <;> omega
  · rw [hz]; clear hu hz hy; apply sumE <;> omega
  · rw [hu]; clear hu hz hy; apply sumE <;> omega
theorem sum8 (l : List Nat) (hl : l.length = 8) (h : ∀ b ∈ l, b ≤ 8) (x y z u : Nat) (hx : x = val l) (hy : y = x + x / 256) (hz : z = y + y / 65536) (hu : u = z + z / 4294967296) :
    u % 128 = l.sum ∧ y < 18446744073709551616 ∧ z < 18446744073709551616 ∧ u < 18446744073709551616 := by
  obtain ⟨a, b, c, d, e, f, g, i, rfl⟩ := map8 hl
  simp only [List.mem_cons, List.not_mem_nil, or_false, forall_eq_or_imp, forall_eq] at h
  obtain ⟨h0, h1, h2, h3, h4, h5, h6, h7⟩ := h
  simp only [val] at hx
  have := sum8a a b c d e f g i x y z u h0 h1 h2 h3 h4 h5 h6 h7 (by rw [hx]; clear hx hy hz hu; omega) hy hz hu
  simp only [List.sum_cons, List.sum_nil]
  refine ⟨?_, this.2⟩
  rw [this.1]
  clear this hx hy hz hu
  omega

/-- The steps that count the bits of a word. -/
def s1 (x : Nat) : Nat := (x / 2 &&& 6148914691236517205) + (x &&& 6148914691236517205)
def s2 (x : Nat) : Nat := (x / 4 &&& 3689348814741910323) + (x &&& 3689348814741910323)
def s3 (x : Nat) : Nat := x / 16 + x &&& 1085102592571150095
theorem pop64 (x : Nat) (hx : x < 18446744073709551616) :
    let a := s1 x
    let b := s2 a
    let c := s3 b
    let y := c + c / 256
    let z := y + y / 65536
    let u := z + z / 4294967296
    a < 18446744073709551616 ∧ b < 18446744073709551616 ∧ b / 16 + b < 18446744073709551616 ∧ y < 18446744073709551616 ∧ z < 18446744073709551616 ∧ u < 18446744073709551616 ∧ u % 128 = cnt 64 x := by
  obtain ⟨l, hl, hB, rfl⟩ := val_of 8 x hx
  have hc := cnt_val l hB
  have e1 := step1 l hB
  have b1 : Bys (l.map f1) := fun q hq => by
    obtain ⟨p, hp, rfl⟩ := List.mem_map.1 hq
    exact (f1_dec ⟨p, hB p hp⟩ 0).2
  have e2 := step2 _ b1
  have b2 : Bys ((l.map f1).map f2) := fun q hq => by
    obtain ⟨p, hp, rfl⟩ := List.mem_map.1 hq
    exact (f2_dec ⟨p, b1 p hp⟩ 0).2
  have l2 : Low ((l.map f1).map f2) := fun q hq => by
    rw [List.map_map] at hq
    obtain ⟨p, hp, rfl⟩ := List.mem_map.1 hq
    have := f12_dec ⟨p, hB p hp⟩
    exact ⟨this.2.1, this.2.2.1⟩
  have e3 := step3 _ l2
  have ec : ((l.map f1).map f2).map f3 = l.map (cnt 8) := by
    rw [List.map_map, List.map_map]
    exact List.map_congr_left fun p hp => (f12_dec ⟨p, hB p hp⟩).2.2.2
  simp only [List.length_map] at e2 e3
  rw [hl] at e1 e2 e3 hc
  rw [ec] at e3
  have r1 : rep 85 8 = 6148914691236517205 := by decide +kernel
  have r2 : rep 51 8 = 3689348814741910323 := by decide +kernel
  have r3 : rep 15 8 = 1085102592571150095 := by decide +kernel
  rw [r1] at e1
  rw [r2] at e2
  rw [r3] at e3
  have v1 := val_lt _ b1
  have v2 := val_lt _ b2
  simp only [List.length_map, hl] at v1 v2
  have hs := sum8 (l.map (cnt 8)) (by simp [hl]) (fun q hq => by
    obtain ⟨p, -, rfl⟩ := List.mem_map.1 hq
    exact cnt_le 8 p) _ _ _ _ rfl rfl rfl rfl
  have q1 : s1 (val l) = val (l.map f1) := e1
  have q2 : s2 (val (l.map f1)) = val ((l.map f1).map f2) := e2
  have q3 : s3 (val ((l.map f1).map f2)) = val (l.map (cnt 8)) := e3
  simp only [q1, q2, q3]
  have hlow : val ((l.map f1).map f2) / 16 + val ((l.map f1).map f2) < 18446744073709551616 := by
    obtain ⟨a, b, c, d, e, f, g, i, hm⟩ := map8 (l := (l.map f1).map f2) (by simp [hl])
    rw [hm] at l2 ⊢
    have := l2 i (by simp)
    have hh : Bys [a, b, c, d, e, f, g, i] := hm ▸ b2
    simp only [Bys, List.mem_cons, List.not_mem_nil, or_false, forall_eq_or_imp, forall_eq] at hh
    simp only [val]
    omega
  exact ⟨v1, v2, hlow, hs.2.1, hs.2.2.1, hs.2.2.2, by rw [hs.1, ← hc]⟩
end Go.Proofs.YtkkklobjfoehnaaDoor
