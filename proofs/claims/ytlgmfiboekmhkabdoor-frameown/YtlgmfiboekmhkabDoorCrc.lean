/- The sum's mathematics: one bit, half a byte and a byte of the division, that they agree, that no byte can be changed unseen. Nothing of the program. -/
import Derived.Laws.BitsAllLaws
import Derived.KernelRfl
namespace Go.Proofs.YtlgmfiboekmhkabDoor

/-- One bit of the division. -/
def bitStep (s : Nat) : Nat := s / 2 ^^^ (if s % 2 = 1 then 3988292384 else 0)
/-- So many bits. -/
def bits2 : Nat → Nat → Nat
  | 0, s => s
  | k + 1, s => bits2 k (bitStep s)
/-- The table of half bytes. -/
def nibs : List Nat := [0, 498536548, 997073096, 651767980, 1994146192, 1802195444, 1303535960, 1342533948, 3988292384, 4027552580, 3604390888, 3412177804, 2607071920, 2262029012, 2685067896, 3183342108]
/-- One half byte by the table. -/
def nib (s : Nat) : Nat := s / 16 ^^^ nibs.getD (s % 16) 0
/-- One byte of the sum. -/
def stepB (s b : Nat) : Nat := bits2 8 (s ^^^ b)
def crcFrom (s : Nat) (bs : List Nat) : Nat := bs.foldl stepB s
/-- The sum. -/
def crc (bs : List Nat) : Nat := 4294967295 - crcFrom 4294967295 bs

theorem crcFrom_nil (s : Nat) : crcFrom s [] = s := rfl
theorem crcFrom_cons (s b : Nat) (bs : List Nat) : crcFrom s (b :: bs) = crcFrom (stepB s b) bs := rfl
theorem crcFrom_append (s : Nat) (a b : List Nat) : crcFrom s (a ++ b) = crcFrom (crcFrom s a) b := by simp [crcFrom, List.foldl_append]

theorem xor_half (a b : Nat) : (a ^^^ b) / 2 = a / 2 ^^^ b / 2 := by
  have := Nat.shiftRight_xor_distrib (a := a) (b := b) (i := 1)
  simpa [Nat.shiftRight_eq_div_pow] using this
theorem xor_odd (a b : Nat) : (a ^^^ b) % 2 = (a % 2 + b % 2) % 2 := by
  have := Nat.testBit_xor a b 0
  rw [Nat.testBit_zero, Nat.testBit_zero, Nat.testBit_zero] at this
  rcases Nat.mod_two_eq_zero_or_one a with h1 | h1 <;> rcases Nat.mod_two_eq_zero_or_one b with h2 | h2 <;> rcases Nat.mod_two_eq_zero_or_one (a ^^^ b) with h3 | h3 <;> simp [h1, h2, h3] at this ⊢

theorem bitStep_xor (a b : Nat) : bitStep (a ^^^ b) = bitStep a ^^^ bitStep b := by
  unfold bitStep
  rw [xor_half, xor_odd]
  rcases Nat.mod_two_eq_zero_or_one a with h1 | h1 <;> rcases Nat.mod_two_eq_zero_or_one b with h2 | h2
  · simp [h1, h2]
  · simp [h1, h2, Nat.xor_assoc]
  · simp [h1, h2]; rw [Nat.xor_assoc, Nat.xor_comm (b / 2), ← Nat.xor_assoc]
  · simp only [h1, h2]
    rw [if_neg (by decide), if_pos trivial, Nat.xor_zero]
    rw [Nat.xor_assoc, Nat.xor_comm 3988292384 (b / 2 ^^^ 3988292384), Nat.xor_assoc, Nat.xor_self, Nat.xor_zero]
theorem bits2_xor : ∀ (k a b : Nat), bits2 k (a ^^^ b) = bits2 k a ^^^ bits2 k b
  | 0, _, _ => rfl
  | k + 1, a, b => by simp only [bits2]; rw [bitStep_xor, bits2_xor]
theorem bits2_add : ∀ (j k s : Nat), bits2 (j + k) s = bits2 k (bits2 j s)
  | 0, k, s => by simp [bits2]
  | j + 1, k, s => by rw [Nat.add_right_comm]; simp only [bits2]; exact bits2_add j k _
theorem bitStep_even (a : Nat) : bitStep (a * 2) = a := by simp [bitStep]
theorem bits2_16 (h : Nat) : bits2 4 (h * 16) = h := by
  have e : h * 16 = h * 8 * 2 := by omega
  have e2 : h * 8 = h * 4 * 2 := by omega
  have e3 : h * 4 = h * 2 * 2 := by omega
  simp only [bits2]
  rw [e, bitStep_even, e2, bitStep_even, e3, bitStep_even, bitStep_even]
theorem bits2_low : ∀ l, l < 16 → bits2 4 l = nibs.getD l 0 := by decide
theorem join16 (s : Nat) : s = (s / 16 * 16) ^^^ (s % 16) := by
  have h1 : s / 16 * 16 ^^^ s % 16 = s / 16 * 16 + s % 16 := by
    have := (Nat.two_pow_add_eq_or_of_lt (i := 4) (b := s % 16) (by omega) (s / 16))
    apply Nat.eq_of_testBit_eq
    intro i
    rw [show s / 16 * 16 + s % 16 = 2 ^ 4 * (s / 16) + s % 16 by omega, this, Nat.testBit_xor, Nat.testBit_or, show s / 16 * 16 = 2 ^ 4 * (s / 16) by omega, Nat.testBit_two_pow_mul]
    by_cases hi : 4 ≤ i
    · have : (s % 16).testBit i = false := Nat.testBit_lt_two_pow (Nat.lt_of_lt_of_le (by omega : s % 16 < 2 ^ 4) (Nat.pow_le_pow_right (by omega) hi))
      simp [hi, this]
    · simp [hi]
  omega
theorem nib_bits (s : Nat) : nib s = bits2 4 s := by
  conv => rhs; rw [join16 s]
  rw [bits2_xor, bits2_16, bits2_low _ (Nat.mod_lt _ (by decide))]; rfl
theorem nib_nib (s : Nat) : nib (nib s) = bits2 8 s := by rw [nib_bits, nib_bits, ← bits2_add]
theorem stepB_nib (s b : Nat) : nib (nib (s ^^^ b)) = stepB s b := nib_nib _

/-- One bit, as the document's answer takes it: the byte's bit is held against the state's lowest. -/
def refBit (s bit : Nat) : Nat := if s % 2 ≠ bit then s / 2 ^^^ 3988292384 else s / 2
/-- So many bits of a byte. -/
def refBits (s b : Nat) : Nat → Nat
  | 0 => s
  | k + 1 => refBit (refBits s b k) (b / 2 ^ k % 2)
theorem refBit_step (s b : Nat) : bitStep (s ^^^ b) = refBit s (b % 2) ^^^ b / 2 := by
  unfold bitStep refBit
  rw [xor_half, xor_odd]
  rcases Nat.mod_two_eq_zero_or_one s with h1 | h1 <;> rcases Nat.mod_two_eq_zero_or_one b with h2 | h2 <;> simp [h1, h2]
  · rw [Nat.xor_assoc, Nat.xor_comm (b / 2), ← Nat.xor_assoc]
  · rw [Nat.xor_assoc, Nat.xor_comm (b / 2), ← Nat.xor_assoc]
theorem bits2_snoc (k s : Nat) : bits2 (k + 1) s = bitStep (bits2 k s) := by rw [bits2_add k 1]; rfl
theorem refBits_step (s b : Nat) : ∀ k, bits2 k (s ^^^ b) = refBits s b k ^^^ b / 2 ^ k
  | 0 => by simp [bits2, refBits]
  | k + 1 => by
    rw [bits2_snoc, refBits_step s b k, refBit_step]
    simp only [refBits]
    rw [Nat.div_div_eq_div_mul, ← Nat.pow_succ]
theorem refBits_eight (s b : Nat) (hb : b < 256) : refBits s b 8 = stepB s b := by
  unfold stepB
  rw [refBits_step s b 8, Nat.div_eq_of_lt (by simpa using hb), Nat.xor_zero]

theorem xor_lt32 {a b : Nat} (ha : a < 4294967296) (hb : b < 4294967296) : a ^^^ b < 4294967296 := Nat.xor_lt_two_pow (n := 32) ha hb
theorem bitStep_lt {s : Nat} (h : s < 4294967296) : bitStep s < 4294967296 := by
  unfold bitStep
  apply xor_lt32 (by omega)
  split <;> decide
theorem refBit_lt {s bit : Nat} (h : s < 4294967296) : refBit s bit < 4294967296 := by
  unfold refBit
  split
  · exact xor_lt32 (by omega) (by decide)
  · omega
theorem refBits_lt {s b : Nat} (h : s < 4294967296) : ∀ k, refBits s b k < 4294967296
  | 0 => h
  | k + 1 => refBit_lt (refBits_lt h k)
theorem bits2_lt : ∀ (k : Nat) {s : Nat}, s < 4294967296 → bits2 k s < 4294967296
  | 0, _, h => h
  | k + 1, _, h => bits2_lt k (bitStep_lt h)
theorem stepB_lt {s b : Nat} (h : s < 4294967296) (hb : b < 256) : stepB s b < 4294967296 := bits2_lt 8 (xor_lt32 h (by omega))
theorem crcFrom_lt : ∀ (bs : List Nat) {s : Nat}, (∀ b ∈ bs, b < 256) → s < 4294967296 → crcFrom s bs < 4294967296
  | [], _, _, h => h
  | b :: bs, _, hb, h => crcFrom_lt bs (fun x hx => hb x (List.mem_cons_of_mem _ hx)) (stepB_lt h (hb b (List.mem_cons_self)))
theorem crc_lt (bs : List Nat) : crc bs < 4294967296 := by unfold crc; omega

theorem xor_cancel_r {a b c : Nat} (h : a ^^^ c = b ^^^ c) : a = b := by
  have := congrArg (· ^^^ c) h
  simpa [Nat.xor_assoc] using this
theorem xor_cancel_l {a b c : Nat} (h : c ^^^ a = c ^^^ b) : a = b := by
  rw [Nat.xor_comm c a, Nat.xor_comm c b] at h; exact xor_cancel_r h
theorem bitStep_odd {s : Nat} (h : s < 4294967296) : (bitStep s).testBit 31 = decide (s % 2 = 1) := by
  unfold bitStep
  rw [Nat.testBit_xor, Nat.testBit_lt_two_pow (show s / 2 < 2 ^ 31 by omega)]
  by_cases hs : s % 2 = 1
  · simp only [hs, if_true]; decide
  · simp [hs]
theorem bitStep_inj {a b : Nat} (ha : a < 4294967296) (hb : b < 4294967296) (h : bitStep a = bitStep b) : a = b := by
  have ho : decide (a % 2 = 1) = decide (b % 2 = 1) := by rw [← bitStep_odd ha, ← bitStep_odd hb, h]
  have ho' : a % 2 = 1 ↔ b % 2 = 1 := by simpa using ho
  unfold bitStep at h
  have hh : a / 2 = b / 2 := by
    by_cases h1 : a % 2 = 1
    · rw [if_pos h1, if_pos (ho'.1 h1)] at h; exact xor_cancel_r h
    · rw [if_neg h1, if_neg (fun q => h1 (ho'.2 q))] at h; simpa using h
  omega
theorem bits2_inj : ∀ (k : Nat) {a b : Nat}, a < 4294967296 → b < 4294967296 → bits2 k a = bits2 k b → a = b
  | 0, _, _, _, _, h => h
  | k + 1, _, _, ha, hb, h => bitStep_inj ha hb (bits2_inj k (bitStep_lt ha) (bitStep_lt hb) h)
theorem stepB_inj_state {s t b : Nat} (hs : s < 4294967296) (ht : t < 4294967296) (hb : b < 256) (h : stepB s b = stepB t b) : s = t :=
  xor_cancel_r (bits2_inj 8 (xor_lt32 hs (by omega)) (xor_lt32 ht (by omega)) h)
theorem stepB_inj_byte {s a b : Nat} (hs : s < 4294967296) (ha : a < 256) (hb : b < 256) (h : stepB s a = stepB s b) : a = b :=
  xor_cancel_l (bits2_inj 8 (xor_lt32 hs (by omega)) (xor_lt32 hs (by omega)) h)
theorem crcFrom_inj : ∀ (bs : List Nat) {s t : Nat}, (∀ b ∈ bs, b < 256) → s < 4294967296 → t < 4294967296 → crcFrom s bs = crcFrom t bs → s = t
  | [], _, _, _, _, _, h => h
  | b :: bs, _, _, hb, hs, ht, h =>
    have hb0 := hb b (List.mem_cons_self)
    stepB_inj_state hs ht hb0 (crcFrom_inj bs (fun x hx => hb x (List.mem_cons_of_mem _ hx)) (stepB_lt hs hb0) (stepB_lt ht hb0) h)

/-- One byte changed changes the sum. -/
theorem crc_change (pre post : List Nat) (a b : Nat) (h1 : ∀ x ∈ pre, x < 256) (h2 : ∀ x ∈ post, x < 256) (ha : a < 256) (hb : b < 256) (hne : a ≠ b) : crc (pre ++ a :: post) ≠ crc (pre ++ b :: post) := by
  intro h
  have hp := crcFrom_lt pre (s := 4294967295) h1 (by decide)
  have e : crcFrom 4294967295 (pre ++ a :: post) = crcFrom 4294967295 (pre ++ b :: post) := by
    have l1 : crcFrom 4294967295 (pre ++ a :: post) < 4294967296 := crcFrom_lt _ (by intro x hx; simp at hx; rcases hx with h | h | h; exact h1 x h; omega; exact h2 x h) (by decide)
    have l2 : crcFrom 4294967295 (pre ++ b :: post) < 4294967296 := crcFrom_lt _ (by intro x hx; simp at hx; rcases hx with h | h | h; exact h1 x h; omega; exact h2 x h) (by decide)
    unfold crc at h; omega
  rw [crcFrom_append, crcFrom_append, crcFrom_cons, crcFrom_cons] at e
  exact hne (stepB_inj_byte hp ha hb (crcFrom_inj post h2 (stepB_lt hp ha) (stepB_lt hp hb) e))

theorem not32 {s : Nat} (h : s < 4294967296) : 4294967295 ^^^ s = 4294967295 - s := by
  apply Nat.eq_of_testBit_eq
  intro i
  rw [show 4294967295 - s = 2 ^ 32 - (s + 1) by omega, Nat.testBit_two_pow_sub_succ (by simpa using h), Nat.testBit_xor, show (4294967295 : Nat) = 2 ^ 32 - 1 by decide, Nat.testBit_two_pow_sub_one]
  by_cases hi : i < 32
  · simp [hi]
  · have : s.testBit i = false := Nat.testBit_lt_two_pow (Nat.lt_of_lt_of_le h (by have : 2 ^ 32 ≤ 2 ^ i := Nat.pow_le_pow_right (by omega) (by omega); simpa using this))
    simp [hi, this]
theorem crc_check : crc [49, 50, 51, 52, 53, 54, 55, 56, 57] = 3421780262 := by kernel_rfl
end Go.Proofs.YtlgmfiboekmhkabDoor
