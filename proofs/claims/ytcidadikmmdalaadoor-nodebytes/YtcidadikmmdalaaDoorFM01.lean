import Derived.Laws.BitsAllLaws
import Derived.KernelRfl
import Derived.Test.YtcidadikmmdalaaDoorChecked
import Derived.Below
import Derived.Deep.LoopGhost
import Derived.Deep.AppendLies
import Derived.Deep.QuietTactic
import Derived.RowKit
import Derived.ProofKit
import Derived.WalkKit
import Derived.IntWalk
import Derived.Handy
import Derived.Laws.AppendOwnNone
import Derived.Laws.BytesArg
import Derived.Test.YtcidadikmmdalaaDoorRows
import Derived.ChangeSame
import Derived.ChangeVars
import Derived.JoinedOf
import Derived.RowKitTokens
import Derived.LaidLaws
import Derived.LaidHandle
import Derived.LaidMore
import Derived.OpenShut
import Derived.Deep.Slices
import Derived.Lib.SmallJoins
import Derived.Lib.LaidTab
import Derived.Stop.LaidErr
import Derived.Stop.Joined
import Derived.SizedLaws
import Derived.Lib.SliceRun
/- The sum's mathematics: one bit, half a byte and a byte of the division, that they agree, that no byte can be changed unseen. Nothing of the program. -/
namespace Go.Proofs.YtcidadikmmdalaaDoor.Fr

/-- One bit of the division. -/
def bitStep (s : Nat) : Nat := s / 2 ^^^ (if s % 2 = 1 then 3988292384 else 0)
/-- So many bits. -/
def bits2 : Nat → Nat → Nat
  | 0, s => s
  | k + 1, s => bits2 k (bitStep s)
/-- The table of half bytes. -/
def nibs : List Nat := [0, 498536548, 997073096, 651767980, 1994146192, 1802195444, 1303535960, 1342533948, 3988292384, 4027552580, 3604390888, 3412177804, 2607071920, 2262029012, 2685067896, 3183342108]
/-- One half byte by the table. -/
def nib (s : Nat) : Nat := s / 16 ^^^ nibs.getD (s % 16) 0
/-- One byte of the sum. -/
def stepB (s b : Nat) : Nat := bits2 8 (s ^^^ b)
def crcFrom (s : Nat) (bs : List Nat) : Nat := bs.foldl stepB s
/-- The sum. -/
def crc (bs : List Nat) : Nat := 4294967295 - crcFrom 4294967295 bs

theorem crcFrom_nil (s : Nat) : crcFrom s [] = s := rfl
theorem crcFrom_cons (s b : Nat) (bs : List Nat) : crcFrom s (b :: bs) = crcFrom (stepB s b) bs := rfl
theorem crcFrom_append (s : Nat) (a b : List Nat) : crcFrom s (a ++ b) = crcFrom (crcFrom s a) b := by simp [crcFrom, List.foldl_append]

theorem xor_half (a b : Nat) : (a ^^^ b) / 2 = a / 2 ^^^ b / 2 := by
  have := Nat.shiftRight_xor_distrib (a := a) (b := b) (i := 1)
  simpa [Nat.shiftRight_eq_div_pow] using this
theorem xor_odd (a b : Nat) : (a ^^^ b) % 2 = (a % 2 + b % 2) % 2 := by
  have := Nat.testBit_xor a b 0
  rw [Nat.testBit_zero, Nat.testBit_zero, Nat.testBit_zero] at this
  rcases Nat.mod_two_eq_zero_or_one a with h1 | h1 <;> rcases Nat.mod_two_eq_zero_or_one b with h2 | h2 <;> rcases Nat.mod_two_eq_zero_or_one (a ^^^ b) with h3 | h3 <;> simp [h1, h2, h3] at this ⊢

theorem bitStep_xor (a b : Nat) : bitStep (a ^^^ b) = bitStep a ^^^ bitStep b := by
  unfold bitStep
  rw [xor_half, xor_odd]
  rcases Nat.mod_two_eq_zero_or_one a with h1 | h1 <;> rcases Nat.mod_two_eq_zero_or_one b with h2 | h2
  · simp [h1, h2]
  · simp [h1, h2, Nat.xor_assoc]
  · simp [h1, h2]; rw [Nat.xor_assoc, Nat.xor_comm (b / 2), ← Nat.xor_assoc]
  · simp only [h1, h2]
    rw [if_neg (by decide), if_pos trivial, Nat.xor_zero]
    rw [Nat.xor_assoc, Nat.xor_comm 3988292384 (b / 2 ^^^ 3988292384), Nat.xor_assoc, Nat.xor_self, Nat.xor_zero]
theorem bits2_xor : ∀ (k a b : Nat), bits2 k (a ^^^ b) = bits2 k a ^^^ bits2 k b
  | 0, _, _ => rfl
  | k + 1, a, b => by simp only [bits2]; rw [bitStep_xor, bits2_xor]
theorem bits2_add : ∀ (j k s : Nat), bits2 (j + k) s = bits2 k (bits2 j s)
  | 0, k, s => by simp [bits2]
  | j + 1, k, s => by rw [Nat.add_right_comm]; simp only [bits2]; exact bits2_add j k _
theorem bitStep_even (a : Nat) : bitStep (a * 2) = a := by simp [bitStep]
theorem bits2_16 (h : Nat) : bits2 4 (h * 16) = h := by
  have e : h * 16 = h * 8 * 2 := by omega
  have e2 : h * 8 = h * 4 * 2 := by omega
  have e3 : h * 4 = h * 2 * 2 := by omega
  simp only [bits2]
  rw [e, bitStep_even, e2, bitStep_even, e3, bitStep_even, bitStep_even]
theorem bits2_low : ∀ l, l < 16 → bits2 4 l = nibs.getD l 0 := by decide
theorem join16 (s : Nat) : s = (s / 16 * 16) ^^^ (s % 16) := by
  have h1 : s / 16 * 16 ^^^ s % 16 = s / 16 * 16 + s % 16 := by
    have := (Nat.two_pow_add_eq_or_of_lt (i := 4) (b := s % 16) (by omega) (s / 16))
    apply Nat.eq_of_testBit_eq
    intro i
    rw [show s / 16 * 16 + s % 16 = 2 ^ 4 * (s / 16) + s % 16 by omega, this, Nat.testBit_xor, Nat.testBit_or, show s / 16 * 16 = 2 ^ 4 * (s / 16) by omega, Nat.testBit_two_pow_mul]
    by_cases hi : 4 ≤ i
    · have : (s % 16).testBit i = false := Nat.testBit_lt_two_pow (Nat.lt_of_lt_of_le (by omega : s % 16 < 2 ^ 4) (Nat.pow_le_pow_right (by omega) hi))
      simp [hi, this]
    · simp [hi]
  omega
theorem nib_bits (s : Nat) : nib s = bits2 4 s := by
  conv => rhs; rw [join16 s]
  rw [bits2_xor, bits2_16, bits2_low _ (Nat.mod_lt _ (by decide))]; rfl
theorem nib_nib (s : Nat) : nib (nib s) = bits2 8 s := by rw [nib_bits, nib_bits, ← bits2_add]
theorem stepB_nib (s b : Nat) : nib (nib (s ^^^ b)) = stepB s b := nib_nib _

/-- One bit, as the document's answer takes it: the byte's bit is held against the state's lowest. -/
def refBit (s bit : Nat) : Nat := if s % 2 ≠ bit then s / 2 ^^^ 3988292384 else s / 2
/-- So many bits of a byte. -/
def refBits (s b : Nat) : Nat → Nat
  | 0 => s
  | k + 1 => refBit (refBits s b k) (b / 2 ^ k % 2)
theorem refBit_step (s b : Nat) : bitStep (s ^^^ b) = refBit s (b % 2) ^^^ b / 2 := by
  unfold bitStep refBit
  rw [xor_half, xor_odd]
  rcases Nat.mod_two_eq_zero_or_one s with h1 | h1 <;> rcases Nat.mod_two_eq_zero_or_one b with h2 | h2 <;> simp [h1, h2]
  · rw [Nat.xor_assoc, Nat.xor_comm (b / 2), ← Nat.xor_assoc]
  · rw [Nat.xor_assoc, Nat.xor_comm (b / 2), ← Nat.xor_assoc]
theorem bits2_snoc (k s : Nat) : bits2 (k + 1) s = bitStep (bits2 k s) := by rw [bits2_add k 1]; rfl
theorem refBits_step (s b : Nat) : ∀ k, bits2 k (s ^^^ b) = refBits s b k ^^^ b / 2 ^ k
  | 0 => by simp [bits2, refBits]
  | k + 1 => by
    rw [bits2_snoc, refBits_step s b k, refBit_step]
    simp only [refBits]
    rw [Nat.div_div_eq_div_mul, ← Nat.pow_succ]
theorem refBits_eight (s b : Nat) (hb : b < 256) : refBits s b 8 = stepB s b := by
  unfold stepB
  rw [refBits_step s b 8, Nat.div_eq_of_lt (by simpa using hb), Nat.xor_zero]

theorem xor_lt32 {a b : Nat} (ha : a < 4294967296) (hb : b < 4294967296) : a ^^^ b < 4294967296 := Nat.xor_lt_two_pow (n := 32) ha hb
theorem bitStep_lt {s : Nat} (h : s < 4294967296) : bitStep s < 4294967296 := by
  unfold bitStep
  apply xor_lt32 (by omega)
  split <;> decide
theorem refBit_lt {s bit : Nat} (h : s < 4294967296) : refBit s bit < 4294967296 := by
  unfold refBit
  split
  · exact xor_lt32 (by omega) (by decide)
  · omega
theorem refBits_lt {s b : Nat} (h : s < 4294967296) : ∀ k, refBits s b k < 4294967296
  | 0 => h
  | k + 1 => refBit_lt (refBits_lt h k)
theorem bits2_lt : ∀ (k : Nat) {s : Nat}, s < 4294967296 → bits2 k s < 4294967296
  | 0, _, h => h
  | k + 1, _, h => bits2_lt k (bitStep_lt h)
theorem stepB_lt {s b : Nat} (h : s < 4294967296) (hb : b < 256) : stepB s b < 4294967296 := bits2_lt 8 (xor_lt32 h (by omega))
theorem crcFrom_lt : ∀ (bs : List Nat) {s : Nat}, (∀ b ∈ bs, b < 256) → s < 4294967296 → crcFrom s bs < 4294967296
  | [], _, _, h => h
  | b :: bs, _, hb, h => crcFrom_lt bs (fun x hx => hb x (List.mem_cons_of_mem _ hx)) (stepB_lt h (hb b (List.mem_cons_self)))
theorem crc_lt (bs : List Nat) : crc bs < 4294967296 := by unfold crc; omega

theorem xor_cancel_r {a b c : Nat} (h : a ^^^ c = b ^^^ c) : a = b := by
  have := congrArg (· ^^^ c) h
  simpa [Nat.xor_assoc] using this
theorem xor_cancel_l {a b c : Nat} (h : c ^^^ a = c ^^^ b) : a = b := by
  rw [Nat.xor_comm c a, Nat.xor_comm c b] at h; exact xor_cancel_r h
theorem bitStep_odd {s : Nat} (h : s < 4294967296) : (bitStep s).testBit 31 = decide (s % 2 = 1) := by
  unfold bitStep
  rw [Nat.testBit_xor, Nat.testBit_lt_two_pow (show s / 2 < 2 ^ 31 by omega)]
  by_cases hs : s % 2 = 1
  · simp only [hs, if_true]; decide
  · simp [hs]
theorem bitStep_inj {a b : Nat} (ha : a < 4294967296) (hb : b < 4294967296) (h : bitStep a = bitStep b) : a = b := by
  have ho : decide (a % 2 = 1) = decide (b % 2 = 1) := by rw [← bitStep_odd ha, ← bitStep_odd hb, h]
  have ho' : a % 2 = 1 ↔ b % 2 = 1 := by simpa using ho
  unfold bitStep at h
  have hh : a / 2 = b / 2 := by
    by_cases h1 : a % 2 = 1
    · rw [if_pos h1, if_pos (ho'.1 h1)] at h; exact xor_cancel_r h
    · rw [if_neg h1, if_neg (fun q => h1 (ho'.2 q))] at h; simpa using h
  omega
theorem bits2_inj : ∀ (k : Nat) {a b : Nat}, a < 4294967296 → b < 4294967296 → bits2 k a = bits2 k b → a = b
  | 0, _, _, _, _, h => h
  | k + 1, _, _, ha, hb, h => bitStep_inj ha hb (bits2_inj k (bitStep_lt ha) (bitStep_lt hb) h)
theorem stepB_inj_state {s t b : Nat} (hs : s < 4294967296) (ht : t < 4294967296) (hb : b < 256) (h : stepB s b = stepB t b) : s = t :=
  xor_cancel_r (bits2_inj 8 (xor_lt32 hs (by omega)) (xor_lt32 ht (by omega)) h)
theorem stepB_inj_byte {s a b : Nat} (hs : s < 4294967296) (ha : a < 256) (hb : b < 256) (h : stepB s a = stepB s b) : a = b :=
  xor_cancel_l (bits2_inj 8 (xor_lt32 hs (by omega)) (xor_lt32 hs (by omega)) h)
theorem crcFrom_inj : ∀ (bs : List Nat) {s t : Nat}, (∀ b ∈ bs, b < 256) → s < 4294967296 → t < 4294967296 → crcFrom s bs = crcFrom t bs → s = t
  | [], _, _, _, _, _, h => h
  | b :: bs, _, _, hb, hs, ht, h =>
    have hb0 := hb b (List.mem_cons_self)
    stepB_inj_state hs ht hb0 (crcFrom_inj bs (fun x hx => hb x (List.mem_cons_of_mem _ hx)) (stepB_lt hs hb0) (stepB_lt ht hb0) h)

/-- One byte changed changes the sum. -/
theorem crc_change (pre post : List Nat) (a b : Nat) (h1 : ∀ x ∈ pre, x < 256) (h2 : ∀ x ∈ post, x < 256) (ha : a < 256) (hb : b < 256) (hne : a ≠ b) : crc (pre ++ a :: post) ≠ crc (pre ++ b :: post) := by
  intro h
  have hp := crcFrom_lt pre (s := 4294967295) h1 (by decide)
  have e : crcFrom 4294967295 (pre ++ a :: post) = crcFrom 4294967295 (pre ++ b :: post) := by
    have l1 : crcFrom 4294967295 (pre ++ a :: post) < 4294967296 := crcFrom_lt _ (by intro x hx; simp at hx; rcases hx with h | h | h; exact h1 x h; omega; exact h2 x h) (by decide)
    have l2 : crcFrom 4294967295 (pre ++ b :: post) < 4294967296 := crcFrom_lt _ (by intro x hx; simp at hx; rcases hx with h | h | h; exact h1 x h; omega; exact h2 x h) (by decide)
    unfold crc at h; omega
  rw [crcFrom_append, crcFrom_append, crcFrom_cons, crcFrom_cons] at e
  exact hne (stepB_inj_byte hp ha hb (crcFrom_inj post h2 (stepB_lt hp ha) (stepB_lt hp hb) e))

theorem not32 {s : Nat} (h : s < 4294967296) : 4294967295 ^^^ s = 4294967295 - s := by
  apply Nat.eq_of_testBit_eq
  intro i
  rw [show 4294967295 - s = 2 ^ 32 - (s + 1) by omega, Nat.testBit_two_pow_sub_succ (by simpa using h), Nat.testBit_xor, show (4294967295 : Nat) = 2 ^ 32 - 1 by decide, Nat.testBit_two_pow_sub_one]
  by_cases hi : i < 32
  · simp [hi]
  · have : s.testBit i = false := Nat.testBit_lt_two_pow (Nat.lt_of_lt_of_le h (by have : 2 ^ 32 ≤ 2 ^ i := Nat.pow_le_pow_right (by omega) (by omega); simpa using this))
    simp [hi, this]
theorem crc_check : crc [49, 50, 51, 52, 53, 54, 55, 56, 57] = 3421780262 := by kernel_rfl
end Go.Proofs.YtcidadikmmdalaaDoor.Fr

/- Bytes in memory, the laid table, and the two sums by their contracts. -/
namespace Go.Proofs.YtcidadikmmdalaaDoor.Fr
open Go.RowKit Go.Extern

theorem hide {p : Prop} (h : p) : Hid p := h
theorem cell_lt {w : World} {a : Addr} {v : Value} (h : w.cell? a = some v) : a.block < w.heap.size := by
  rcases Nat.lt_or_ge a.block w.heap.size with g | g
  · exact g
  · simp [World.cell?, Array.getElem?_eq_none g] at h

/-- The table lies as the program's text has it. -/
def Laid (w : World) : Prop := ∀ i, i < 16 → w.cell? ⟨0, i, none⟩ = some (.int .u32 (nibs.getD i 0 : Nat))
theorem Laid.below {w w' : World} (h : Laid w) (hb : Below w.heap.size w w') : Laid w' := fun i hi => by
  rw [hb.cell (cell_lt (h i hi))]; exact h i hi

/-- The value 'v' is, in the world 'w', a slice of the bytes 'bs'. -/
def Bytes (w : World) (v : Value) (bs : List Nat) : Prop :=
  ∃ ao cap g off, v = .slice ao bs.length cap ∧ (0 < bs.length → ao = some ⟨g, off, none⟩) ∧ (∀ (i : Nat) b, bs[i]? = some b → w.cell? ⟨g, off + i, none⟩ = some (.int .u8 (b : Int))) ∧
    (∀ b ∈ bs, b < 256) ∧ bs.length ≤ 140737488355328 ∧ (ao = none → cap = 0) ∧ bs.length ≤ cap ∧ cap ≤ maxLen
theorem Bytes.below {w w' : World} (hb : Below w.heap.size w w') {v : Value} {bs : List Nat} (h : Bytes w v bs) : Bytes w' v bs := by
  obtain ⟨ao, cap, g, off, h1, h2, h3, h4⟩ := h
  exact ⟨ao, cap, g, off, h1, h2, fun i q hq => by rw [hb.cell (cell_lt (h3 i q hq))]; exact h3 i q hq, h4⟩
theorem Bytes.lt {w : World} {v : Value} {bs : List Nat} (h : Bytes w v bs) : ∀ b ∈ bs, b < 256 := by
  obtain ⟨ao, cap, g, off, h1, h2, h3, h4, h5⟩ := h; exact h4
theorem Bytes.len {w : World} {v : Value} {bs : List Nat} (h : Bytes w v bs) : bs.length ≤ 140737488355328 := by
  obtain ⟨ao, cap, g, off, h1, h2, h3, h4, h5, h6⟩ := h; exact h5
theorem Bytes.nil (w : World) : Bytes w (.slice none 0 0) [] := ⟨none, 0, 0, 0, rfl, by simp, by simp, by simp, by simp, by simp, by simp, by simp⟩

/-- The value 'v' is, in the world 'w', a slice of parts. -/
def Parts (w : World) (v : Value) (ps : List (List Nat)) : Prop :=
  ∃ ao cap g off, v = .slice ao ps.length cap ∧ (0 < ps.length → ao = some ⟨g, off, none⟩) ∧ (∀ (i : Nat) p, ps[i]? = some p → ∃ u, w.cell? ⟨g, off + i, none⟩ = some u ∧ Bytes w u p) ∧ ps.length ≤ 140737488355328

theorem take_snoc {α : Type} {l : List α} {j : Nat} {q : α} (h : l[j]? = some q) : l.take (j + 1) = l.take j ++ [q] := by rw [List.take_add_one, h]; rfl

theorem crcFrom_take_lt {bs : List Nat} (h : ∀ b ∈ bs, b < 256) {s : Nat} (hs : s < 4294967296) (j : Nat) : crcFrom s (bs.take j) < 4294967296 :=
  crcFrom_lt _ (fun b hb => h b (List.mem_of_mem_take hb)) hs

/-- What the walk wants of one half byte. -/
theorem nib_facts (x : Nat) (hx : x < 4294967296) : ∃ n d t : Nat, bits .and .u32 (x : Int) 15 = (n : Int) ∧ (x : Int) / 16 = (d : Int) ∧ bits .xor .u32 (d : Int) (t : Int) = ((nib x : Nat) : Int) ∧ (n : Int) < 16 ∧ t = nibs.getD n 0 ∧ nib x < 4294967296 ∧ Hid (n = x % 16) := by
  have ht : ∀ n, n < 16 → nibs.getD n 0 < 4294967296 := by decide
  have h2 : nib x < 4294967296 := by rw [nib_bits]; exact bits2_lt 4 hx
  refine ⟨x % 16, x / 16, nibs.getD (x % 16) 0, ?_, by omega, ?_, by omega, rfl, h2, rfl⟩
  · rw [← nat_mask4]; exact u32_and_nat x 15 hx (by decide)
  · exact u32_xor_nat (x / 16) (nibs.getD (x % 16) 0) (by omega) (ht _ (by omega))

set_option maxRecDepth 100000 in
set_option maxHeartbeats 2000000 in
theorem sum_any (ps : List (List Nat)) (v : Value) (w : World) (hL : Laid w) (hv : Parts w v ps) :
    Calls Tryd.prog 45 #[v] w fun e w' => e = .returned (.int .u32 (crc ps.flatten : Nat)) ∧ w' = w := by
  obtain ⟨ao, cap, g, off, rfl, h2, h3, h4⟩ := hv
  have H2 := hide h2
  have H3 := hide h3
  have HL := hide hL
  have HN := hide h4
  clear h2 h3 hL h4
  go_enter Tryd.func45, Tryd.ntmps45
  go_wp2
  go_loopg [3, 10] ps.length (fun k s i wr => wr = w ∧ ∃ j, j + k = ps.length ∧ i = .int .i64 (j : Int) ∧ s = .int .u32 (crcFrom 4294967295 (ps.take j).flatten : Nat) ∧ crcFrom 4294967295 (ps.take j).flatten < 4294967296)
  case atStart => exact ⟨rfl, 0, by omega, rfl, by simp [crcFrom], by simp [crcFrom]⟩
  case round =>
    obtain ⟨rfl, j, hj, rfl, hs, hlt32⟩ := hrel
    cases gk with
    | zero =>
      have hnl : ¬ (j : Int) < (ps.length : Int) := by omega
      have hend : ps.take j = ps := List.take_of_length_le (by omega)
      rw [hend] at hs hlt32
      have HS : Hid (4294967295 - crcFrom 4294967295 ps.flatten = crc ps.flatten) := rfl
      generalize crcFrom 4294967295 ps.flatten = st at hs hlt32 HS
      subst hs
      have hx : bits .xor .u32 IntKind.u32.max (st : Int) = ((crc ps.flatten : Nat) : Int) := by
        have := u32_xor_nat 4294967295 st (by decide) hlt32
        rw [not32 hlt32, HS.out] at this
        exact this
      clear hend
      go_wp2
      go_ret
      exact ⟨rfl, rfl⟩
    | succ m =>
      have hjl : j < ps.length := by omega
      have hlt : (j : Int) < (ps.length : Int) := by omega
      have hb0 : (0 : Int) ≤ (j : Int) := by omega
      obtain ⟨q, hq⟩ : ∃ q, ps[j]? = some q := ⟨ps[j], by simp [hjl]⟩
      obtain ⟨u, k1, ao2, cap2, g2, off2, rfl, hq2, hq3, hq4, hq5, -⟩ := H3.out j q hq
      have hao : ao = some ⟨g, off, none⟩ := H2.out (by omega)
      subst hao
      have HQ := hide hq
      have HQ2 := hide hq2
      have HQ3 := hide hq3
      have HQ4 := hide hq4
      have HQ5 := hide hq5
      have HS := hide hs
      have HNj : Hid ((j : Int) + 1 < 140737488355328 + 1) := by have := HN.out; show _ < _; omega
      clear hq hq2 hq3 hq4 hq5
      generalize hst0 : crcFrom 4294967295 (ps.take j).flatten = st0 at hs hlt32
      have HST := hide hst0
      subst hs
      clear hst0
      go_wp2
      go_loopg [3, 16] q.length (fun k s i wr2 => wr2 = wr ∧ ∃ l, l + k = q.length ∧ i = .int .i64 (l : Int) ∧ s = .int .u32 (crcFrom st0 (q.take l) : Nat) ∧ crcFrom st0 (q.take l) < 4294967296)
      case atStart => exact ⟨rfl, 0, by omega, rfl, rfl, hlt32⟩
      case round =>
        obtain ⟨rfl, l, hl, rfl, hs2, hlt2⟩ := hrel
        cases gk with
        | zero =>
          have hnl2 : ¬ (l : Int) < (q.length : Int) := by omega
          have hend : q.take l = q := List.take_of_length_le (by omega)
          rw [hend] at hs2 hlt2
          subst hs2
          have hjj := HNj.out
          go_wp2
          go_roundg m
          case measure => omega
          case rel =>
            have e : crcFrom st0 q = crcFrom 4294967295 (ps.take (j + 1)).flatten := by
              rw [take_snoc HQ.out, List.flatten_append, crcFrom_append, HST.out]; simp
            exact ⟨rfl, j + 1, by omega, by go_num, by rw [e], by rw [← e]; exact hlt2⟩
        | succ m2 =>
          have hll : l < q.length := by omega
          have hlt3 : (l : Int) < (q.length : Int) := by omega
          have hb1 : (0 : Int) ≤ (l : Int) := by omega
          obtain ⟨b, hb⟩ : ∃ b, q[l]? = some b := ⟨q[l], by simp [hll]⟩
          have k2 := HQ3.out l b hb
          have hao2 : ao2 = some ⟨g2, off2, none⟩ := HQ2.out (by omega)
          subst hao2
          have hb256 : b < 256 := HQ4.out b (List.mem_of_getElem? hb)
          have HB := hide hb
          have hl63 : (l : Int) + 1 < 140737488355328 + 1 := by have := HQ5.out; omega
          generalize hst : crcFrom st0 (q.take l) = st at hs2 hlt2
          have HST2 := hide hst
          subst hs2
          clear hst hb
          have e0 : IntKind.u32.wrap (b : Int) = (b : Int) := by rw [IntKind.wrap_u32']; omega
          have e1 := u32_xor_nat st b hlt2 (by omega)
          have hx1 : st ^^^ b < 4294967296 := xor_lt32 hlt2 (by omega)
          have HX : Hid (nib (nib (st ^^^ b)) = stepB st b) := stepB_nib st b
          generalize st ^^^ b = x1 at e1 hx1 HX
          obtain ⟨n1, d1, t1, e2, e3, e4, hn1, e5, hx2, HN1⟩ := nib_facts x1 hx1
          have k3 := HL.out n1 (by omega)
          rw [← e5] at k3
          generalize nib x1 = x2 at e4 hx2 HX
          obtain ⟨n2, d2, t2, f2, f3, f4, hn2, f5, hx3, HN2⟩ := nib_facts x2 hx2
          have k4 := HL.out n2 (by omega)
          rw [← f5] at k4
          rw [HX.out] at f4 hx3
          have HX3 := hide hx3
          clear hx1 hx2 hx3 hlt2 hlt32 hlt hjl hj hll e5 f5
          go_wp2
          go_roundg m2
          case measure => omega
          case rel =>
            have e : stepB st b = crcFrom st0 (q.take (l + 1)) := by rw [take_snoc HB.out, crcFrom_append, HST2.out]; rfl
            exact ⟨rfl, l + 1, by omega, by go_num, by rw [e], by rw [← e]; exact HX3.out⟩
end Go.Proofs.YtcidadikmmdalaaDoor.Fr

/- Bytes that a call owns; append onto them; Copy, Clone and Same by their contracts. -/
namespace Go.Proofs.YtcidadikmmdalaaDoor.Fr
open Go.RowKit Go.Extern

/-- Bytes as cells. -/
def cellsB (bs : List Nat) : List Value := bs.map fun b : Nat => Value.int .u8 (b : Int)
theorem cellsB_append (a b : List Nat) : cellsB (a ++ b) = cellsB a ++ cellsB b := by simp [cellsB]
theorem cellsB_length (a : List Nat) : (cellsB a).length = a.length := by simp [cellsB]
theorem cellsB_at {bs : List Nat} {i : Nat} {u : Value} (h : (cellsB bs)[i]? = some u) : ∃ b, bs[i]? = some b ∧ u = .int .u8 (b : Int) := by
  simp only [cellsB, List.getElem?_map, Option.map_eq_some_iff] at h
  obtain ⟨b, h1, h2⟩ := h
  exact ⟨b, h1, h2.symm⟩
theorem cellsB_get {bs : List Nat} {i b : Nat} (h : bs[i]? = some b) : (cellsB bs)[i]? = some (.int .u8 (b : Int)) := by simp [cellsB, h]

/-- 'v' is a slice of the bytes 'bs' in a block of its own, from 'base' on. -/
def Own (w : World) (base : Nat) (v : Value) (bs : List Nat) : Prop :=
  w.ownsRow base 5 1 v bs.length (cellsB bs) ∧ (∀ b ∈ bs, b < 256) ∧ bs.length ≤ 140737488355328

theorem Own.bytes {w : World} {base : Nat} {v : Value} {bs : List Nat} (h : Own w base v bs) : Bytes w v bs := by
  obtain ⟨⟨h1, h2⟩, h3, h4⟩ := h
  rcases h2 with ⟨rfl, h0⟩ | ⟨g, cap, cur, rfl, hg, hh, hc, hm, hs, ht⟩
  · have : bs = [] := List.length_eq_zero_iff.1 h0
    subst this
    exact Bytes.nil w
  · refine ⟨_, cap, g, 0, rfl, fun _ => rfl, fun i b hb => ?_, h3, h4, by simp, hc, hm⟩
    have := (World.ownsRow.cells (w := w) (base := base) (e := 5) (size := 1) (v := .slice (some ⟨g, 0, none⟩) bs.length cap) (n := bs.length) (xs := cellsB bs) ⟨h1, .inr ⟨g, cap, cur, rfl, hg, hh, hc, hm, hs, ht⟩⟩ (g := g) rfl) i _ (cellsB_get hb)
    have e : (⟨g, 0, none⟩ : Addr).add i = ⟨g, 0 + i, none⟩ := by unfold Addr.add; split <;> simp_all
    rw [e] at this; exact this
theorem Own.below {w w' : World} {base : Nat} {v : Value} {bs : List Nat} (h : Own w base v bs) (hb : Below w.heap.size w w') : Own w' base v bs := by
  obtain ⟨⟨h1, h2⟩, h3⟩ := h
  refine ⟨⟨h1, ?_⟩, h3⟩
  rcases h2 with h2 | ⟨g, cap, cur, hv, hg, hh, r⟩
  · exact Or.inl h2
  · refine Or.inr ⟨g, cap, cur, hv, hg, ?_, r⟩
    rw [hb.block g ?_]; exact hh
    rcases Nat.lt_or_ge g w.heap.size with q | q
    · exact q
    · rw [Array.getElem?_eq_none q] at hh; cases hh
theorem Own.base {w : World} {base base' : Nat} {v : Value} {bs : List Nat} (h : Own w base v bs) (hb : base' ≤ base) : Own w base' v bs := by
  obtain ⟨⟨h1, h2⟩, h3⟩ := h
  refine ⟨⟨h1, ?_⟩, h3⟩
  rcases h2 with h2 | ⟨g, cap, cur, hv, hg, r⟩
  · exact Or.inl h2
  · exact Or.inr ⟨g, cap, cur, hv, by omega, r⟩
theorem Own.nil (w : World) (base : Nat) : Own w base (.slice none 0 0) [] := ⟨World.ownsRow_nil _ _ _ _, by simp, by simp⟩
theorem Own.lit (w : World) (base : Nat) (hb : base ≤ w.heap.size) (bs : List Nat) (hl : ∀ b ∈ bs, b < 256) (hn : bs.length ≤ 140737488355328) :
    Own (w.alloc (.cells (cellsB bs).toArray 5)) base (.slice (some ⟨w.heap.size, 0, none⟩) bs.length bs.length) bs :=
  ⟨by have := World.ownsRow_lit (base := base) (e := 5) (size := 1) w (cellsB bs).toArray bs.length hb (by unfold maxLen; omega) (by simp [cellsB]); simpa using this, hl, hn⟩
theorem Own.lt {w : World} {base : Nat} {v : Value} {bs : List Nat} (h : Own w base v bs) : ∀ k, v.ownBlock = some k → base ≤ k ∧ k < w.heap.size := h.1.lt
theorem Own.form {w : World} {base : Nat} {v : Value} {bs : List Nat} (h : Own w base v bs) : ∃ ao cap, v = .slice ao bs.length cap := by
  obtain ⟨⟨h1, h2⟩, h3⟩ := h
  rcases h2 with ⟨rfl, h0⟩ | ⟨g, cap, cur, rfl, hg, r⟩
  · exact ⟨none, 0, by rw [h0]⟩
  · exact ⟨_, _, rfl⟩

theorem infoU8 : (Tryd.prog.info? 5).map (fun i => (i.zero, i.size, i.bytes)) = some (some (.int .u8 0), 1, 1) := by kernel_rfl

theorem grownBy_refl (w : World) (row : Option Nat) : w.grownBy w row := ⟨rfl, rfl, rfl, Nat.le_refl _, fun _ _ _ => rfl⟩

/-- append of any bytes onto bytes that the call owns. -/
theorem run_append_bytes (w : World) (ty : TypeId) (base : Nat) (v x : Value) (xs ys : List Nat) (hown : Own w base v xs) (hb : Bytes w x ys) (hn : xs.length + ys.length ≤ 140737488355328) (hbase : base ≤ w.heap.size) :
    ∃ v' w', (Builtin.append_ #[25, 25] ty #[v, x]).run Tryd.prog w = .ok v' w' ∧ Own w' base v' (xs ++ ys) ∧ w.grownBy w' v.ownBlock ∧ (v'.ownBlock = v.ownBlock ∨ v'.ownBlock = some w.heap.size) := by
  obtain ⟨i0, hi, hi2⟩ := Option.map_eq_some_iff.1 infoU8
  simp only [Prod.mk.injEq] at hi2
  obtain ⟨hz0, hz1, hz2⟩ := hi2
  obtain ⟨ao, cap, g, off, rfl, h2, h3, h4, h5, h6, h7, h8⟩ := hb
  have hall : ∀ b ∈ xs ++ ys, b < 256 := by
    intro b hb
    rcases List.mem_append.1 hb with h | h
    · exact hown.2.1 b h
    · exact h4 b h
  cases ao with
  | none =>
    have hy : ys = [] := by
      rcases Nat.eq_zero_or_pos ys.length with h | h
      · exact List.length_eq_zero_iff.1 h
      · cases h2 h
    subst hy
    obtain rfl := h6 rfl
    exact ⟨v, w, run_append_owned_none (P := Tryd.prog) (w := w) base 25 ty 5 i0 1 Tryd.underlying25 hi v xs.length _ hown.1, by simpa using hown, grownBy_refl _ _, .inl rfl⟩
  | some ad =>
    have hnews : ∀ j u, (cellsB ys)[j]? = some u → w.cell? (ad.add j) = some u := by
      intro j u hu
      obtain ⟨b, hb1, rfl⟩ := cellsB_at hu
      have hpos : 0 < ys.length := by
        rcases Nat.eq_zero_or_pos ys.length with h | h
        · rw [List.length_eq_zero_iff.1 h] at hb1; cases hb1
        · exact h
      have e := Option.some.inj (h2 hpos)
      subst e
      have e : (⟨g, off, none⟩ : Addr).add j = ⟨g, off + j, none⟩ := by unfold Addr.add; split <;> simp_all
      rw [e]; exact h3 j b hb1
    obtain ⟨v', w', hr, ho, hg, -, hat⟩ := run_append_own_at (P := Tryd.prog) w base 25 ty 5 i0 (.int .u8 0) 1 1 Tryd.underlying25 hi hz0 hz1 hz2 rfl (by decide) v xs.length (cellsB xs) hown.1 ad ys.length cap (cellsB ys) (by simp [cellsB]) hnews
      (by intro u hu; simp only [cellsB, List.mem_map] at hu; obtain ⟨b, -, rfl⟩ := hu; rfl) (by unfold maxLen; omega) (by omega) hbase
    exact ⟨v', w', hr, ⟨by rw [cellsB_append, List.length_append]; exact ho, hall, by simpa using hn⟩, hg, hat⟩

theorem wpList_append_bytes {w : World} {ops : Array Oper} {rest : List Oper} {o : Oper} {a : Act} {Q : Exit → Act → World → Prop} (hgd : o.guard = none) (s x : Operand)
    (ho : o.op = .call { callee := .builtin .append, args := #[s, x], argTypes := #[25, 25] })
    (base : Nat) (v u : Value) (xs ys : List Nat) (hs : a.eval s = v) (hx : a.eval x = u) (hown : Own w base v xs) (hb : Bytes w u ys) (hn : xs.length + ys.length ≤ 140737488355328) (hbase : base ≤ w.heap.size)
    (h : ∀ v' w', Own w' base v' (xs ++ ys) → w.grownBy w' v.ownBlock → (v'.ownBlock = v.ownBlock ∨ v'.ownBlock = some w.heap.size) → wpList Tryd.prog ops Q rest (a.put o.dst v') w') : wpList Tryd.prog ops Q (o :: rest) a w := by
  refine wpList_plain hgd fun K hK => ?_
  obtain ⟨v', w', hr, h1, h2, h3⟩ := run_append_bytes w o.type base v u xs ys hown hb hn hbase
  unfold Oper.wp
  simp [execOp, ho, resolve, invoke, builtin, hs, hx, hr, Result.andThen]
  exact hK _ _ (h v' w' h1 h2 h3)

theorem copy_any (bs : List Nat) (v : Value) (w : World) (hv : Bytes w v bs) :
    Calls Tryd.prog 16 #[v] w fun e w' => ∃ u, e = .returned u ∧ Own w' w.heap.size u bs ∧ Below w.heap.size w w' := by
  have HV := hide hv
  obtain ⟨ao, cap, g, off, rfl, -⟩ := hv
  go_enter Tryd.func16, Tryd.ntmps16
  go_wp2_with (at_builtin; refine wpList_append_bytes rfl _ _ rfl w.heap.size _ _ [] bs rfl rfl (Own.nil _ _) HV.out (by have := HV.out.len; simpa using this) (Nat.le_refl _) ?_)
  intro v' w' ho hg hat
  have HO := hide ho
  have HG := hide ((Below.refl w.heap.size w).grown hg (Nat.le_refl _) (by simp [Value.ownBlock]))
  obtain ⟨ao2, cap2, rfl⟩ := ho.form
  clear ho hg hat
  go_wp2
  go_ret
  exact ⟨_, rfl, HO.out, HG.out⟩
end Go.Proofs.YtcidadikmmdalaaDoor.Fr

/- What every row of this seat's proofs needs besides its walk: the laid table, a start that fits, bytes and parts read as data. -/
namespace Go.Proofs.YtcidadikmmdalaaDoor.Fr
open Go.ChangeShapes Go.WideShapes Go.ChangeAt Go.RowKit Go.Deep

theorem own : ownKnob Tryd.prog.godebug = none := by kernel_rfl
theorem laidOut : laidOutB Tryd.prog = true := by kernel_rfl
theorem gNib : Tryd.prog.globalNamed "portage/frame.nibbles" = some 0 := by kernel_rfl
theorem gNibType : (Tryd.prog.globals[0]?).map (·.type) = some 99 := by kernel_rfl
theorem cellsU32 : Tryd.prog.cellsOf 79 = 1 := by kernel_rfl
theorem cellsArr : Tryd.prog.cellsOf 99 = 16 := by kernel_rfl
theorem cellsU8 : Tryd.prog.cellsOf 5 = 1 := by kernel_rfl
theorem cellsInt : Tryd.prog.cellsOf 3 = 1 := by kernel_rfl
theorem cellsBytes : Tryd.prog.cellsOf 25 = 1 := by kernel_rfl
theorem bytesU8 : Tryd.prog.bytesOf 5 = 1 := by kernel_rfl
theorem nibData : (Rows.laid_portage_frame_nibbles : DataW Unit) = Lib.tabData .u32 (nibs.map fun n : Nat => (n : Int)) := by kernel_rfl

theorem laid_of_one {W : World} (h : laidMetH Tryd.prog [("portage/frame.nibbles", Rows.laid_portage_frame_nibbles)] W) : Laid W := by
  have h1 : laidMet Tryd.prog [("portage/frame.nibbles", Rows.laid_portage_frame_nibbles)] W := h
  rw [nibData] at h1
  have h2 := Lib.tabIs_of_head gNib gNibType Tryd.underlying99 Tryd.underlying79 cellsU32 cellsArr h1
  intro i hi
  have hl : (nibs.map fun n : Nat => (n : Int)).length = 16 := rfl
  have h3 := h2.cell gNib i (by rw [hl]; exact hi)
  rw [h3]
  have e : (nibs.map fun n : Nat => (n : Int)).getD i 0 = ((nibs.getD i 0 : Nat) : Int) := by
    have : i < nibs.length := hi
    simp [List.getD, this]
  rw [e]

/-- A world that meets the condition: the heap that the initialisers leave. -/
theorem door_met (os : Os) (args : Array Value) : laidMetH Tryd.prog [("portage/frame.nibbles", Rows.laid_portage_frame_nibbles)] ((World.doorLaid Tryd.prog 14 os).forCall (fun _ _ => 0) ⟨#[], args, []⟩).memory :=
  laidMetH_of_parts3 (fuel := 8) (laidMet_of_run' 8 (by kernel_rfl) (by kernel_rfl)) (by kernel_rfl) (by kernel_rfl)

theorem add_plain' (b off i : Nat) : (⟨b, off, none⟩ : Addr).add i = ⟨b, off + i, none⟩ := by unfold Addr.add; split <;> simp_all

section
variable {H : Type} {enc : TypeId × Value → H} {W : World}

theorem weights_slice {t e : TypeId} (ht : Tryd.prog.underlying t = some (.slice e)) (el sp : List (DataW H)) :
    (DataW.slice el sp).weights Tryd.prog t = (el.length + sp.length) * Tryd.prog.bytesOf e :: (DataW.weightsAll Tryd.prog e el ++ DataW.weightsAll Tryd.prog e sp) := by
  simp only [DataW.weights, ht]
theorem mem_weightsAll {e : TypeId} {y : Nat} : ∀ {l : List (DataW H)} {d : DataW H}, d ∈ l → y ∈ d.weights Tryd.prog e → y ∈ DataW.weightsAll Tryd.prog e l
  | a :: l, d, hd, hy => by
    simp only [DataW.weightsAll, List.mem_append]
    rcases List.mem_cons.1 hd with rfl | h
    · exact Or.inl hy
    · exact Or.inr (mem_weightsAll h hy)

theorem sized_one {t : TypeId} {ts : List TypeId} {d : DataW H} {ds : List (DataW H)} (h : (DataW.weightsEach Tryd.prog (t :: ts) (d :: ds)).all (fun x => decide (x ≤ reachBytes)) = true) : ∀ x ∈ d.weights Tryd.prog t, x ≤ reachBytes := fun x hx => by
  have := List.all_eq_true.1 h x (by simp only [DataW.weightsEach, List.mem_append]; exact Or.inl hx)
  simpa using this
theorem sized_next {t : TypeId} {ts : List TypeId} {d : DataW H} {ds : List (DataW H)} (h : (DataW.weightsEach Tryd.prog (t :: ts) (d :: ds)).all (fun x => decide (x ≤ reachBytes)) = true) : (DataW.weightsEach Tryd.prog ts ds).all (fun x => decide (x ≤ reachBytes)) = true := by
  rw [List.all_eq_true] at *
  exact fun x hx => h x (by simp only [DataW.weightsEach, List.mem_append]; exact Or.inr hx)
/-- Bytes read. -/
theorem bytes_read {n : Nat} {v : Value} {y : DataW H × List MemPlace} (h : DataW.trod enc Tryd.prog W 0 (fun _ => true) true n 25 [v] = some y) (hw : ∀ x ∈ y.1.weights Tryd.prog 25, x ≤ reachBytes) : ∃ bs, Bytes W v bs := by
  rcases open_slice1 Tryd.underlying25 cellsU8 h with ⟨hcs, _⟩ | ⟨a, len, cap, m, k, V, D, Pl, hcs, _, hl, hm, hmm, rfl, hx⟩
  · simp only [List.cons.injEq, and_true] at hcs
    subst hcs
    exact ⟨[], Bytes.nil W⟩
  · simp only [List.cons.injEq, and_true] at hcs
    subst hcs
    simp only [if_true] at hmm
    subst hmm
    have hlen : len ≤ 140737488355328 := by
      have := hw _ (by rw [weights_slice Tryd.underlying25]; exact List.mem_cons_self)
      rw [bytesU8] at this
      simp [reachBytes] at this
      omega
    have each : ∀ i, i < len → ∃ b : Nat, W.cell? (a.add i) = some (.int .u8 (b : Int)) ∧ b < 256 := fun i hi => by
      obtain ⟨h1, h2⟩ := hx i (by omega)
      obtain ⟨z, e1, -, hz⟩ := DataW.trod_int Tryd.underlying5 h2
      simp only [List.cons.injEq, and_true] at e1
      have hz' : (0 : Int) ≤ z ∧ z ≤ 255 := by simpa [Lit.wf, IntKind.min, IntKind.max, IntKind.bits, IntKind.signed] using hz
      refine ⟨z.toNat, ?_, by omega⟩
      rw [h1, e1, Int.toNat_of_nonneg hz'.1]
    obtain ⟨B, hB⟩ := choose_lt each
    refine ⟨(List.range len).map B, ?_⟩
    have hll : ((List.range len).map B).length = len := by simp
    by_cases h0 : len = 0
    · subst h0
      exact ⟨some a, m, 0, 0, by simp, by simp, by simp, by simp, by simp, by simp, by simp, hm⟩
    · obtain ⟨b, off, spot⟩ := a
      have hsp : spot = none := by
        have := (hB 0 (by omega)).1
        exact World.cell?_spot (by simpa [Addr.add] using this)
      subst hsp
      refine ⟨some ⟨b, off, none⟩, m, b, off, by rw [hll], fun _ => rfl, fun i q hq => ?_, fun q hq => ?_, by rw [hll]; exact hlen, by simp, by rw [hll]; exact hl, hm⟩
      · obtain ⟨hi, rfl⟩ := List.getElem?_eq_some_iff.1 hq
        have := (hB i (by simpa using hi)).1
        rw [add_plain'] at this
        simpa using this
      · obtain ⟨i, hi, rfl⟩ := List.mem_map.1 hq
        exact (hB i (List.mem_range.1 hi)).2
end
end Go.Proofs.YtcidadikmmdalaaDoor.Fr

/- Clone and Same by their contracts. -/
namespace Go.Proofs.YtcidadikmmdalaaDoor.Fr
open Go.RowKit Go.Extern

set_option maxRecDepth 100000 in
theorem clone_any (bs : List Nat) (v : Value) (w : World) (hv : Bytes w v bs) :
    Calls Tryd.prog 43 #[v] w fun e w' => ∃ u, e = .returned u ∧ Own w' w.heap.size u bs ∧ Below w.heap.size w w' := by
  have HV := hide hv
  obtain ⟨ao, cap, g, off, rfl, h2, -, -, -, h6, -⟩ := hv
  cases ao with
  | none =>
    have hy : bs = [] := by
      rcases Nat.eq_zero_or_pos bs.length with h | h
      · exact List.length_eq_zero_iff.1 h
      · cases h2 h
    subst hy
    obtain rfl := h6 rfl
    clear h2 h6
    have q1 := Lib.run_eql_slice_nil (P := Tryd.prog) w 25 5 none 0 0 0 0 Tryd.underlying25
    go_enter Tryd.func43, Tryd.ntmps43
    go_wp2
    go_ret
    exact ⟨_, rfl, Own.nil _ _, Below.refl _ _⟩
  | some ad =>
    clear h2 h6
    have q1 := Lib.run_eql_slice_nil (P := Tryd.prog) w 25 5 (some ad) bs.length cap 0 0 Tryd.underlying25
    go_enter Tryd.func43, Tryd.ntmps43
    go_wp2_with (at_builtin; refine wpList_append_bytes rfl _ _ rfl w.heap.size _ _ [] bs rfl rfl (Own.lit w w.heap.size (Nat.le_refl _) [] (by simp) (by simp)) (HV.out.below ((Below.refl _ _).alloc (Nat.le_refl _) _)) (by have := HV.out.len; simpa using this) (by simp) ?_)
    intro v' w' ho hg hat
    have HO := hide ho
    have HG := hide (((Below.refl w.heap.size w).alloc (Nat.le_refl _) (.cells (cellsB []).toArray 5)).grown hg (by simp) (by simp [Value.ownBlock]))
    obtain ⟨ao2, cap2, rfl⟩ := ho.form
    clear ho hg hat
    go_wp2
    go_ret
    exact ⟨_, rfl, HO.out, HG.out⟩

/-- Bytes as a string. -/
def strB (bs : List Nat) : ByteArray := ⟨(bs.map UInt8.ofNat).toArray⟩
theorem strB_nums (bs : List Nat) : strOfNums (bs.map fun b : Nat => (b : Int)) = strB bs := by
  unfold strOfNums strB; congr 2; rw [List.map_map]; rfl
theorem strB_inj : ∀ (a b : List Nat), (∀ x ∈ a, x < 256) → (∀ x ∈ b, x < 256) → strB a = strB b → a = b := by
  intro a b ha hb h
  have h1 : a.map UInt8.ofNat = b.map UInt8.ofNat := by
    have := congrArg (fun s => s.data.toList) h
    simpa [strB] using this
  have h2 := congrArg (List.map UInt8.toNat) h1
  have key : ∀ l : List Nat, (∀ x ∈ l, x < 256) → (l.map UInt8.ofNat).map UInt8.toNat = l := by
    intro l hl
    rw [List.map_map]
    conv => rhs; rw [← List.map_id l]
    exact List.map_congr_left fun x hx => by simpa using hl x hx
  rw [key a ha, key b hb] at h2
  exact h2
theorem run_conv (w : World) (v : Value) (bs : List Nat) (hv : Bytes w v bs) : (convert 25 9 v).run Tryd.prog w = .ok (.string (strB bs)) w := by
  obtain ⟨ao, cap, g, off, rfl, h2, h3, h4, h5, h6, h7, h8⟩ := hv
  rcases Nat.eq_zero_or_pos bs.length with h | h
  · have : bs = [] := List.length_eq_zero_iff.1 h
    subst this
    cases ao with
    | none => exact run_convert_bytes_nil (P := Tryd.prog) w 25 5 Tryd.underlying25 Tryd.underlying5 0 cap 9 Tryd.underlying9
    | some ad =>
      have hl : (loadCells ad 0).run Tryd.prog w = .ok (([] : List Int).map (Value.int .u8)).toArray w := by
        have := run_loadCells_list (P := Tryd.prog) w ad [] (by simp)
        simpa using this
      show (convert 25 9 (.slice (some ad) 0 cap)).run Tryd.prog w = _
      rw [run_convert_bytes_string w 25 9 5 _ 0 cap Tryd.underlying25 Tryd.underlying5 Tryd.underlying9, run_bytesToString w _ 0 cap [] hl]
      rfl
  · obtain rfl := h2 h
    rw [run_convert_bytes_arg (P := Tryd.prog) w 25 5 Tryd.underlying25 Tryd.underlying5 g off bs.length cap (bs.map fun b : Nat => (b : Int)) (by simp) (fun i hi => ?_) 9 Tryd.underlying9, strB_nums]
    rw [h3 i bs[i] (by simp [hi])]
    simp [List.getD, hi]

theorem same_any (a b : List Nat) (v u : Value) (w : World) (hv : Bytes w v a) (hu : Bytes w u b) :
    Calls Tryd.prog 9 #[v, u] w fun e w' => e = .returned (.bool (decide (a = b))) ∧ w' = w := by
  have e1 := run_conv w v a hv
  have e2 := run_conv w u b hu
  have HE : Hid (((strB a).toList == (strB b).toList) = decide (a = b)) := by
    show _ = _
    rw [ByteArray.toList_eq, ByteArray.toList_eq, Bool.eq_iff_iff, beq_iff_eq, decide_eq_true_iff]
    exact ⟨fun h => strB_inj a b hv.lt hu.lt (by have : (strB a).data = (strB b).data := Array.toList_inj.1 h
                                                 cases h1 : strB a; cases h2 : strB b; simp_all), fun h => by rw [h]⟩
  obtain ⟨ao, cap, g, off, rfl, -⟩ := hv
  obtain ⟨ao2, cap2, g2, off2, rfl, -⟩ := hu
  generalize strB a = sa at e1 HE
  generalize strB b = sb at e2 HE
  go_enter Tryd.func9, Tryd.ntmps9
  go_wp2
  go_ret
  exact ⟨by rw [← HE.out]; rfl, rfl⟩
end Go.Proofs.YtcidadikmmdalaaDoor.Fr
