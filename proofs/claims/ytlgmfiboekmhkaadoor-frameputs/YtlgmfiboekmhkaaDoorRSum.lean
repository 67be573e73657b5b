/- The document's sum, by its contract. -/
import Derived.Test.YtlgmfiboekmhkaaDoorNbr
namespace Go.Proofs.YtlgmfiboekmhkaaDoor
open Go.RowKit Go.Extern

theorem i64_xor_nat (a b : Nat) (ha : a < 9223372036854775808) (hb : b < 9223372036854775808) : bits .xor .i64 (a : Int) (b : Int) = ((a ^^^ b : Nat) : Int) := by
  have hx : a ^^^ b < 2 ^ 63 := Nat.xor_lt_two_pow (by omega) (by omega)
  show IntKind.i64.wrap ((BitVec.ofInt 64 (a : Int) ^^^ BitVec.ofInt 64 (b : Int)).toNat : Int) = _
  rw [BitVec.toNat_xor, ofInt_u64 a (by omega), ofInt_u64 b (by omega), IntKind.wrap_i64]
  omega
theorem i64_and_nat (a b : Nat) (ha : a < 9223372036854775808) (hb : b < 9223372036854775808) : bits .and .i64 (a : Int) (b : Int) = ((a &&& b : Nat) : Int) := by
  have hx : a &&& b < 2 ^ 63 := Nat.and_lt_two_pow _ (by omega)
  show IntKind.i64.wrap ((BitVec.ofInt 64 (a : Int) &&& BitVec.ofInt 64 (b : Int)).toNat : Int) = _
  rw [BitVec.toNat_and, ofInt_u64 a (by omega), ofInt_u64 b (by omega), IntKind.wrap_i64]
  omega
theorem i64_and_one (a : Nat) (ha : a < 9223372036854775808) : bits .and .i64 (a : Int) 1 = ((a % 2 : Nat) : Int) := by
  rw [← nat_mask1]; exact i64_and_nat a 1 ha (by decide)

/-- What the walk wants of one bit. -/
theorem bit_facts (x b l : Nat) (hx : x < 4294967296) (hb : b < 256) : ∃ d t px y z : Nat, (b : Int) / 2 ^ l = (d : Int) ∧ bits .and .i64 (d : Int) 1 = (t : Int) ∧ bits .and .i64 (x : Int) 1 = (px : Int) ∧ (x : Int) / 2 = (y : Int) ∧ bits .xor .i64 (y : Int) 3988292384 = (z : Int) ∧
    Hid (refBit x (b / 2 ^ l % 2) = if px ≠ t then z else y) ∧ y < 4294967296 := by
  have hd0 : b / 2 ^ l ≤ b := Nat.div_le_self _ _
  refine ⟨b / 2 ^ l, b / 2 ^ l % 2, x % 2, x / 2, x / 2 ^^^ 3988292384, by simp, i64_and_one _ (by omega), i64_and_one _ (by omega), by omega, i64_xor_nat (x / 2) 3988292384 (by omega) (by decide), rfl, ?_⟩
  omega

set_option maxRecDepth 100000 in
set_option maxHeartbeats 2000000 in
theorem rsum_any (bs : List Nat) (v : Value) (w : World) (hv : Bytes w v bs) :
    Calls Tryd.prog 11 #[v] w fun e w' => e = .returned (.int .i64 (crc bs : Nat)) ∧ w' = w := by
  obtain ⟨ao, cap, g, off, rfl, h2, h3, h4, h5, -⟩ := hv
  have H2 := hide h2
  have H3 := hide h3
  have H4 := hide h4
  have H5 := hide h5
  clear h2 h3 h4 h5
  go_enter Tryd.func11, Tryd.ntmps11
  go_wp2
  go_loopg [3, 4] bs.length (fun k s i wr => wr = w ∧ ∃ j, j + k = bs.length ∧ i = .int .i64 (j : Int) ∧ s = .int .i64 (crcFrom 4294967295 (bs.take j) : Nat) ∧ crcFrom 4294967295 (bs.take j) < 4294967296)
  case atStart => exact ⟨rfl, 0, by omega, rfl, rfl, by simp [crcFrom]⟩
  case round =>
    obtain ⟨rfl, j, hj, rfl, hs, hlt32⟩ := hrel
    cases gk with
    | zero =>
      have hnl : ¬ (j : Int) < (bs.length : Int) := by omega
      have hend : bs.take j = bs := List.take_of_length_le (by omega)
      rw [hend] at hs hlt32
      have HS : Hid ((4294967295 : Int) - (crcFrom 4294967295 bs : Nat) = (crc bs : Nat)) := by show _ = _; unfold crc; omega
      generalize crcFrom 4294967295 bs = st at hs hlt32 HS
      subst hs
      clear hend
      go_wp2
      go_ret
      exact ⟨by rw [← HS.out]; rfl, rfl⟩
    | succ m =>
      have hjl : j < bs.length := by omega
      have hlt : (j : Int) < (bs.length : Int) := by omega
      have hb0 : (0 : Int) ≤ (j : Int) := by omega
      obtain ⟨b, hb⟩ : ∃ b, bs[j]? = some b := ⟨bs[j], by simp [hjl]⟩
      have k1 := H3.out j b hb
      have hb256 : b < 256 := H4.out b (List.mem_of_getElem? hb)
      obtain rfl := H2.out (by omega)
      have HB := hide hb
      have HJ : Hid ((j : Int) + 1 < 140737488355328 + 1) := by have := H5.out; show _ < _; omega
      generalize hst : crcFrom 4294967295 (bs.take j) = st at hs hlt32
      have HST := hide hst
      subst hs
      clear hst hb
      go_wp2
      go_loopg [3, 5] 8 (fun k s i wr2 => wr2 = wr ∧ ∃ l, l + k = 8 ∧ i = .int .i64 (l : Int) ∧ s = .int .i64 (refBits st b l : Nat) ∧ refBits st b l < 4294967296)
      case atStart => exact ⟨rfl, 0, by omega, rfl, rfl, hlt32⟩
      case round =>
        obtain ⟨rfl, l, hl, rfl, hs2, hlt2⟩ := hrel
        have hstep : refBits st b (l + 1) = refBit (refBits st b l) (b / 2 ^ l % 2) := rfl
        have hlt3 : refBits st b (l + 1) < 4294967296 := refBits_lt hlt32 (l + 1)
        cases gk with
        | zero =>
          obtain rfl : l = 8 := by omega
          rw [refBits_eight st b hb256] at hs2 hlt2
          clear hstep hlt3
          have HS8 : Hid (stepB st b = crcFrom 4294967295 (bs.take (j + 1))) := by show _ = _; rw [take_snoc HB.out, crcFrom_append, HST.out]; rfl
          have HL8 := hide hlt2
          generalize stepB st b = s8 at hs2 HS8 HL8
          subst hs2
          have hjj := HJ.out
          clear hlt2 hb256 hlt32
          go_wp2
          go_roundg m
          case measure => omega
          case rel => exact ⟨rfl, j + 1, by omega, by go_num, by rw [HS8.out], by rw [← HS8.out]; exact HL8.out⟩
        | succ m2 =>
          have hl8 : l < 8 := by omega
          have HST2 := hide hstep
          have HLT3 := hide hlt3
          obtain ⟨d, t, px, y, z, f1, f2, f3, f4, f5, HF6, f7⟩ := bit_facts (refBits st b l) b l hlt2 hb256
          have HF8 : Hid (refBits st b (l + 1) = if px ≠ t then z else y) := by show _ = _; rw [HST2.out]; exact HF6.out
          generalize refBits st b l = x at hs2 hlt2 f3 f4
          subst hs2
          have hl8i : (l : Int) < 8 := by omega
          have hl0 : (0 : Int) ≤ (l : Int) := by omega
          have hmin : min l 64 = l := by omega
          clear hstep hlt3 hlt2 hlt32 hjl hj HF6 HST2
          by_cases hxt : px = t
          · subst hxt
            have HF9 : Hid (refBits st b (l + 1) = y) := by show _ = _; rw [HF8.out]; simp
            clear HF8
            go_wp2
            go_roundg m2
            case measure => omega
            case rel => exact ⟨rfl, l + 1, by omega, by go_num, by rw [HF9.out], HLT3.out⟩
          · have HF9 : Hid (refBits st b (l + 1) = z) := by show _ = _; rw [HF8.out]; simp [hxt]
            have hxt' : ((px : Int) != (t : Int)) = true := by simp; omega
            clear HF8 hxt
            go_wp2
            go_roundg m2
            case measure => omega
            case rel => exact ⟨rfl, l + 1, by omega, by go_num, by rw [HF9.out], HLT3.out⟩
end Go.Proofs.YtlgmfiboekmhkaaDoor
