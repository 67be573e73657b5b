/- bit, Has, OnesCount64, Count. -/
import Derived.Test.YtkkklobjfoehnaaDoorBm
namespace Go.Proofs.YtkkklobjfoehnaaDoor
open Go.RowKit Go.Extern

theorem wrap_nat (n : Nat) (h : n < 18446744073709551616) : IntKind.u64.wrap (n : Int) = (n : Int) := by rw [IntKind.wrap_u64]; omega
theorem pow_lt (i : Nat) : 2 ^ (i % 64) < 18446744073709551616 := Nat.pow_lt_pow_right (n := 64) (by decide) (Nat.mod_lt _ (by decide))
theorem pow_cast (i : Nat) : (2 : Int) ^ (i % 64) = ((2 ^ (i % 64) : Nat) : Int) := by simp
set_option maxRecDepth 100000 in
theorem bit_any (i : Nat) (hi : i < 1000000) (w : World) :
    Calls Tryd.prog 25 #[.int .i64 (i : Int)] w fun e w' => e = .returned (.int .u64 ((2 ^ (i % 64) : Nat) : Int)) ∧ w' = w := by
  have e1 := i64_and63 i hi
  have HE : Hid (IntKind.u64.wrap ((2 : Int) ^ (i % 64)) = ((2 ^ (i % 64) : Nat) : Int)) := by
    show _ = _
    rw [pow_cast, wrap_nat _ (pow_lt i)]
  go_enter Tryd.func25, Tryd.ntmps25
  go_wp2_with fail
  go_ret
  exact ⟨by rw [← HE.out]; rfl, rfl⟩
theorem andU (a b : Nat) (ha : a < 18446744073709551616) (hb : b < 18446744073709551616) : bits .and .u64 (a : Int) (b : Int) = ((a &&& b : Nat) : Int) := bits_and_u64_nat a b ha hb
theorem half_nat (x k : Nat) : ((x : Int) / (k : Int)) = ((x / k : Nat) : Int) := by omega
theorem and127 (u k : Nat) (hu : u < 18446744073709551616) (hk : u % 128 = k) : bits .and .i64 (wrap64 (u : Int)) 127 = (k : Int) := by
  have h1 : (BitVec.ofInt 64 (wrap64 (u : Int))).toNat = u := by
    rw [BitVec.toNat_ofInt]; unfold wrap64; omega
  have h2 : (BitVec.ofInt 64 (127 : Int)).toNat = 127 := by decide
  show IntKind.i64.wrap ((BitVec.ofInt 64 (wrap64 (u : Int)) &&& BitVec.ofInt 64 (127 : Int)).toNat : Int) = _
  have e : u &&& 127 = u % 128 := Nat.and_two_pow_sub_one_eq_mod u 7
  rw [BitVec.toNat_and, h1, h2, e, hk, IntKind.wrap_i64]
  omega
set_option maxRecDepth 100000 in
theorem ones_any (x : Nat) (hx : x < 18446744073709551616) (w : World) :
    Calls Tryd.prog 30 #[.int .u64 (x : Int)] w fun e w' => e = .returned (.int .i64 (cnt 64 x : Int)) ∧ w' = w := by
  have hp := pop64 x hx
  simp only at hp
  have HC := hide (cnt_le 64 x)
  generalize ha : s1 x = a at hp
  generalize hb : s2 a = b at hp
  generalize hc : s3 b = c at hp
  generalize hy : c + c / 256 = y at hp
  generalize hz : y + y / 65536 = z at hp
  generalize hu : z + z / 4294967296 = u at hp
  obtain ⟨p1, p2, p3, p4, p5, p6, p7⟩ := hp
  generalize cnt 64 x = k at p7 HC
  have q1 : IntKind.u64.wrap (bits .and .u64 ((x : Int) / 2) 6148914691236517205 + bits .and .u64 (x : Int) 6148914691236517205) = (a : Int) := by
    have e1 := andU (x / 2) 6148914691236517205 (by omega) (by decide)
    have e2 := andU x 6148914691236517205 hx (by decide)
    have e3 : ((x : Int) / 2) = ((x / 2 : Nat) : Int) := by omega
    rw [e3]
    have e4 : ((6148914691236517205 : Nat) : Int) = 6148914691236517205 := rfl
    rw [e4] at e1 e2
    rw [e1, e2, ← wrap_nat a p1, ← ha]
    unfold s1
    rw [Int.natCast_add]
  have q2 : IntKind.u64.wrap (bits .and .u64 ((a : Int) / 4) 3689348814741910323 + bits .and .u64 (a : Int) 3689348814741910323) = (b : Int) := by
    have e1 := andU (a / 4) 3689348814741910323 (by omega) (by decide)
    have e2 := andU a 3689348814741910323 p1 (by decide)
    have e3 : ((a : Int) / 4) = ((a / 4 : Nat) : Int) := by omega
    rw [e3]
    have e4 : ((3689348814741910323 : Nat) : Int) = 3689348814741910323 := rfl
    rw [e4] at e1 e2
    rw [e1, e2, ← wrap_nat b p2, ← hb]
    unfold s2
    rw [Int.natCast_add]
  have q3 : bits .and .u64 (IntKind.u64.wrap ((b : Int) / 16 + (b : Int))) 1085102592571150095 = (c : Int) := by
    have e1 := andU (b / 16 + b) 1085102592571150095 p3 (by decide)
    have e3 : ((b : Int) / 16 + (b : Int)) = ((b / 16 + b : Nat) : Int) := by omega
    have e4 : ((1085102592571150095 : Nat) : Int) = 1085102592571150095 := rfl
    rw [e4] at e1
    rw [e3, wrap_nat _ p3, e1, ← hc]
    rfl
  have q4 : IntKind.u64.wrap ((c : Int) + (c : Int) / 256) = (y : Int) := by rw [IntKind.wrap_u64]; omega
  have q5 : IntKind.u64.wrap ((y : Int) + (y : Int) / 65536) = (z : Int) := by rw [IntKind.wrap_u64]; omega
  have q6 : IntKind.u64.wrap ((z : Int) + (z : Int) / 4294967296) = (u : Int) := by rw [IntKind.wrap_u64]; omega
  clear ha hb hc hy hz hu p1 p2 p3 p4 p5
  go_enter Tryd.func30, Tryd.ntmps30
  go_wp2_with (simp only [q1, q2, q3, q4, q5, q6])
  go_ret
  exact ⟨by rw [← and127 u k p6 p7]; rfl, rfl⟩
theorem shr6 (i : Nat) : ((i : Int) / 64) = ((i / 64 : Nat) : Int) := by omega
end Go.Proofs.YtkkklobjfoehnaaDoor
