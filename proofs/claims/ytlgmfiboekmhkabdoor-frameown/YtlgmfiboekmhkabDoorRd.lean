/- readNumber by its contract. -/
import Derived.Test.YtlgmfiboekmhkabDoorNum
import Derived.BigQuiet
namespace Go.Proofs.YtlgmfiboekmhkabDoor
open Go.RowKit Go.Extern

theorem IntKind.wrap_u64' (n : Int) : IntKind.u64.wrap n = n % 18446744073709551616 := by simp [IntKind.wrap, IntKind.bits, IntKind.signed]
theorem Bytes.at0 {w : World} {v : Value} {bs : List Nat} (h : Bytes w v bs) (hp : 0 < bs.length) : ∃ g off cap, v = .slice (some ⟨g, off, none⟩) bs.length cap ∧ (∀ (i : Nat) b, bs[i]? = some b → w.cell? ⟨g, off + i, none⟩ = some (.int .u8 (b : Int))) ∧ bs.length ≤ cap ∧ cap ≤ 9223372036854775807 := by
  obtain ⟨ao, cap, g, off, rfl, h2, h3, h4, h5, h6, h7, h8⟩ := h
  rw [h2 hp]
  exact ⟨g, off, cap, rfl, h3, h7, by unfold maxLen at h8; omega⟩

theorem or_lo (x b : Nat) (k : Nat) (hx : x % 2 ^ k = 0) (hb : b < 2 ^ k) (hx64 : x < 18446744073709551616) (hb64 : b < 18446744073709551616) : bits .or .u64 (x : Int) (b : Int) = ((x + b : Nat) : Int) := by
  rw [u64_or_nat x b hx64 hb64, nat_join k x b hx hb]
theorem or_zero (x : Nat) (hx : x < 18446744073709551616) : bits .or .u64 0 (x : Int) = (x : Int) := by
  have := u64_or_nat 0 x (by decide) hx; simpa using this
/-- Two bytes joined behind a number, as the walk spells it: (x·2^16 | b·2^8) | c. -/
theorem or_two (x b c : Nat) (hx : x < 281474976710656) (hb : b < 256) (hc : c < 256) : ∃ p q : Nat, bits .or .u64 ((x : Int) * 65536) ((b : Int) * 256) = (p : Int) ∧ bits .or .u64 (p : Int) (c : Int) = (q : Int) ∧ q = (x * 256 + b) * 256 + c := by
  refine ⟨x * 65536 + b * 256, (x * 256 + b) * 256 + c, ?_, ?_, rfl⟩
  · rw [show (x : Int) * 65536 = ((x * 65536 : Nat) : Int) by omega, show (b : Int) * 256 = ((b * 256 : Nat) : Int) by omega]
    exact or_lo (x * 65536) (b * 256) 16 (by omega) (by omega) (by omega) (by omega)
  · rw [or_lo (x * 65536 + b * 256) c 8 (by omega) (by omega) (by omega) (by omega)]
    exact congrArg _ (by omega)
/-- One byte joined behind a number. -/
theorem or_one (x c : Nat) (hx : x < 72057594037927936) (hc : c < 256) : ∃ q : Nat, bits .or .u64 ((x : Int) * 256) (c : Int) = (q : Int) ∧ q = x * 256 + c := by
  refine ⟨x * 256 + c, ?_, rfl⟩
  rw [show (x : Int) * 256 = ((x * 256 : Nat) : Int) by omega]
  exact or_lo (x * 256) c 8 (by omega) (by omega) (by omega) (by omega)
/-- The first four of eight bytes, as the walk spells them. -/
theorem or_four (a b c d : Nat) (ha : a < 256) (hb : b < 256) (hc : c < 256) (hd : d < 256) : ∃ p q r : Nat, bits .or .u64 ((a : Int) * 16777216) ((b : Int) * 65536) = (p : Int) ∧ bits .or .u64 (p : Int) ((c : Int) * 256) = (q : Int) ∧ bits .or .u64 (q : Int) (d : Int) = (r : Int) ∧ r = ((a * 256 + b) * 256 + c) * 256 + d := by
  refine ⟨a * 16777216 + b * 65536, a * 16777216 + b * 65536 + c * 256, ((a * 256 + b) * 256 + c) * 256 + d, ?_, ?_, ?_, rfl⟩
  · rw [show (a : Int) * 16777216 = ((a * 16777216 : Nat) : Int) by omega, show (b : Int) * 65536 = ((b * 65536 : Nat) : Int) by omega]
    exact or_lo (a * 16777216) (b * 65536) 24 (by omega) (by omega) (by omega) (by omega)
  · rw [show (c : Int) * 256 = ((c * 256 : Nat) : Int) by omega]
    exact or_lo (a * 16777216 + b * 65536) (c * 256) 16 (by omega) (by omega) (by omega) (by omega)
  · rw [or_lo (a * 16777216 + b * 65536 + c * 256) d 8 (by omega) (by omega) (by omega) (by omega)]
    exact congrArg _ (by omega)
theorem wrap64 (x : Nat) (hx : x < 18446744073709551616) : IntKind.u64.wrap (x : Int) = (x : Int) := by rw [IntKind.wrap_u64']; omega
theorem below_drewN (w : World) (n : Nat) : Below w.heap.size w (w.drewN n) := ⟨rfl, rfl, rfl, Nat.le_refl _, fun _ _ => rfl⟩

set_option maxRecDepth 100000 in
set_option maxHeartbeats 2000000 in
theorem readNumber1 (b0 : Nat) (r : List Nat) (v : Value) (w : World) (hv : Bytes w v (b0 :: r)) :
    Calls Tryd.prog 24 #[v, .int .i64 1] w fun e w' => e = .returned (.int .u64 (val [b0] : Nat)) ∧ Below w.heap.size w w' := by
  obtain ⟨g, off, cap, rfl, h3, h7, h8⟩ := hv.at0 (by simp)
  have c0 : w.cell? ⟨g, off, none⟩ = _ := h3 0 b0 rfl
  have l0 := hv.lt b0 (by simp)
  generalize hlen : (b0 :: r).length = len at *
  have hl : 1 ≤ len := by rw [← hlen]; simp
  clear hlen h3 hv
  have n0 : 0 < len := by omega
  have i0 : (0 : Int) < (len : Int) := by omega
  have u0 : IntKind.u64.wrap 0 = 0 := by decide
  have e0 := wrap64 b0 (by omega)
  have o1 := or_zero b0 (by omega)
  have HV : Hid (val [b0] = b0) := by show _ = _; simp [val]
  go_enter Tryd.func24, Tryd.ntmps24
  go_wp2
  go_ret
  rw [HV.out]
  exact ⟨rfl, Below.refl _ _⟩

set_option maxRecDepth 100000 in
set_option maxHeartbeats 2000000 in
theorem readNumber2 (b0 b1 : Nat) (r : List Nat) (v : Value) (w : World) (hv : Bytes w v (b0 :: b1 :: r)) :
    Calls Tryd.prog 24 #[v, .int .i64 2] w fun e w' => e = .returned (.int .u64 (val [b0, b1] : Nat)) ∧ Below w.heap.size w w' := by
  obtain ⟨g, off, cap, rfl, h3, h7, h8⟩ := hv.at0 (by simp)
  have c0 : w.cell? ⟨g, off, none⟩ = _ := h3 0 b0 rfl
  have c1 := h3 1 b1 rfl
  have l0 := hv.lt b0 (by simp)
  have l1 := hv.lt b1 (by simp)
  generalize hlen : (b0 :: b1 :: r).length = len at *
  have hl : 2 ≤ len := by rw [← hlen]; simp
  clear hlen h3 hv
  have n0 : 0 < len := by omega
  have n1 : 1 < len := by omega
  have i0 : (0 : Int) < (len : Int) := by omega
  have i1 : (1 : Int) < (len : Int) := by omega
  have u0 : IntKind.u64.wrap 0 = 0 := by decide
  have e0 := wrap64 b0 (by omega)
  have e1 := wrap64 b1 (by omega)
  obtain ⟨y1, o1, hy1⟩ := or_one 0 b0 (by decide) l0
  have o1' : bits .or .u64 0 (b0 : Int) = (y1 : Int) := by rw [← o1]; rfl
  obtain ⟨y2, o2, hy2⟩ := or_one y1 b1 (by omega) l1
  have y1b : y1 < 256 := by omega
  have HV : Hid (val [b0, b1] = y2) := by show _ = _; simp only [val, List.foldl]; omega
  clear o1 hy1 hy2
  go_enter Tryd.func24, Tryd.ntmps24
  go_wp2
  go_ret
  rw [HV.out]
  exact ⟨rfl, Below.refl _ _⟩

set_option maxRecDepth 100000 in
set_option maxHeartbeats 2000000 in
theorem readNumber4 (b0 b1 b2 b3 : Nat) (r : List Nat) (v : Value) (w : World) (hv : Bytes w v (b0 :: b1 :: b2 :: b3 :: r)) :
    Calls Tryd.prog 24 #[v, .int .i64 4] w fun e w' => e = .returned (.int .u64 (val [b0, b1, b2, b3] : Nat)) ∧ Below w.heap.size w w' := by
  obtain ⟨g, off, cap, rfl, h3, h7, h8⟩ := hv.at0 (by simp)
  have c0 : w.cell? ⟨g, off, none⟩ = _ := h3 0 b0 rfl
  have c1 := h3 1 b1 rfl
  have c2 := h3 2 b2 rfl
  have c3 := h3 3 b3 rfl
  have l0 := hv.lt b0 (by simp)
  have l1 := hv.lt b1 (by simp)
  have l2 := hv.lt b2 (by simp)
  have l3 := hv.lt b3 (by simp)
  generalize hlen : (b0 :: b1 :: b2 :: b3 :: r).length = len at *
  have hl : 4 ≤ len := by rw [← hlen]; simp
  clear hlen h3 hv
  have n0 : 0 < len := by omega
  have n1 : 1 < len := by omega
  have n2 : 2 < len := by omega
  have n3 : 3 < len := by omega
  have i0 : (0 : Int) < (len : Int) := by omega
  have i1 : (1 : Int) < (len : Int) := by omega
  have i2 : (2 : Int) < (len : Int) := by omega
  have i3 : (3 : Int) < (len : Int) := by omega
  have u0 : IntKind.u64.wrap 0 = 0 := by decide
  have e0 := wrap64 b0 (by omega)
  have e1 := wrap64 b1 (by omega)
  have e2 := wrap64 b2 (by omega)
  have e3 := wrap64 b3 (by omega)
  obtain ⟨p1, y1, o1, o2, hy1⟩ := or_two 0 b0 b1 (by decide) l0 l1
  have o1' : bits .or .u64 0 ((b0 : Int) * 256) = (p1 : Int) := by rw [← o1]; rfl
  obtain ⟨y2, o3, hy2⟩ := or_one y1 b2 (by omega) l2
  obtain ⟨y3, o4, hy3⟩ := or_one y2 b3 (by omega) l3
  have y1b : y1 < 65536 := by omega
  have y2b : y2 < 16777216 := by omega
  have HV : Hid (val [b0, b1, b2, b3] = y3) := by show _ = _; simp only [val, List.foldl]; omega
  clear hy1 hy2 hy3 o1
  go_enter Tryd.func24, Tryd.ntmps24
  go_wp2
  go_quiet (fail)
  go_wp2
  go_ret
  rw [HV.out]
  exact ⟨rfl, below_drewN _ _⟩

set_option maxRecDepth 100000 in
set_option maxHeartbeats 2000000 in
theorem readNumber8 (b0 b1 b2 b3 b4 b5 b6 b7 : Nat) (r : List Nat) (v : Value) (w : World) (hv : Bytes w v (b0 :: b1 :: b2 :: b3 :: b4 :: b5 :: b6 :: b7 :: r)) :
    Calls Tryd.prog 24 #[v, .int .i64 8] w fun e w' => e = .returned (.int .u64 (val [b0, b1, b2, b3, b4, b5, b6, b7] : Nat)) ∧ Below w.heap.size w w' := by
  obtain ⟨g, off, cap, rfl, h3, h7, h8⟩ := hv.at0 (by simp)
  have c0 : w.cell? ⟨g, off, none⟩ = _ := h3 0 b0 rfl
  have c1 := h3 1 b1 rfl
  have c2 := h3 2 b2 rfl
  have c3 := h3 3 b3 rfl
  have c4 := h3 4 b4 rfl
  have c5 := h3 5 b5 rfl
  have c6 := h3 6 b6 rfl
  have c7 := h3 7 b7 rfl
  have l0 := hv.lt b0 (by simp)
  have l1 := hv.lt b1 (by simp)
  have l2 := hv.lt b2 (by simp)
  have l3 := hv.lt b3 (by simp)
  have l4 := hv.lt b4 (by simp)
  have l5 := hv.lt b5 (by simp)
  have l6 := hv.lt b6 (by simp)
  have l7 := hv.lt b7 (by simp)
  generalize hlen : (b0 :: b1 :: b2 :: b3 :: b4 :: b5 :: b6 :: b7 :: r).length = len at *
  have hl : 8 ≤ len := by rw [← hlen]; simp
  clear hlen h3 hv
  have n0 : 0 < len := by omega
  have n1 : 1 < len := by omega
  have n2 : 2 < len := by omega
  have n3 : 3 < len := by omega
  have i0 : (0 : Int) < (len : Int) := by omega
  have i1 : (1 : Int) < (len : Int) := by omega
  have i2 : (2 : Int) < (len : Int) := by omega
  have i3 : (3 : Int) < (len : Int) := by omega
  have u0 : IntKind.u64.wrap 0 = 0 := by decide
  have e0 := wrap64 b0 (by omega)
  have e1 := wrap64 b1 (by omega)
  have e2 := wrap64 b2 (by omega)
  have e3 := wrap64 b3 (by omega)
  have e4 := wrap64 b4 (by omega)
  have e5 := wrap64 b5 (by omega)
  have e6 := wrap64 b6 (by omega)
  have e7 := wrap64 b7 (by omega)
  have n4 : 0 < len - 4 := by omega
  have n5 : 1 < len - 4 := by omega
  have n6 : 0 < len - 4 - 2 := by omega
  have n7 : 0 < len - 4 - 2 - 1 := by omega
  have m4 : 4 ≤ len := by omega
  have m5 : 2 ≤ len - 4 := by omega
  have m6 : 1 ≤ len - 4 - 2 := by omega
  obtain ⟨p1, p2, y1, o1, o2, o3, hy1⟩ := or_four b0 b1 b2 b3 l0 l1 l2 l3
  obtain ⟨p3, y2, o4, o5, hy2⟩ := or_two y1 b4 b5 (by omega) l4 l5
  obtain ⟨y3, o6, hy3⟩ := or_one y2 b6 (by omega) l6
  obtain ⟨y4, o7, hy4⟩ := or_one y3 b7 (by omega) l7
  have y1b : y1 < 4294967296 := by omega
  have y2b : y2 < 281474976710656 := by omega
  have y3b : y3 < 72057594037927936 := by omega
  have HV : Hid (val [b0, b1, b2, b3, b4, b5, b6, b7] = y4) := by show _ = _; simp only [val, List.foldl]; omega
  clear hy1 hy2 hy3 hy4
  go_enter Tryd.func24, Tryd.ntmps24
  go_wp2
  go_quiet (fail)
  go_wp2
  go_quiet (fail)
  go_wp2
  go_ret
  rw [HV.out]
  exact ⟨rfl, below_drewN _ _⟩

theorem split_take {k : Nat} {bs : List Nat} (h : k ≤ bs.length) : bs = bs.take k ++ bs.drop k ∧ (bs.take k).length = k := ⟨(List.take_append_drop k bs).symm, by simp [h]⟩
/-- readNumber, whatever the width. -/
theorem readNumber_any (wd : Nat) (hwd : wd = 1 ∨ wd = 2 ∨ wd = 4 ∨ wd = 8) (bs : List Nat) (hl : wd ≤ bs.length) (v : Value) (w : World) (hv : Bytes w v bs) :
    Calls Tryd.prog 24 #[v, .int .i64 (wd : Int)] w fun e w' => e = .returned (.int .u64 (val (bs.take wd) : Nat)) ∧ Below w.heap.size w w' := by
  obtain ⟨e, hk⟩ := split_take hl
  generalize bs.take wd = t at *
  rw [e] at hv
  rcases hwd with rfl | rfl | rfl | rfl
  · match t, hk with
    | [b0], _ => exact readNumber1 b0 _ v w hv
  · match t, hk with
    | [b0, b1], _ => exact readNumber2 b0 b1 _ v w hv
  · match t, hk with
    | [b0, b1, b2, b3], _ => exact readNumber4 b0 b1 b2 b3 _ v w hv
  · match t, hk with
    | [b0, b1, b2, b3, b4, b5, b6, b7], _ => exact readNumber8 b0 b1 b2 b3 b4 b5 b6 b7 _ v w hv
end Go.Proofs.YtlgmfiboekmhkabDoor
