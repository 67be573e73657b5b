/- The reference's Read by its contract. -/
import Derived.Test.YtlgmfiboekmhkaaDoorNext
import Derived.Test.YtlgmfiboekmhkaaDoorNbr
namespace Go.Proofs.YtlgmfiboekmhkaaDoor
open Go.RowKit Go.Extern

theorem val_append (a b : List Nat) : val (a ++ b) = val a * 256 ^ b.length + val b := by
  have h := fold_from b (val a)
  unfold val at h ⊢
  rw [List.foldl_append]; exact h
theorem val_snoc (a : List Nat) (b : Nat) : val (a ++ [b]) = val a * 256 + b := by unfold val; rw [List.foldl_append]; rfl
theorem val_take_le (bs : List Nat) {j k : Nat} (h : j ≤ k) : val (bs.take j) ≤ val (bs.take k) := by
  have e : bs.take k = bs.take j ++ (bs.take k).drop j := by
    conv => lhs; rw [← List.take_append_drop j (bs.take k)]
    rw [List.take_take, Nat.min_eq_left h]
  rw [e, val_append]
  have : val (bs.take j) * 1 ≤ val (bs.take j) * 256 ^ ((bs.take k).drop j).length := Nat.mul_le_mul_left _ (Nat.pow_pos (by decide))
  omega
/-- Eight bytes: too great just if the first is above 63. -/
theorem long_great (bs : List Nat) (h8 : 8 ≤ bs.length) (hlt : ∀ b ∈ bs, b < 256) (b : Nat) (hb : bs[0]? = some b) : (val (bs.take 8) ≤ great 8) ↔ b ≤ 63 := by
  match bs, h8, hb, hlt with
  | b0 :: r, h8, hb, hlt =>
    obtain rfl : b0 = b := by simpa using hb
    have ht : (b0 :: r).take 8 = [b0] ++ r.take 7 := rfl
    have hl : (r.take 7).length = 7 := by simp at h8 ⊢; omega
    have hv := val_lt (r.take 7) (fun x hx => hlt x (List.mem_cons_of_mem _ (List.mem_of_mem_take hx)))
    rw [ht, val_append, hl]
    rw [hl] at hv
    have h1 : val [b0] = b0 := by simp [val]
    rw [h1]
    simp only [great, if_true] at *
    constructor
    · intro h; omega
    · intro h; omega

set_option maxRecDepth 100000 in
set_option maxHeartbeats 400000 in
theorem read_lacks (wd : Nat) (bs : List Nat) (v : Value) (w : World) (hv : Bytes w v bs) (hl : bs.length < wd) :
    Calls Tryd.prog 31 #[v, .int .i64 (wd : Int)] w fun e w' => e = .returned (.tuple #[.int .i64 0, .bool false]) ∧ w' = w := by
  obtain ⟨ao, cap, g, off, rfl, -⟩ := hv
  have hl' : (bs.length : Int) < (wd : Int) := by omega
  go_enter Tryd.func31, Tryd.ntmps31
  go_wp2
  go_ret2
  exact ⟨rfl, rfl⟩

set_option maxRecDepth 100000 in
set_option maxHeartbeats 400000 in
theorem read_great (bs : List Nat) (v : Value) (w : World) (hv : Bytes w v bs) (hl : 8 ≤ bs.length) (b : Nat) (hb : bs[0]? = some b) (h63 : 63 < b) :
    Calls Tryd.prog 31 #[v, .int .i64 8] w fun e w' => e = .returned (.tuple #[.int .i64 0, .bool false]) ∧ w' = w := by
  obtain ⟨g, off, cap, rfl, hc, -, -⟩ := hv.at0 (by omega)
  have c0 : w.cell? ⟨g, off, none⟩ = some (.int .u8 (b : Int)) := hc 0 b hb
  have hl' : ¬ (bs.length : Int) < 8 := by omega
  have hl0 : (0 : Int) < (bs.length : Int) := by omega
  have hn0 : 0 < bs.length := by omega
  have hg : (63 : Int) < (b : Int) := by omega
  have d1 : decide ((bs.length : Int) < 8) = false := by simpa using hl'
  have d2 : decide ((63 : Int) < (b : Int)) = true := by simpa using hg
  clear hv hc hb h63 hl
  go_enter Tryd.func31, Tryd.ntmps31
  go_wp2
  go_ret2
  exact ⟨rfl, rfl⟩

set_option maxRecDepth 100000 in
set_option maxHeartbeats 400000 in
theorem read_eight (bs : List Nat) (v : Value) (w : World) (hv : Bytes w v bs) (hl : 8 ≤ bs.length) (b : Nat) (hb : bs[0]? = some b) (h63 : b ≤ 63) (hgr : val (bs.take 8) < 9223372036854775808) :
    Calls Tryd.prog 31 #[v, .int .i64 8] w fun e w' => e = .returned (.tuple #[.int .i64 (val (bs.take 8) : Nat), .bool true]) ∧ w' = w := by
  have HLT := hide hv.lt
  obtain ⟨g, off, cap, rfl, hc, -, -⟩ := hv.at0 (by omega)
  have c0 : w.cell? ⟨g, off, none⟩ = some (.int .u8 (b : Int)) := hc 0 b hb
  have hl' : ¬ (bs.length : Int) < 8 := by omega
  have hl0 : (0 : Int) < (bs.length : Int) := by omega
  have hn0 : 0 < bs.length := by omega
  have d1 : decide ((bs.length : Int) < 8) = false := by simpa using hl'
  have d2 : decide ((63 : Int) < (b : Int)) = false := by simp; omega
  have HC := hide hc
  have HGR := hide hgr
  clear hv hc hb h63 hgr
  go_enter Tryd.func31, Tryd.ntmps31
  go_wp2
  go_loopg [6, 7] 8 (fun k n i wr => wr = w ∧ ∃ j, j + k = 8 ∧ i = .int .i64 (j : Int) ∧ n = .int .i64 ((val (bs.take j) : Nat) : Int))
  case atStart => exact ⟨rfl, 0, by omega, rfl, by simp [val]⟩
  case round =>
    obtain ⟨rfl, j, hj, rfl, hx⟩ := hrel
    cases gk with
    | zero =>
      obtain hjw : j = 8 := by omega
      rw [hjw] at hx
      have hnl : ¬ (j : Int) < 8 := by omega
      clear hjw
      generalize hxv : val (bs.take 8) = x at hx
      have HXV := hide hxv
      subst hx
      clear hxv
      go_wp2
      go_ret2
      exact ⟨by rw [HXV.out]; rfl, rfl⟩
    | succ m =>
      have hlt : (j : Int) < 8 := by omega
      have hlt2 : (j : Int) < (bs.length : Int) := by omega
      have hb0 : (0 : Int) ≤ (j : Int) := by omega
      obtain ⟨b, hb⟩ : ∃ b, bs[j]? = some b := ⟨bs[j]'(by omega), by simp⟩
      have k1 := HC.out j b hb
      have hb256 : b < 256 := HLT.out b (List.mem_of_getElem? hb)
      have HV : Hid (val (bs.take (j + 1)) = val (bs.take j) * 256 + b) := by show _ = _; rw [take_snoc hb, val_snoc]
      have hle := val_take_le bs (show j + 1 ≤ 8 by omega)
      rw [HV.out] at hle
      have hxb : val (bs.take j) * 256 + b < 9223372036854775808 := by have := HGR.out; omega
      generalize val (bs.take j) = x at *
      subst hx
      have hx0 : (0 : Int) ≤ (x : Int) := by omega
      have hx1 : (x : Int) * 256 + (b : Int) < 9223372036854775808 := by omega
      clear hb hle
      go_wp2
      go_roundg m
      case measure => omega
      case rel => exact ⟨rfl, j + 1, by omega, by go_num, by rw [HV.out]; go_num⟩

set_option maxRecDepth 100000 in
set_option maxHeartbeats 400000 in
theorem read_small (wd : Nat) (hwd : wd ≤ 4) (bs : List Nat) (v : Value) (w : World) (hv : Bytes w v bs) (hl : wd ≤ bs.length) (hpos : 0 < wd) (hgr : val (bs.take wd) < 9223372036854775808) :
    Calls Tryd.prog 31 #[v, .int .i64 (wd : Int)] w fun e w' => e = .returned (.tuple #[.int .i64 (val (bs.take wd) : Nat), .bool true]) ∧ w' = w := by
  have HLT := hide hv.lt
  obtain ⟨g, off, cap, rfl, hc, -, -⟩ := hv.at0 (by omega)
  have hl' : ¬ (bs.length : Int) < (wd : Int) := by omega
  have hw8 : ((wd : Int) == 8) = false := by simp; omega
  have d1 : decide (bs.length < wd) = false := by simp; omega
  have d3 : decide ((bs.length : Int) < (wd : Int)) = false := by simp; omega
  have HC := hide hc
  have HGR := hide hgr
  clear hv hc hgr
  go_enter Tryd.func31, Tryd.ntmps31
  go_wp2
  go_loopg [6, 7] wd (fun k n i wr => wr = w ∧ ∃ j, j + k = wd ∧ i = .int .i64 (j : Int) ∧ n = .int .i64 ((val (bs.take j) : Nat) : Int))
  case atStart => exact ⟨rfl, 0, by omega, rfl, by simp [val]⟩
  case round =>
    obtain ⟨rfl, j, hj, rfl, hx⟩ := hrel
    cases gk with
    | zero =>
      obtain hjw : j = wd := by omega
      rw [hjw] at hx
      have hnl : ¬ (j : Int) < (wd : Int) := by omega
      clear hjw
      generalize hxv : val (bs.take wd) = x at hx
      have HXV := hide hxv
      subst hx
      clear hxv
      go_wp2
      go_ret2
      exact ⟨by rw [HXV.out]; rfl, rfl⟩
    | succ m =>
      have hlt : (j : Int) < (wd : Int) := by omega
      have hlt2 : (j : Int) < (bs.length : Int) := by omega
      have hb0 : (0 : Int) ≤ (j : Int) := by omega
      obtain ⟨b, hb⟩ : ∃ b, bs[j]? = some b := ⟨bs[j]'(by omega), by simp⟩
      have k1 := HC.out j b hb
      have hb256 : b < 256 := HLT.out b (List.mem_of_getElem? hb)
      have HV : Hid (val (bs.take (j + 1)) = val (bs.take j) * 256 + b) := by show _ = _; rw [take_snoc hb, val_snoc]
      have hle := val_take_le bs (show j + 1 ≤ wd by omega)
      rw [HV.out] at hle
      have hxb : val (bs.take j) * 256 + b < 9223372036854775808 := by have := HGR.out; omega
      generalize val (bs.take j) = x at *
      subst hx
      have hx0 : (0 : Int) ≤ (x : Int) := by omega
      have hx1 : (x : Int) * 256 + (b : Int) < 9223372036854775808 := by omega
      clear hb hle
      go_wp2
      go_roundg m
      case measure => omega
      case rel => exact ⟨rfl, j + 1, by omega, by go_num, by rw [HV.out]; go_num⟩

theorem read_any (wd : Nat) (hwd : wd = 1 ∨ wd = 2 ∨ wd = 4 ∨ wd = 8) (bs : List Nat) (v : Value) (w : World) (hv : Bytes w v bs) :
    Calls Tryd.prog 31 #[v, .int .i64 (wd : Int)] w fun e w' => e = .returned (.tuple #[.int .i64 (rdN bs wd : Nat), .bool (readOk bs wd)]) ∧ w' = w := by
  by_cases hl : bs.length < wd
  · have h1 : readOk bs wd = false := by simp [readOk]; omega
    have h2 : rdN bs wd = 0 := by simp [rdN, h1]
    rw [h1, h2]
    exact read_lacks wd bs v w hv hl
  · have hl' : wd ≤ bs.length := by omega
    have hvl := val_lt (bs.take wd) (fun x hx => hv.lt x (List.mem_of_mem_take hx))
    rw [show (bs.take wd).length = wd by simp; omega] at hvl
    by_cases h8 : wd = 8
    · subst h8
      obtain ⟨b, hb⟩ : ∃ b, bs[0]? = some b := ⟨bs[0]'(by omega), by simp⟩
      have hiff := long_great bs hl' hv.lt b hb
      by_cases h63 : b ≤ 63
      · have hv8 := hiff.2 h63
        have h1 : readOk bs 8 = true := by simp [readOk, hl', hv8]
        have h2 : rdN bs 8 = val (bs.take 8) := by simp [rdN, h1]
        rw [h1, h2]
        exact read_eight bs v w hv hl' b hb h63 (by simp [great] at hv8; omega)
      · have h1 : readOk bs 8 = false := by
          have : ¬ val (bs.take 8) ≤ great 8 := fun h => h63 (hiff.1 h)
          simp [readOk]; omega
        have h2 : rdN bs 8 = 0 := by simp [rdN, h1]
        rw [h1, h2]
        exact read_great bs v w hv hl' b hb (by omega)
    · have h4 : wd ≤ 4 := by omega
      have hgr : val (bs.take wd) ≤ great wd := by
        unfold great; rw [if_neg h8]; omega
      have hpw : (256 : Nat) ^ wd ≤ 256 ^ 4 := Nat.pow_le_pow_right (by decide) h4
      have h1 : readOk bs wd = true := by simp [readOk, hl', hgr]
      have h2 : rdN bs wd = val (bs.take wd) := by simp [rdN, h1]
      rw [h1, h2]
      exact read_small wd h4 bs v w hv hl' (by omega) (by simp at hpw; omega)
end Go.Proofs.YtlgmfiboekmhkaaDoor
