/- greatest and Fits by their contracts. -/
import Derived.Test.YtlgmfiboekmhkabDoorNum
namespace Go.Proofs.YtlgmfiboekmhkabDoor
open Go.RowKit Go.Extern

/-- The greatest number of so many bytes. -/
def great (wd : Nat) : Nat := if wd = 8 then 4611686018427387903 else 256 ^ wd - 1

theorem greatest_any (wd : Nat) (hwd : wd = 1 ∨ wd = 2 ∨ wd = 4 ∨ wd = 8) (w : World) :
    Calls Tryd.prog 30 #[.int .i64 (wd : Int)] w fun e w' => e = .returned (.int .u64 (great wd : Nat)) ∧ w' = w := by
  rcases hwd with rfl | rfl | rfl | rfl
  all_goals
    go_enter Tryd.func30, Tryd.ntmps30
    go_wp2
    go_ret
    exact ⟨rfl, rfl⟩

/-- Does a number fit? -/
def fitB (n : Int) (wd : Nat) : Bool := decide (0 ≤ n ∧ n ≤ great wd)

theorem fit_div (n : Nat) : ∀ k, n / 256 ^ k = 0 ↔ n < 256 ^ k := fun k => Nat.div_eq_zero_iff_lt (Nat.pow_pos (by decide))

set_option maxRecDepth 100000 in
set_option maxHeartbeats 1000000 in
theorem fits_any (n : Int) (wd : Nat) (hwd : wd = 1 ∨ wd = 2 ∨ wd = 4 ∨ wd = 8) (hn : -9223372036854775808 ≤ n ∧ n < 9223372036854775808) (w : World) :
    Calls Tryd.prog 18 #[.int .i64 n, .int .i64 (wd : Int)] w fun e w' => e = .returned (.bool (fitB n wd)) ∧ w' = w := by
  have hwd8 : (wd : Int) ≤ 8 := by omega
  by_cases h0 : n < 0
  · have hf : fitB n wd = false := by simp [fitB]; omega
    rw [hf]
    clear hf
    go_enter Tryd.func18, Tryd.ntmps18
    go_wp2
    go_ret
    exact ⟨rfl, rfl⟩
  · obtain ⟨m, rfl⟩ : ∃ m : Nat, n = (m : Int) := ⟨n.toNat, by omega⟩
    by_cases h8 : wd = 8 ∧ 4611686018427387903 < m
    · have hf : fitB m wd = false := by simp [fitB, great, h8.1]; omega
      rw [hf]
      obtain ⟨rfl, hm⟩ := h8
      have hm' : (4611686018427387903 : Int) < (m : Int) := by omega
      clear hf
      go_enter Tryd.func18, Tryd.ntmps18
      go_wp2
      go_ret
      exact ⟨rfl, rfl⟩
    · have HF : Hid (fitB m wd = decide (m / 256 ^ wd = 0)) := by
        show _ = _
        unfold fitB
        rw [decide_eq_decide, fit_div]
        unfold great
        rcases hwd with rfl | rfl | rfl | rfl <;> simp <;> omega
      have H8 : Hid (¬ (wd = 8 ∧ 4611686018427387903 < m)) := h8
      by_cases hq : wd = 8
      · have hm' : ¬ (4611686018427387903 : Int) < (m : Int) := by omega
        subst hq
        clear h8
        go_enter Tryd.func18, Tryd.ntmps18
        go_wp2
        go_loopg [0, 5] 8 (fun k n i wr => wr = w ∧ ∃ j, j + k = 8 ∧ i = .int .i64 (j : Int) ∧ n = .int .i64 ((m / 256 ^ j : Nat) : Int))
        case atStart => exact ⟨rfl, 0, by omega, rfl, by simp⟩
        case round =>
          obtain ⟨rfl, j, hj, rfl, hx⟩ := hrel
          have HX : Hid (m / 256 ^ (j + 1) = m / 256 ^ j / 256) := by show _ = _; rw [Nat.pow_succ, Nat.div_div_eq_div_mul]
          have hle : m / 256 ^ j ≤ m := Nat.div_le_self _ _
          cases gk with
          | zero =>
            obtain rfl : j = 8 := by omega
            clear HX hle
            generalize m / 256 ^ 8 = x at hx HF
            subst hx
            by_cases hx0 : x = 0
            · subst hx0
              go_wp2
              go_ret
              exact ⟨by rw [HF.out]; rfl, rfl⟩
            · have hx1 : ((x : Int) == 0) = false := by simp; omega
              go_wp2
              go_ret
              exact ⟨by rw [HF.out, decide_eq_false hx0]; rfl, rfl⟩
          | succ k =>
            have hjl : (j : Int) < 8 := by omega
            have hj0 : (0 : Int) ≤ (j : Int) := by omega
            generalize m / 256 ^ j = x at hx HX hle
            subst hx
            have hx0 : (0 : Int) ≤ (x : Int) := by omega
            have hx1 : (x : Int) < 9223372036854775808 := by omega
            go_wp2
            go_roundg k
            case measure => omega
            case rel => exact ⟨rfl, j + 1, by omega, by go_num, by rw [HX.out]; rfl⟩
      · have hq' : ¬ (wd : Int) = 8 := by omega
        clear h8
        go_enter Tryd.func18, Tryd.ntmps18
        go_wp2
        go_loopg [0, 5] wd (fun k n i wr => wr = w ∧ ∃ j, j + k = wd ∧ i = .int .i64 (j : Int) ∧ n = .int .i64 ((m / 256 ^ j : Nat) : Int))
        case atStart => exact ⟨rfl, 0, by omega, rfl, by simp⟩
        case round =>
          obtain ⟨rfl, j, hj, rfl, hx⟩ := hrel
          have HX : Hid (m / 256 ^ (j + 1) = m / 256 ^ j / 256) := by show _ = _; rw [Nat.pow_succ, Nat.div_div_eq_div_mul]
          have hle : m / 256 ^ j ≤ m := Nat.div_le_self _ _
          cases gk with
          | zero =>
            obtain hjw : j = wd := by omega
            rw [hjw] at hx
            have hnl : ¬ (j : Int) < (wd : Int) := by omega
            clear HX hle hjw
            generalize m / 256 ^ wd = x at hx HF
            subst hx
            by_cases hx0 : x = 0
            · subst hx0
              go_wp2
              go_ret
              exact ⟨by rw [HF.out]; rfl, rfl⟩
            · have hx1 : ((x : Int) == 0) = false := by simp; omega
              go_wp2
              go_ret
              exact ⟨by rw [HF.out, decide_eq_false hx0]; rfl, rfl⟩
          | succ k =>
            have hjl : (j : Int) < (wd : Int) := by omega
            have hj0 : (0 : Int) ≤ (j : Int) := by omega
            generalize m / 256 ^ j = x at hx HX hle
            subst hx
            have hx0 : (0 : Int) ≤ (x : Int) := by omega
            have hx1 : (x : Int) < 9223372036854775808 := by omega
            go_wp2
            go_roundg k
            case measure => omega
            case rel => exact ⟨rfl, j + 1, by omega, by go_num, by rw [HX.out]; rfl⟩
end Go.Proofs.YtlgmfiboekmhkabDoor
