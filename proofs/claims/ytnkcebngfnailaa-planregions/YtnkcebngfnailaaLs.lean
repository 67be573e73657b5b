/- Regions, as lists. -/
import Derived.Test.YtnkcebngfnailaaRs
namespace Go.Proofs.Ytnkcebngfnailaa
open Go.RowKit Go.Extern

def rlFrom (d : Int) : Nat → List Int → Nat
  | 0, _ => 0
  | _ + 1, [] => 0
  | k + 1, b :: t => if b / 4096 = d then 1 + rlFrom d k t else 0
/-- How many numbers are the first region. -/
def rl : List Int → Nat
  | [] => 0
  | a :: t => 1 + rlFrom (a / 4096) 3 t
theorem rlFrom_le (d : Int) : ∀ (k : Nat) (t : List Int), rlFrom d k t ≤ k ∧ rlFrom d k t ≤ t.length
  | 0, t => by simp [rlFrom]
  | k + 1, [] => by simp [rlFrom]
  | k + 1, b :: t => by
    have := rlFrom_le d k t
    unfold rlFrom
    split <;> simp <;> omega
theorem rl_le (s : List Int) : rl s ≤ 4 ∧ rl s ≤ s.length := by
  cases s with
  | nil => simp [rl]
  | cons a t => have := rlFrom_le (a / 4096) 3 t; simp [rl]; omega
theorem rl_pos (a : Int) (t : List Int) : 1 ≤ rl (a :: t) := by simp [rl]
theorem rlFrom_dev (d : Int) : ∀ (k : Nat) (t : List Int), ∀ b ∈ t.take (rlFrom d k t), b / 4096 = d
  | 0, t => by simp [rlFrom]
  | k + 1, [] => by simp
  | k + 1, b :: t => by
    unfold rlFrom
    split
    · intro c hc
      rw [Nat.add_comm, List.take_succ_cons] at hc
      rcases List.mem_cons.1 hc with rfl | hc
      · assumption
      · exact rlFrom_dev d k t c hc
    · simp
theorem rl_dev (a : Int) (t : List Int) : ∀ b ∈ (a :: t).take (rl (a :: t)), b / 4096 = a / 4096 := by
  intro b hb
  rw [rl, Nat.add_comm, List.take_succ_cons] at hb
  rcases List.mem_cons.1 hb with rfl | hb
  · rfl
  · exact rlFrom_dev _ _ _ b hb
theorem rlFrom_stop (d : Int) : ∀ (k : Nat) (t : List Int) (b : Int), rlFrom d k t < k → (t.drop (rlFrom d k t)).head? = some b → b / 4096 ≠ d
  | 0, t, b, h, _ => by omega
  | k + 1, [], b, _, h => by simp at h
  | k + 1, c :: t, b, h, hb => by
    unfold rlFrom at h hb
    split at h
    · rename_i hc
      rw [if_pos hc, Nat.add_comm, List.drop_succ_cons] at hb
      exact rlFrom_stop d k t b (by omega) hb
    · rename_i hc
      rw [if_neg hc] at hb
      simp at hb
      rw [← hb]; exact hc
theorem rl_stop {a b : Int} {t : List Int} (h : rl (a :: t) ≠ 4) (hb : ((a :: t).drop (rl (a :: t))).head? = some b) : b / 4096 ≠ a / 4096 := by
  have := (rl_le (a :: t)).1
  rw [rl] at h this
  rw [rl, Nat.add_comm, List.drop_succ_cons] at hb
  exact rlFrom_stop _ 3 t b (by omega) hb
def regsF : Nat → List Int → List (Int × List Int)
  | 0, _ => []
  | _ + 1, [] => []
  | f + 1, a :: t => (a / 4096, (a :: t).take (rl (a :: t))) :: regsF f ((a :: t).drop (rl (a :: t)))
/-- The regions of sorted numbers. -/
def regs (s : List Int) : List (Int × List Int) := regsF s.length s
theorem regsF_more : ∀ (f g : Nat) (s : List Int), s.length ≤ f → s.length ≤ g → regsF f s = regsF g s
  | 0, 0, s, _, _ => rfl
  | 0, g + 1, s, h, _ => by
    have : s = [] := List.length_eq_zero_iff.1 (by omega)
    subst this; rfl
  | f + 1, 0, s, _, h => by
    have : s = [] := List.length_eq_zero_iff.1 (by omega)
    subst this; rfl
  | f + 1, g + 1, [], _, _ => rfl
  | f + 1, g + 1, a :: t, h1, h2 => by
    have hp := rl_pos a t
    simp only [regsF]
    rw [regsF_more f g _ (by simp at *; omega) (by simp at *; omega)]
theorem regs_nil : regs [] = [] := rfl
theorem regs_cons (a : Int) (t : List Int) : regs (a :: t) = (a / 4096, (a :: t).take (rl (a :: t))) :: regs ((a :: t).drop (rl (a :: t))) := by
  have hp := rl_pos a t
  show regsF (t.length + 1) (a :: t) = _
  rw [regsF, regs]
  rw [regsF_more t.length ((a :: t).drop (rl (a :: t))).length _ (by simp; omega) (Nat.le_refl _)]
theorem regs_length : ∀ (n : Nat) (s : List Int), s.length ≤ n → (regs s).length ≤ s.length
  | _, [], _ => by simp [regs_nil]
  | 0, _ :: _, h => by simp at h
  | n + 1, a :: t, h => by
    have hp := rl_pos a t
    rw [regs_cons]
    have hd : ((a :: t).drop (rl (a :: t))).length ≤ t.length := by simp; omega
    have := regs_length n ((a :: t).drop (rl (a :: t))) (by simp at h; omega)
    simp only [List.length_cons]
    omega
theorem rlFrom_app (d : Int) : ∀ (k : Nat) (X Y : List Int), (∀ b ∈ X, b / 4096 = d) → (∀ b, Y.head? = some b → b / 4096 ≠ d) → rlFrom d k (X ++ Y) = min k X.length
  | 0, X, Y, _, _ => by simp [rlFrom]
  | k + 1, [], [], _, _ => by simp [rlFrom]
  | k + 1, [], b :: Y, _, h => by
    have := h b rfl
    simp [rlFrom, this]
  | k + 1, a :: X, Y, h1, h2 => by
    have := rlFrom_app d k X Y (fun b hb => h1 b (List.mem_cons_of_mem _ hb)) h2
    rw [List.cons_append, rlFrom, if_pos (h1 a List.mem_cons_self), this]
    simp only [List.length_cons]
    omega
/-- One region off the numbers of one device that stand ahead. -/
theorem regs_app {d : Int} {X Y : List Int} (hX : X ≠ []) (h1 : ∀ b ∈ X, b / 4096 = d) (h2 : ∀ b, Y.head? = some b → b / 4096 ≠ d) : regs (X ++ Y) = (d, X.take 4) :: regs (X.drop 4 ++ Y) := by
  cases X with
  | nil => exact absurd rfl hX
  | cons a X =>
    have e0 := h1 a List.mem_cons_self
    have e1 : rl (a :: X ++ Y) = min 4 (X.length + 1) := by
      rw [List.cons_append, rl, e0, rlFrom_app d 3 X Y (fun b hb => h1 b (List.mem_cons_of_mem _ hb)) h2]
      omega
    have e2 : regs (a :: X ++ Y) = (a / 4096, (a :: X ++ Y).take (rl (a :: X ++ Y))) :: regs ((a :: X ++ Y).drop (rl (a :: X ++ Y))) := regs_cons a (X ++ Y)
    rw [e2, e0, e1]
    by_cases h : 4 ≤ X.length + 1
    · rw [Nat.min_eq_left h, List.take_append_of_le_length (by simpa using h), List.drop_append_of_le_length (by simpa using h)]
    · have e3 : min 4 (X.length + 1) = (a :: X).length := by simp; omega
      rw [e3, List.take_left, List.drop_left, List.take_of_length_le (by simp; omega), List.drop_of_length_le (l := a :: X) (by simp; omega), List.nil_append]
/-- The numbers of one device. -/
def onDev (s : List Int) (d : Int) : List Int := s.filter fun a => decide (a / 4096 = d)
/-- .. of that one and later ones. -/
def fromDev (s : List Int) (d : Int) : List Int := s.filter fun a => decide (d ≤ a / 4096)
theorem fromDev_step : ∀ {s : List Int} (_ : s.Pairwise (· ≤ ·)) (d : Int), fromDev s d = onDev s d ++ fromDev s (d + 1)
  | [], _, d => by simp [fromDev, onDev]
  | a :: t, h, d => by
    obtain ⟨h1, h2⟩ := List.pairwise_cons.1 h
    have ih := fromDev_step h2 d
    unfold fromDev onDev at *
    simp only [List.filter_cons]
    by_cases c1 : a / 4096 = d
    · have e1 : decide (d ≤ a / 4096) = true := by simp; omega
      have e2 : decide (d + 1 ≤ a / 4096) = false := by simp; omega
      rw [e1, e2, decide_eq_true c1, ih]
      simp
    · by_cases c2 : d ≤ a / 4096
      · have e1 : decide (d ≤ a / 4096) = true := by simpa using c2
        have e2 : decide (d + 1 ≤ a / 4096) = true := by simp; omega
        have e3 : t.filter (fun a => decide (a / 4096 = d)) = [] := by
          rw [List.filter_eq_nil_iff]
          intro b hb
          have := h1 b hb
          simp; omega
        rw [e1, e2, decide_eq_false c1, ih, e3]
        simp
      · have e1 : decide (d ≤ a / 4096) = false := by simpa using c2
        have e2 : decide (d + 1 ≤ a / 4096) = false := by simp; omega
        rw [e1, e2, decide_eq_false c1, ih]
        simp
theorem fromDev_all {s : List Int} (h : ∀ a ∈ s, 1 ≤ a ∧ a < 32768) : fromDev s 0 = s := by
  rw [fromDev, List.filter_eq_self]
  intro a ha
  have := h a ha
  simp; omega
theorem fromDev_none {s : List Int} (h : ∀ a ∈ s, 1 ≤ a ∧ a < 32768) : fromDev s 8 = [] := by
  rw [fromDev, List.filter_eq_nil_iff]
  intro a ha
  have := h a ha
  simp; omega
theorem onDev_dev {s : List Int} {d b : Int} (h : b ∈ onDev s d) : b / 4096 = d ∧ b ∈ s := by
  have := List.mem_filter.1 h
  exact ⟨by simpa using this.2, this.1⟩
theorem fromDev_dev {s : List Int} {d b : Int} (h : b ∈ fromDev s d) : d ≤ b / 4096 := by simpa using (List.mem_filter.1 h).2
end Go.Proofs.Ytnkcebngfnailaa
