/- The document's regions, as lists. -/
import Derived.Test.YtnkcebngfnailaaWh0
namespace Go.Proofs.Ytnkcebngfnailaa
open Go.RowKit Go.Extern

/-- How many numbers of the same device are less. -/
def ltB (a b : Int) : Bool := decide (b / 4096 = a / 4096) && decide (b < a)
def rankS (l : List Int) (a : Int) : Nat := (l.filter (ltB a)).length
theorem cnt_lt {X : List Int} (hX : X.Pairwise (· < ·)) {i : Nat} {a : Int} (h : X[i]? = some a) : (X.filter fun b => decide (b < a)).length = i := by
  have hi := (List.getElem?_eq_some_iff.1 h).1
  have e : X = X.take i ++ a :: X.drop (i + 1) := by rw [← drop_cons h, List.take_append_drop]
  have hp := hX
  rw [e, List.pairwise_append] at hp
  obtain ⟨-, h2, h3⟩ := hp
  rw [List.pairwise_cons] at h2
  have f1 : (X.take i).filter (fun b => decide (b < a)) = X.take i := by
    rw [List.filter_eq_self]
    intro b hb
    have := h3 b hb a (by simp)
    simpa using this
  have f2 : (a :: X.drop (i + 1)).filter (fun b => decide (b < a)) = [] := by
    rw [List.filter_eq_nil_iff]
    intro b hb
    rcases List.mem_cons.1 hb with rfl | hb
    · simp
    · have := h2.1 b hb
      simp; omega
  rw [e, List.filter_append, f1, f2, List.append_nil, List.length_take]
  omega
theorem up_of {l : List Int} (hr : Rt l) : (sortS l).Pairwise (· < ·) := by
  have h1 := sortS_up l
  have h2 := (Rt.sort.2 hr).2
  rw [List.nodup_iff_pairwise_ne] at h2
  exact (h1.and h2).imp fun h => by omega
theorem onDev_up {l : List Int} (hr : Rt l) (d : Int) : (onDev (sortS l) d).Pairwise (· < ·) := (up_of hr).filter _
theorem rank_eq {l : List Int} {a : Int} {d : Int} (hd : a / 4096 = d) : rankS l a = ((onDev (sortS l) d).filter fun b => decide (b < a)).length := by
  have h1 : (l.filter (ltB a)).Perm ((sortS l).filter (ltB a)) := (sortS_perm l).symm.filter _
  rw [rankS, h1.length_eq, onDev, List.filter_filter]
  congr 1
  apply List.filter_congr
  intro b _
  rw [ltB, hd, Bool.and_comm]
/-- A number is its device's r-th. -/
theorem rank_iff {l : List Int} (hr : Rt l) {a : Int} (ha : a ∈ l) (d : Int) (r : Nat) : (a / 4096 = d ∧ rankS l a = r) ↔ (onDev (sortS l) d)[r]? = some a := by
  constructor
  · rintro ⟨h1, h2⟩
    have hm : a ∈ onDev (sortS l) d := List.mem_filter.2 ⟨(sortS_perm l).mem_iff.2 ha, by simpa using h1⟩
    obtain ⟨i, hi⟩ := List.mem_iff_getElem?.1 hm
    have := cnt_lt (onDev_up hr d) hi
    rw [← rank_eq h1, h2] at this
    rw [this]; exact hi
  · intro h
    have hd := (onDev_dev (List.mem_of_getElem? h)).1
    exact ⟨hd, by rw [rank_eq hd, cnt_lt (onDev_up hr d) h]⟩
theorem filter_one : ∀ {l : List Int} (_ : l.Nodup) {a : Int} (_ : a ∈ l), l.filter (fun b => decide (some a = some b)) = [a]
  | [], _, a, h => by simp at h
  | c :: l, hn, a, h => by
    rw [List.nodup_cons] at hn
    by_cases hc : a = c
    · subst hc
      have : l.filter (fun b => decide (some a = some b)) = [] := by
        rw [List.filter_eq_nil_iff]
        intro b hb
        simp
        exact fun e => hn.1 (e ▸ hb)
      rw [List.filter_cons, this]; simp
    · have hm : a ∈ l := by rcases List.mem_cons.1 h with h | h; exact absurd h hc; exact h
      rw [List.filter_cons, filter_one hn.2 hm]
      simp [hc]
/-- All numbers of one rank: one, or none. -/
theorem rank_all {l : List Int} (hr : Rt l) (d : Int) (r : Nat) : l.filter (fun b => decide ((onDev (sortS l) d)[r]? = some b)) = ((onDev (sortS l) d)[r]?).toList := by
  cases h : (onDev (sortS l) d)[r]? with
  | none =>
    rw [Option.toList_none, List.filter_eq_nil_iff]
    intro b _
    simp
  | some a => rw [Option.toList_some]; exact filter_one hr.2 ((sortS_perm l).mem_iff.1 (onDev_dev (List.mem_of_getElem? h)).2)
/-- The document's region. -/
def chunk (X : List Int) (n : Nat) : List Int := (X.drop (4 * n)).take 4
theorem chunk_step (X : List Int) (n t : Nat) : (X.drop (4 * n)).take (t + 1) = (X.drop (4 * n)).take t ++ (X[4 * n + t]?).toList := by
  rw [List.take_add_one, List.getElem?_drop]
theorem chunk_nil {X : List Int} {n : Nat} (h : chunk X n = []) : X.drop (4 * n) = [] := by
  unfold chunk at h
  rcases List.take_eq_nil_iff.1 h with h | h
  · omega
  · exact h
theorem from_head {s : List Int} {d : Int} : ∀ b, (fromDev s (d + 1)).head? = some b → b / 4096 ≠ d := fun b hb => by
  have := fromDev_dev (List.mem_of_mem_head? hb)
  omega
/-- What is left of the regions at a device's n-th. -/
theorem at_chunk {s : List Int} {d : Int} {n : Nat} (h : chunk (onDev s d) n ≠ []) : regs ((onDev s d).drop (4 * n) ++ fromDev s (d + 1)) = (d, chunk (onDev s d) n) :: regs ((onDev s d).drop (4 * (n + 1)) ++ fromDev s (d + 1)) := by
  have hne : (onDev s d).drop (4 * n) ≠ [] := fun e => h (by rw [chunk, e]; rfl)
  rw [regs_app hne (fun b hb => (onDev_dev (List.mem_of_mem_drop hb)).1) from_head, List.drop_drop]
  rfl
theorem regs_dev : ∀ (f : Nat) (u : List Int), u.length ≤ f → ∀ r ∈ regs u, ∃ a ∈ u, r.1 = a / 4096
  | _, [], _, r, h => by simp [regs_nil] at h
  | 0, _ :: _, h, _, _ => by simp at h
  | f + 1, a :: t, hf, r, h => by
    rw [regs_cons] at h
    rcases List.mem_cons.1 h with rfl | h
    · exact ⟨a, by simp, rfl⟩
    · have hp := rl_pos a t
      obtain ⟨b, hb, e⟩ := regs_dev f ((a :: t).drop (rl (a :: t))) (by simp at hf ⊢; omega) r h
      exact ⟨b, List.mem_of_mem_drop hb, e⟩
theorem pick_cons_ne {d e : Int} {l : List Int} {R : List (Int × List Int)} (h : e ≠ d) : pickD d ((e, l) :: R) = pickD d R := by simp [pickD, h]
theorem pick_cons_eq {d : Int} {l : List Int} {R : List (Int × List Int)} : pickD d ((d, l) :: R) = l := by simp [pickD]
theorem pick_no {d : Int} {R : List (Int × List Int)} (h : ∀ r ∈ R, r.1 ≠ d) : pickD d R = [] := by
  have e2 : R.find? (fun r => decide (r.1 = d)) = none := by
    rw [List.find?_eq_none]
    intro x hx
    simpa using h x hx
  rw [pickD, e2]; rfl
theorem pick_skip {d e : Int} (hne : e ≠ d) : ∀ (f : Nat) (X Y : List Int), X.length ≤ f → (∀ b ∈ X, b / 4096 = e) → (∀ b, Y.head? = some b → b / 4096 ≠ e) → pickD d (regs (X ++ Y)) = pickD d (regs Y)
  | _, [], Y, _, _, _ => rfl
  | 0, _ :: _, _, h, _, _ => by simp at h
  | f + 1, a :: X, Y, hf, h1, h2 => by
    rw [regs_app (by simp) h1 h2, pick_cons_ne hne]
    exact pick_skip hne f ((a :: X).drop 4) Y (by simp at hf ⊢; omega) (fun b hb => h1 b (List.mem_of_mem_drop hb)) h2
theorem pick_from {s : List Int} (hs : s.Pairwise (· ≤ ·)) (d : Int) : ∀ (k : Nat) (e : Int), e + k = d → pickD d (regs (fromDev s e)) = chunk (onDev s d) 0
  | 0, e, h => by
    have : e = d := by omega
    subst this
    rw [fromDev_step hs]
    by_cases hX : onDev s e = []
    · rw [hX, List.nil_append]
      rw [pick_no fun r hr => ?_]
      · rfl
      · obtain ⟨a, ha, e1⟩ := regs_dev _ _ (Nat.le_refl _) r hr
        have := fromDev_dev ha
        omega
    · rw [regs_app hX (fun b hb => (onDev_dev hb).1) from_head, pick_cons_eq]
      rfl
  | k + 1, e, h => by
    rw [fromDev_step hs, pick_skip (e := e) (by omega) _ _ _ (Nat.le_refl _) (fun b hb => (onDev_dev hb).1) from_head]
    exact pick_from hs d k (e + 1) (by omega)
/-- A device's first region is the document's. -/
theorem pick_doc {l : List Int} (hr : Rt l) {d : Int} (hd : 0 ≤ d) : pickD d (regs (sortS l)) = chunk (onDev (sortS l) d) 0 := by
  have h := pick_from (sortS_up l) d d.toNat 0 (by omega)
  rw [fromDev_all (Rt.sort.2 hr).1] at h
  exact h
end Go.Proofs.Ytnkcebngfnailaa
