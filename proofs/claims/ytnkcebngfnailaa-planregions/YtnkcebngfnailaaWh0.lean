/- What PlanWhole sees, as lists. -/
import Derived.Test.YtnkcebngfnailaaFs
namespace Go.Proofs.Ytnkcebngfnailaa
open Go.RowKit Go.Extern

theorem drop_cons {α : Type} {L : List α} {j : Nat} {r : α} (h : L[j]? = some r) : L.drop j = r :: L.drop (j + 1) := by
  obtain ⟨hj, rfl⟩ := List.getElem?_eq_some_iff.1 h
  exact List.drop_eq_getElem_cons hj
/-- What is left to be seen. -/
structure InvW (L : List Rg) (N j : Nat) (u : List Int) (last : Int) (cnt : Nat) : Prop where
  rest : outR (L.drop j) = regs u
  up : u.Pairwise (· < ·)
  rng : ∀ x ∈ u, 1 ≤ x ∧ x < 32768
  abv : ∀ x ∈ u, last < x
  cnt : cnt + u.length = N
theorem InvW.start {L : List Rg} {l : List Int} (hr : Rt l) (h : outR L = regs (sortS l)) : InvW L l.length 0 (sortS l) 0 0 := by
  have hs := Rt.sort.2 hr
  refine ⟨by simpa using h, ?_, hs.1, fun x hx => by have := hs.1 x hx; omega, by rw [sortS_length]; omega⟩
  have h1 := sortS_up l
  have h2 := hs.2
  rw [List.nodup_iff_pairwise_ne] at h2
  exact (h1.and h2).imp fun h => by omega
theorem InvW.done {L : List Rg} {N j : Nat} {u : List Int} {last : Int} {cnt : Nat} (h : InvW L N j u last cnt) (hj : L.length ≤ j) : cnt = N := by
  have h1 := h.rest
  rw [List.drop_of_length_le hj] at h1
  cases u with
  | nil => simpa using h.cnt
  | cons a t => rw [regs_cons] at h1; simp [outR] at h1
theorem InvW.next {L : List Rg} {N j : Nat} {u : List Int} {last : Int} {cnt : Nat} (h : InvW L N j u last cnt) {r : Rg} (hr : L[j]? = some r) :
    u ≠ [] ∧ r.l = u.take (rl u) ∧ 1 ≤ rl u ∧ (∀ b ∈ u.take (rl u), b / 4096 = r.dev) ∧ outR (L.drop (j + 1)) = regs (u.drop (rl u)) := by
  have h1 := h.rest
  rw [drop_cons hr] at h1
  cases u with
  | nil => rw [regs_nil] at h1; simp [outR] at h1
  | cons a t =>
    rw [regs_cons] at h1
    simp only [outR, List.map_cons, List.cons.injEq, Prod.mk.injEq] at h1
    obtain ⟨⟨e1, e2⟩, e3⟩ := h1
    exact ⟨by simp, e2, rl_pos a t, fun b hb => by rw [e1]; exact rl_dev a t b hb, e3⟩
/-- Of two regions of one device the first is full. -/
theorem InvW.full {L : List Rg} {N j : Nat} {u : List Int} {last : Int} {cnt : Nat} (h : InvW L N j u last cnt) {r r2 : Rg} (hr : L[j]? = some r) (hr2 : L[j + 1]? = some r2) (hd : r2.dev = r.dev) : rl u = 4 := by
  have h1 := h.rest
  rw [drop_cons hr] at h1
  cases u with
  | nil => rw [regs_nil] at h1; simp [outR] at h1
  | cons a t =>
    rw [regs_cons] at h1
    simp only [outR, List.map_cons, List.cons.injEq, Prod.mk.injEq] at h1
    obtain ⟨⟨e1, e2⟩, e3⟩ := h1
    rw [drop_cons hr2] at e3
    by_cases h4 : rl (a :: t) = 4
    · exact h4
    · exfalso
      cases hdr : (a :: t).drop (rl (a :: t)) with
      | nil => rw [hdr, regs_nil] at e3; simp at e3
      | cons b t2 =>
        rw [hdr, regs_cons] at e3
        simp only [List.map_cons, List.cons.injEq, Prod.mk.injEq] at e3
        have := rl_stop h4 (b := b) (by rw [hdr]; rfl)
        rw [e3.1.1, e1] at hd
        exact this hd
/-- Within a region. -/
structure InvN (u : List Int) (N t : Nat) (last : Int) (cnt : Nat) : Prop where
  abv : ∀ x ∈ u.drop t, last < x
  cnt : cnt + (u.length - t) = N
  le : t ≤ u.length
theorem InvW.into {L : List Rg} {N j : Nat} {u : List Int} {last : Int} {cnt : Nat} (h : InvW L N j u last cnt) : InvN u N 0 last cnt := ⟨by simpa using h.abv, by simpa using h.cnt, by omega⟩
theorem InvN.step {u : List Int} {N t : Nat} {last p : Int} {cnt : Nat} (h : InvN u N t last cnt) (hu : u.Pairwise (· < ·)) (hp : u[t]? = some p) : InvN u N (t + 1) p (cnt + 1) ∧ last < p := by
  have e := drop_cons hp
  have hlt := (List.getElem?_eq_some_iff.1 hp).1
  have h1 := h.abv
  rw [e] at h1
  have h2 : (u.drop t).Pairwise (· < ·) := hu.sublist (List.drop_sublist _ _)
  rw [e, List.pairwise_cons] at h2
  exact ⟨⟨h2.1, by have := h.cnt; omega, by omega⟩, h1 p (by simp)⟩
theorem InvW.out {L : List Rg} {N j : Nat} {u : List Int} {last last2 : Int} {cnt cnt2 : Nat} (h : InvW L N j u last cnt) {r : Rg} (hr : L[j]? = some r) (h2 : InvN u N (rl u) last2 cnt2) : InvW L N (j + 1) (u.drop (rl u)) last2 cnt2 :=
  ⟨(h.next hr).2.2.2.2, h.up.sublist (List.drop_sublist _ _), fun x hx => h.rng x (List.mem_of_mem_drop hx), h2.abv, by rw [List.length_drop]; exact h2.cnt⟩
/-- The same regions, in another list. -/
theorem outR_at {L M : List Rg} (h : outR M = outR L) {j : Nat} {r : Rg} (hr : L[j]? = some r) : ∃ s, M[j]? = some s ∧ s.dev = r.dev ∧ s.l = r.l := by
  have e : (outR L)[j]? = some (r.dev, r.l) := by simp [outR, hr]
  rw [← h] at e
  simp only [outR, List.getElem?_map, Option.map_eq_some_iff, Prod.mk.injEq] at e
  obtain ⟨s, h1, h2, h3⟩ := e
  exact ⟨s, h1, h2, h3⟩
/-- Go's remainder, twice: a place in the list. -/
theorem turned {n : Nat} (hn : 0 < n) (k : Int) : ∃ (x : Int) (m : Nat), k.tmod (n : Int) = x ∧ (x + (n : Int)).tmod (n : Int) = (m : Int) ∧ m < n ∧ -(n : Int) < x ∧ x < (n : Int) := by
  have h1 : (0 : Int) < (n : Int) := by omega
  have h2 := Int.tmod_lt_of_pos k h1
  have h3 : -(n : Int) < k.tmod (n : Int) := Int.lt_tmod_of_pos k h1
  refine ⟨_, ((k.tmod (n : Int) + (n : Int)).tmod (n : Int)).toNat, rfl, ?_, ?_, h3, h2⟩
  · rw [Int.toNat_of_nonneg]
    exact Int.tmod_nonneg _ (by omega)
  · have h4 := Int.tmod_lt_of_pos (k.tmod (n : Int) + (n : Int)) h1
    omega
theorem turn_perm (l : List Int) (k : Nat) : (l.drop k ++ l.take k).Perm l := by
  have := List.perm_append_comm (l₁ := l.drop k) (l₂ := l.take k)
  rw [List.take_append_drop] at this
  exact this
end Go.Proofs.Ytnkcebngfnailaa
