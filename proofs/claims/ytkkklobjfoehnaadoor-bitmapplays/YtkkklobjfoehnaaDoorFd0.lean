/- What taking the first clear number leaves; Set of one number that is the bitmap's. -/
import Derived.Test.YtkkklobjfoehnaaDoorFd
namespace Go.Proofs.YtkkklobjfoehnaaDoor
open Go.RowKit Go.Extern

theorem set1_in {w : World} {F : Nat → Prop} {b : Nat} {l : List Bool} (h : Bm w F b l) (hF : ∀ k, F k → k < w.heap.size) (k : Nat) (hk : k < l.length) :
    Calls Tryd.prog 10 #[.pointer (some ⟨b, 0, none⟩), .slice (some ⟨w.heap.size, 0, none⟩) 1 1] (w.alloc (.cells #[.int .i64 (k : Int)] 3)) fun e w' => e = .returned .nilIface ∧ Put F b (l.set k true) w w' := by
  have hl := h.len
  have hi : inB l (k : Int) = true := by unfold inB; simp; omega
  have hv := ints_lit w [(k : Int)] (fun x hx => by rw [List.mem_singleton.1 hx]; exact i64_small ⟨by omega, by omega⟩) (by simp)
  have hb := bel_alloc w (.cells #[.int .i64 (k : Int)] 3)
  refine (set_ok (h.below hb) _ [(k : Int)] hv (fun q hq hFq => ?_) (by simpa using hi)).mono ?_
  · simp only [Value.ownBlock, Option.some.injEq] at hq
    have := hF q hFq
    omega
  · rintro e w' ⟨rfl, hp⟩
    exact ⟨rfl, hp.bm, (Turn.of_below hb).trans hp.turn (fun _ _ h => h)⟩
theorem count_all {l : List Bool} (h : ∀ i, i < l.length → l.getD i false = true) : l.count true = l.length := by
  rw [List.count_eq_length]
  intro b hb
  obtain ⟨i, hi, rfl⟩ := List.getElem_of_mem hb
  have := h i hi
  simp [List.getD, hi] at this
  simp [this]
theorem all_of_count {l : List Bool} (h : l.count true = l.length) : ∀ i, i < l.length → l.getD i false = true := by
  intro i hi
  have := List.count_eq_length.1 h l[i] (List.getElem_mem hi)
  simp [List.getD, hi, ← this]
theorem first_clear {l : List Bool} (h : l.count true < l.length) : ∃ k, firstS l 0 false = some k := by
  cases hq : firstS l 0 false with
  | some k => exact ⟨k, rfl⟩
  | none =>
    exfalso
    have := count_all (l := l) (fun i hi => by have := firstS_none.1 hq i (Nat.zero_le _) hi; simpa using this)
    omega
theorem none_clear {l : List Bool} (h : l.count true = l.length) : firstS l 0 false = none :=
  firstS_none.2 fun i _ hi e => by rw [all_of_count h i hi] at e; cases e
theorem count_set {l : List Bool} {k : Nat} (hk : k < l.length) (hc : l.getD k false = false) : (l.set k true).count true = l.count true + 1 := by
  have e1 : l = l.take k ++ l[k] :: l.drop (k + 1) := by rw [List.getElem_cons_drop, List.take_append_drop]
  have hv : l[k] = false := by simpa [List.getD, hk] using hc
  rw [List.set_eq_take_append_cons_drop, if_pos hk, List.count_append, List.count_cons]
  conv => rhs; rw [e1, List.count_append, List.count_cons, hv]
  simp; omega
/-- All numbers below are set. -/
def Full (l : List Bool) (last : Int) : Prop := ∀ q : Nat, (q : Int) ≤ last → l.getD q false = true
theorem Full.step {l : List Bool} {k : Nat} (hf : firstS l 0 false = some k) : Full (l.set k true) (k : Int) := by
  obtain ⟨-, h1, h2, h3⟩ := firstS_some.1 hf
  intro q hq
  rw [getD_set]
  by_cases e : q = k
  · rw [if_pos ⟨e, h1⟩]
  · rw [if_neg (fun x => e x.1)]
    have := h3 q (Nat.zero_le _) (by omega)
    simpa using this
theorem Full.lt {l : List Bool} {k : Nat} {last : Int} (hf : firstS l 0 false = some k) (h : Full l last) : last < (k : Int) := by
  obtain ⟨-, h1, h2, h3⟩ := firstS_some.1 hf
  rcases Int.lt_or_le last (k : Int) with q | q
  · exact q
  · rw [h k q] at h2; cases h2
end Go.Proofs.YtkkklobjfoehnaaDoor
