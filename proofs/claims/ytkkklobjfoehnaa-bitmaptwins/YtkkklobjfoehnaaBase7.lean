/- What every row of this seat's proofs needs besides its walk: arguments read as data. -/
import Derived.Test.YtkkklobjfoehnaaRows
import Derived.Test.YtkkklobjfoehnaaBm
import Derived.ChangeSame
import Derived.ChangeVars
import Derived.JoinedOf
import Derived.RowKit
import Derived.RowKitTokens
import Derived.ProofKit
import Derived.OpenShut
import Derived.Deep.Slices
import Derived.Lib.SmallJoins
import Derived.SizedLaws
namespace Go.Proofs.Ytkkklobjfoehnaa
open Go.ChangeShapes Go.WideShapes Go.ChangeAt Go.RowKit Go.Deep

theorem own : ownKnob Try.prog.godebug = none := by kernel_rfl
theorem laidOut : laidOutB Try.prog = true := by kernel_rfl
theorem cellsInt : Try.prog.cellsOf 3 = 1 := by kernel_rfl
theorem bytesInt : Try.prog.bytesOf 3 = 8 := by kernel_rfl


section
variable {H : Type} {enc : TypeId × Value → H} {W : World}

theorem weights_slice {t e : TypeId} (ht : Try.prog.underlying t = some (.slice e)) (el sp : List (DataW H)) :
    (DataW.slice el sp).weights Try.prog t = (el.length + sp.length) * Try.prog.bytesOf e :: (DataW.weightsAll Try.prog e el ++ DataW.weightsAll Try.prog e sp) := by
  simp only [DataW.weights, ht]
theorem mem_weightsAll {e : TypeId} {y : Nat} : ∀ {l : List (DataW H)} {d : DataW H}, d ∈ l → y ∈ d.weights Try.prog e → y ∈ DataW.weightsAll Try.prog e l
  | a :: l, d, hd, hy => by
    simp only [DataW.weightsAll, List.mem_append]
    rcases List.mem_cons.1 hd with rfl | h
    · exact Or.inl hy
    · exact Or.inr (mem_weightsAll h hy)

theorem sized_one {t : TypeId} {ts : List TypeId} {d : DataW H} {ds : List (DataW H)} (h : (DataW.weightsEach Try.prog (t :: ts) (d :: ds)).all (fun x => decide (x ≤ reachBytes)) = true) : ∀ x ∈ d.weights Try.prog t, x ≤ reachBytes := fun x hx => by
  have := List.all_eq_true.1 h x (by simp only [DataW.weightsEach, List.mem_append]; exact Or.inl hx)
  simpa using this
theorem sized_next {t : TypeId} {ts : List TypeId} {d : DataW H} {ds : List (DataW H)} (h : (DataW.weightsEach Try.prog (t :: ts) (d :: ds)).all (fun x => decide (x ≤ reachBytes)) = true) : (DataW.weightsEach Try.prog ts ds).all (fun x => decide (x ≤ reachBytes)) = true := by
  rw [List.all_eq_true] at *
  exact fun x hx => h x (by simp only [DataW.weightsEach, List.mem_append]; exact Or.inr hx)
/-- Numbers read. -/
theorem ints_read {n : Nat} {v : Value} {y : DataW H × List MemPlace} (h : DataW.trod enc Try.prog W 0 (fun _ => true) true n 22 [v] = some y) (hw : ∀ x ∈ y.1.weights Try.prog 22, x ≤ reachBytes) : ∃ ns, Ints W v ns := by
  rcases open_slice1 Try.underlying22 cellsInt h with ⟨hcs, _⟩ | ⟨a, len, cap, m, k, V, D, Pl, hcs, _, hl, hm, hmm, rfl, hx⟩
  · simp only [List.cons.injEq, and_true] at hcs
    subst hcs
    exact ⟨[], Row.nil _, by simp⟩
  · simp only [List.cons.injEq, and_true] at hcs
    subst hcs
    simp only [if_true] at hmm
    subst hmm
    have hlen : len ≤ 140737488355328 := by
      have := hw _ (by rw [weights_slice Try.underlying22]; exact List.mem_cons_self)
      rw [bytesInt] at this
      simp [reachBytes] at this
      omega
    have each : ∀ i, i < len → ∃ z : Int, W.cell? (a.add i) = some (.int .i64 z) ∧ I64 z := fun i hi => by
      obtain ⟨h1, h2⟩ := hx i (by omega)
      obtain ⟨z, e1, -, hz⟩ := DataW.trod_int Try.underlying3 h2
      simp only [List.cons.injEq, and_true] at e1
      exact ⟨z, by rw [h1, e1], I64.of_wf hz⟩
    obtain ⟨B, hB⟩ := choose_lt each
    refine ⟨(List.range len).map B, ?_, fun q hq => ?_⟩
    · have hll : (intsC ((List.range len).map B)).length = len := by simp [intsC]
      by_cases h0 : len = 0
      · subst h0
        exact ⟨some a, m, 0, 0, by simp [intsC], by simp [intsC], by simp [intsC], by simp [intsC], by simp, by simp [intsC], hm⟩
      · obtain ⟨b, off, spot⟩ := a
        have hsp : spot = none := by
          have := (hB 0 (by omega)).1
          exact World.cell?_spot (by simpa [Addr.add] using this)
        subst hsp
        refine ⟨some ⟨b, off, none⟩, m, b, off, by rw [hll], fun _ => rfl, fun i q hq => ?_, by rw [hll]; exact hlen, by simp, by rw [hll]; exact hl, hm⟩
        obtain ⟨hi, rfl⟩ := List.getElem?_eq_some_iff.1 hq
        have := (hB i (by rw [hll] at hi; exact hi)).1
        rw [add_plain] at this
        simpa [intsC] using this
    · obtain ⟨i, hi, rfl⟩ := List.mem_map.1 hq
      exact (hB i (List.mem_range.1 hi)).2
theorem ints_arg {v : Value} {d : DataW H} {ps : List MemPlace} (h : DataW.Trod enc Try.prog W 0 (fun _ => true) true 22 v d ps) (hs : ∃ a l c, v = .slice a l c) (hw : ∀ x ∈ d.weights Try.prog 22, x ≤ reachBytes) : ∃ ns, Ints W v ns := by
  obtain ⟨a0, l0, c0, rfl⟩ := hs
  obtain ⟨fuel, hf⟩ := h
  exact ints_read hf hw
end
end Go.Proofs.Ytkkklobjfoehnaa
