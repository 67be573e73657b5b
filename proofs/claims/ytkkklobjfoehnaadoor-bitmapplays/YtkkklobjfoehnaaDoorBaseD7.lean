/- What every row of this seat's proofs needs besides its walk: arguments read as data. -/
import Derived.Test.YtkkklobjfoehnaaDoorRows
import Derived.Test.YtkkklobjfoehnaaDoorTz
import Derived.ChangeSame
import Derived.ChangeVars
import Derived.JoinedOf
import Derived.RowKit
import Derived.RowKitTokens
import Derived.LaidLaws
import Derived.LaidHandle
import Derived.LaidMore
import Derived.ProofKit
import Derived.OpenShut
import Derived.Deep.Slices
import Derived.Lib.SmallJoins
import Derived.Lib.LaidTab
import Derived.Stop.LaidErr
import Derived.Stop.Joined
import Derived.SizedLaws
namespace Go.Proofs.YtkkklobjfoehnaaDoor
open Go.ChangeShapes Go.WideShapes Go.ChangeAt Go.RowKit Go.Deep

theorem own : ownKnob Tryd.prog.godebug = none := by kernel_rfl
theorem laidOut : laidOutB Tryd.prog = true := by kernel_rfl
theorem cellsInt : Tryd.prog.cellsOf 3 = 1 := by kernel_rfl
theorem bytesInt : Tryd.prog.bytesOf 3 = 8 := by kernel_rfl


theorem gTab : Tryd.prog.globalNamed "math/bits.deBruijn64tab" = some 0 := by kernel_rfl
theorem gTabType : (Tryd.prog.globals[0]?).map (·.type) = some 81 := by kernel_rfl
theorem cellsU8 : Tryd.prog.cellsOf 5 = 1 := by kernel_rfl
theorem cellsTab : Tryd.prog.cellsOf 81 = 64 := by kernel_rfl
theorem tabData : (Rows.laid_math_bits_deBruijn64tab : DataW Unit) = Lib.tabData .u8 (Lib.deBruijn64tab.map fun n : Nat => (n : Int)) := by kernel_rfl
theorem laid_of_one {W : World} (h : laidMetH Tryd.prog [("math/bits.deBruijn64tab", Rows.laid_math_bits_deBruijn64tab)] W) : Tab W := by
  have h1 : laidMet Tryd.prog [("math/bits.deBruijn64tab", Rows.laid_math_bits_deBruijn64tab)] W := h
  rw [tabData] at h1
  have h2 := Lib.tabIs_of_head gTab gTabType Tryd.underlying81 Tryd.underlying5 cellsU8 cellsTab h1
  intro i hi
  have hl : (Lib.deBruijn64tab.map fun n : Nat => (n : Int)).length = 64 := rfl
  have h3 := h2.cell gTab i (by rw [hl]; exact hi)
  rw [h3]
  have e : (Lib.deBruijn64tab.map fun n : Nat => (n : Int)).getD i 0 = ((Lib.deBruijn64tab.getD i 0 : Nat) : Int) := by
    have : i < Lib.deBruijn64tab.length := hi
    simp [List.getD, this]
  rw [e]
/-- A world that meets the condition: the heap that the initialisers leave. -/
theorem door_met (os : Os) (args : Array Value) : laidMetH Tryd.prog [("math/bits.deBruijn64tab", Rows.laid_math_bits_deBruijn64tab)] ((World.doorLaid Tryd.prog 14 os).forCall (fun _ _ => 0) ⟨#[], args, []⟩).memory :=
  laidMetH_of_parts3 (fuel := 8) (laidMet_of_run' 8 (by kernel_rfl) (by kernel_rfl)) (by kernel_rfl) (by kernel_rfl)

section
variable {H : Type} {enc : TypeId × Value → H} {W : World}

theorem weights_slice {t e : TypeId} (ht : Tryd.prog.underlying t = some (.slice e)) (el sp : List (DataW H)) :
    (DataW.slice el sp).weights Tryd.prog t = (el.length + sp.length) * Tryd.prog.bytesOf e :: (DataW.weightsAll Tryd.prog e el ++ DataW.weightsAll Tryd.prog e sp) := by
  simp only [DataW.weights, ht]
theorem mem_weightsAll {e : TypeId} {y : Nat} : ∀ {l : List (DataW H)} {d : DataW H}, d ∈ l → y ∈ d.weights Tryd.prog e → y ∈ DataW.weightsAll Tryd.prog e l
  | a :: l, d, hd, hy => by
    simp only [DataW.weightsAll, List.mem_append]
    rcases List.mem_cons.1 hd with rfl | h
    · exact Or.inl hy
    · exact Or.inr (mem_weightsAll h hy)

theorem sized_one {t : TypeId} {ts : List TypeId} {d : DataW H} {ds : List (DataW H)} (h : (DataW.weightsEach Tryd.prog (t :: ts) (d :: ds)).all (fun x => decide (x ≤ reachBytes)) = true) : ∀ x ∈ d.weights Tryd.prog t, x ≤ reachBytes := fun x hx => by
  have := List.all_eq_true.1 h x (by simp only [DataW.weightsEach, List.mem_append]; exact Or.inl hx)
  simpa using this
theorem sized_next {t : TypeId} {ts : List TypeId} {d : DataW H} {ds : List (DataW H)} (h : (DataW.weightsEach Tryd.prog (t :: ts) (d :: ds)).all (fun x => decide (x ≤ reachBytes)) = true) : (DataW.weightsEach Tryd.prog ts ds).all (fun x => decide (x ≤ reachBytes)) = true := by
  rw [List.all_eq_true] at *
  exact fun x hx => h x (by simp only [DataW.weightsEach, List.mem_append]; exact Or.inr hx)
/-- Numbers read. -/
theorem ints_read {n : Nat} {v : Value} {y : DataW H × List MemPlace} (h : DataW.trod enc Tryd.prog W 0 (fun _ => true) true n 31 [v] = some y) (hw : ∀ x ∈ y.1.weights Tryd.prog 31, x ≤ reachBytes) : ∃ ns, Ints W v ns := by
  rcases open_slice1 Tryd.underlying31 cellsInt h with ⟨hcs, _⟩ | ⟨a, len, cap, m, k, V, D, Pl, hcs, _, hl, hm, hmm, rfl, hx⟩
  · simp only [List.cons.injEq, and_true] at hcs
    subst hcs
    exact ⟨[], Row.nil _, by simp⟩
  · simp only [List.cons.injEq, and_true] at hcs
    subst hcs
    simp only [if_true] at hmm
    subst hmm
    have hlen : len ≤ 140737488355328 := by
      have := hw _ (by rw [weights_slice Tryd.underlying31]; exact List.mem_cons_self)
      rw [bytesInt] at this
      simp [reachBytes] at this
      omega
    have each : ∀ i, i < len → ∃ z : Int, W.cell? (a.add i) = some (.int .i64 z) ∧ I64 z := fun i hi => by
      obtain ⟨h1, h2⟩ := hx i (by omega)
      obtain ⟨z, e1, -, hz⟩ := DataW.trod_int Tryd.underlying3 h2
      simp only [List.cons.injEq, and_true] at e1
      exact ⟨z, by rw [h1, e1], I64.of_wf hz⟩
    obtain ⟨B, hB⟩ := choose_lt each
    refine ⟨(List.range len).map B, ?_, fun q hq => ?_⟩
    · have hll : (intsC ((List.range len).map B)).length = len := by simp [intsC]
      by_cases h0 : len = 0
      · subst h0
        exact ⟨some a, m, 0, 0, by simp [intsC], by simp [intsC], by simp [intsC], by simp [intsC], by simp, by simp [intsC], hm⟩
      · obtain ⟨b, off, spot⟩ := a
        have hsp : spot = none := by
          have := (hB 0 (by omega)).1
          exact World.cell?_spot (by simpa [Addr.add] using this)
        subst hsp
        refine ⟨some ⟨b, off, none⟩, m, b, off, by rw [hll], fun _ => rfl, fun i q hq => ?_, by rw [hll]; exact hlen, by simp, by rw [hll]; exact hl, hm⟩
        obtain ⟨hi, rfl⟩ := List.getElem?_eq_some_iff.1 hq
        have := (hB i (by rw [hll] at hi; exact hi)).1
        rw [add_plain] at this
        simpa [intsC] using this
    · obtain ⟨i, hi, rfl⟩ := List.mem_map.1 hq
      exact (hB i (List.mem_range.1 hi)).2
theorem ints_arg {v : Value} {d : DataW H} {ps : List MemPlace} (h : DataW.Trod enc Tryd.prog W 0 (fun _ => true) true 31 v d ps) (hs : ∃ a l c, v = .slice a l c) (hw : ∀ x ∈ d.weights Tryd.prog 31, x ≤ reachBytes) : ∃ ns, Ints W v ns := by
  obtain ⟨a0, l0, c0, rfl⟩ := hs
  obtain ⟨fuel, hf⟩ := h
  exact ints_read hf hw
end
end Go.Proofs.YtkkklobjfoehnaaDoor
