/- The structs of four fields that are handed over by value, read as data. -/
import Derived.Test.YtlgmfiboekmhkabDoorBase
import Derived.Test.YtlgmfiboekmhkabDoorPk
namespace Go.Proofs.YtlgmfiboekmhkabDoor
open Go.ChangeShapes Go.WideShapes Go.ChangeAt Go.RowKit Go.Deep Go.Joins

theorem u8_of {n : Int} (h : (Lit.int .u8 n).wf = true) : ∃ k : Nat, n = (k : Int) ∧ k < 256 := by
  have hz' : (0 : Int) ≤ n ∧ n ≤ 255 := by simpa [Lit.wf, IntKind.min, IntKind.max, IntKind.bits, IntKind.signed] using h
  exact ⟨n.toNat, by omega, by omega⟩
theorem i64_of {n : Int} (h : (Lit.int .i64 n).wf = true) : -9223372036854775808 ≤ n ∧ n < 9223372036854775808 := by
  have hz' : (-9223372036854775808 : Int) ≤ n ∧ n ≤ 9223372036854775807 := by simpa [Lit.wf, IntKind.min, IntKind.max, IntKind.bits, IntKind.signed] using h
  omega

section
variable {H : Type} {enc : TypeId × Value → H} {W : World}
theorem weights_agg {t : TypeId} {fs : Array Field} (ht : Tryd.prog.underlying t = some (.struct fs)) (ps : List (DataW H)) : (DataW.agg ps).weights Tryd.prog t = DataW.weightsEach Tryd.prog (fs.toList.map (·.type)) ps := by
  simp only [DataW.weights, ht]

/-- Numbers read. -/
theorem ints_read {n : Nat} {v : Value} {y : DataW H × List MemPlace} (h : DataW.trod enc Tryd.prog W 0 (fun _ => true) true n 54 [v] = some y) (hw : ∀ x ∈ y.1.weights Tryd.prog 54, x ≤ reachBytes) : ∃ ns, Ints W v ns := by
  rcases open_slice1 Tryd.underlying54 cellsInt h with ⟨hcs, _⟩ | ⟨a, len, cap, m, k, V, D, Pl, hcs, _, hl, hm, hmm, rfl, hx⟩
  · simp only [List.cons.injEq, and_true] at hcs
    subst hcs
    exact ⟨[], none, 0, 0, 0, rfl, by simp, by simp, by simp, by simp⟩
  · simp only [List.cons.injEq, and_true] at hcs
    subst hcs
    simp only [if_true] at hmm
    subst hmm
    have hlen : len ≤ 140737488355328 := by
      have := hw _ (by rw [weights_slice Tryd.underlying54]; exact List.mem_cons_self)
      rw [show Tryd.prog.bytesOf 3 = 8 by kernel_rfl] at this
      simp [reachBytes] at this
      omega
    have each : ∀ i, i < len → ∃ z : Int, W.cell? (a.add i) = some (.int .i64 z) ∧ -9223372036854775808 ≤ z ∧ z < 9223372036854775808 := fun i hi => by
      obtain ⟨h1, h2⟩ := hx i (by omega)
      obtain ⟨z, e1, -, hz⟩ := DataW.trod_int Tryd.underlying3 h2
      simp only [List.cons.injEq, and_true] at e1
      exact ⟨z, by rw [h1, e1], i64_of hz⟩
    obtain ⟨B, hB⟩ := choose_lt each
    refine ⟨(List.range len).map B, ?_⟩
    have hll : ((List.range len).map B).length = len := by simp
    by_cases h0 : len = 0
    · subst h0
      exact ⟨some a, m, 0, 0, by simp, by simp, by simp, by simp, by simp⟩
    · obtain ⟨b, off, spot⟩ := a
      have hsp : spot = none := by
        have := (hB 0 (by omega)).1
        exact World.cell?_spot (by simpa [Addr.add] using this)
      subst hsp
      refine ⟨some ⟨b, off, none⟩, m, b, off, by rw [hll], fun _ => rfl, fun i q hq => ?_, fun q hq => ?_, by rw [hll]; exact hlen⟩
      · obtain ⟨hi, rfl⟩ := List.getElem?_eq_some_iff.1 hq
        have := (hB i (by simpa using hi)).1
        rw [add_plain'] at this
        simpa using this
      · obtain ⟨i, hi, rfl⟩ := List.mem_map.1 hq
        exact (hB i (List.mem_range.1 hi)).2

end
end Go.Proofs.YtlgmfiboekmhkabDoor
