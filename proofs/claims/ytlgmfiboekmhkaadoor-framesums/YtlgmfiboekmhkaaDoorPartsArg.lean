/- Parts read as data. -/
import Derived.Test.YtlgmfiboekmhkaaDoorBase
namespace Go.Proofs.YtlgmfiboekmhkaaDoor
open Go.ChangeShapes Go.WideShapes Go.ChangeAt Go.RowKit Go.Deep

theorem bytesBytes : Tryd.prog.bytesOf 23 = 24 := by kernel_rfl

theorem parts_read {H : Type} {enc : TypeId × Value → H} {W : World} {n : Nat} {v : Value} {y : DataW H × List MemPlace} (h : DataW.trod enc Tryd.prog W 0 (fun _ => true) true n 22 [v] = some y) (hw : ∀ x ∈ y.1.weights Tryd.prog 22, x ≤ reachBytes) : ∃ ps, Parts W v ps := by
  rcases open_slice1 Tryd.underlying22 cellsBytes h with ⟨hcs, _⟩ | ⟨a, len, cap, m, k, V, D, Pl, hcs, _, hl, hm, hmm, rfl, hx⟩
  · simp only [List.cons.injEq, and_true] at hcs
    subst hcs
    exact ⟨[], none, 0, 0, 0, rfl, by simp, by simp, by simp⟩
  · simp only [List.cons.injEq, and_true] at hcs
    subst hcs
    simp only [if_true] at hmm
    subst hmm
    have hlen : len ≤ 140737488355328 := by
      have := hw _ (by rw [weights_slice Tryd.underlying22]; exact List.mem_cons_self)
      rw [bytesBytes] at this
      simp [reachBytes] at this
      omega
    have each : ∀ i, i < len → ∃ q : List Nat, W.cell? (a.add i) = some (V i) ∧ Bytes W (V i) q := fun i hi => by
      obtain ⟨h1, h2⟩ := hx i (by omega)
      obtain ⟨q, hq⟩ := bytes_read h2 (fun x hx' => hw x (by
        rw [weights_slice Tryd.underlying22]
        refine List.mem_cons_of_mem _ (List.mem_append_left _ (mem_weightsAll (d := D i) ?_ hx'))
        exact List.mem_map.2 ⟨i, List.mem_range.2 hi, rfl⟩))
      exact ⟨q, h1, hq⟩
    obtain ⟨B, hB⟩ := choose_lt each
    refine ⟨(List.range len).map B, ?_⟩
    have hll : ((List.range len).map B).length = len := by simp
    by_cases h0 : len = 0
    · subst h0
      exact ⟨some a, m, 0, 0, by simp, by simp, by simp, by simp⟩
    · obtain ⟨b, off, spot⟩ := a
      have hsp : spot = none := by
        have := (hB 0 (by omega)).1
        exact World.cell?_spot (by simpa [Addr.add] using this)
      subst hsp
      refine ⟨some ⟨b, off, none⟩, m, b, off, by rw [hll], fun _ => rfl, fun i q hq => ?_, by rw [hll]; exact hlen⟩
      obtain ⟨hi, rfl⟩ := List.getElem?_eq_some_iff.1 hq
      have hb := hB i (by simpa using hi)
      rw [add_plain'] at hb
      exact ⟨V i, hb.1, by simpa using hb.2⟩
end Go.Proofs.YtlgmfiboekmhkaaDoor
