/- What every row of this seat's proofs needs besides its walk: the laid table, a start that fits, bytes and parts read as data. -/
import Derived.Test.YtlgmfiboekmhkabDoorRows
import Derived.Test.YtlgmfiboekmhkabDoorMem
import Derived.ChangeSame
import Derived.ChangeVars
import Derived.JoinedOf
import Derived.RowKit
import Derived.RowKitTokens
import Derived.LaidLaws
import Derived.LaidHandle
import Derived.LaidMore
import Derived.ProofKit
import Derived.OpenShut
import Derived.Deep.Slices
import Derived.Lib.SmallJoins
import Derived.Lib.LaidTab
import Derived.Stop.LaidErr
import Derived.Stop.Joined
import Derived.SizedLaws
namespace Go.Proofs.YtlgmfiboekmhkabDoor
open Go.ChangeShapes Go.WideShapes Go.ChangeAt Go.RowKit Go.Deep

theorem own : ownKnob Tryd.prog.godebug = none := by kernel_rfl
theorem laidOut : laidOutB Tryd.prog = true := by kernel_rfl
theorem gNib : Tryd.prog.globalNamed "portage/frame.nibbles" = some 0 := by kernel_rfl
theorem gNibType : (Tryd.prog.globals[0]?).map (·.type) = some 62 := by kernel_rfl
theorem cellsU32 : Tryd.prog.cellsOf 45 = 1 := by kernel_rfl
theorem cellsArr : Tryd.prog.cellsOf 62 = 16 := by kernel_rfl
theorem cellsU8 : Tryd.prog.cellsOf 5 = 1 := by kernel_rfl
theorem cellsInt : Tryd.prog.cellsOf 3 = 1 := by kernel_rfl
theorem cellsBytes : Tryd.prog.cellsOf 22 = 1 := by kernel_rfl
theorem bytesU8 : Tryd.prog.bytesOf 5 = 1 := by kernel_rfl
theorem nibData : (Rows.laid_portage_frame_nibbles : DataW Unit) = Lib.tabData .u32 (nibs.map fun n : Nat => (n : Int)) := by kernel_rfl

theorem laid_of_one {W : World} (h : laidMetH Tryd.prog [("portage/frame.nibbles", Rows.laid_portage_frame_nibbles)] W) : Laid W := by
  have h1 : laidMet Tryd.prog [("portage/frame.nibbles", Rows.laid_portage_frame_nibbles)] W := h
  rw [nibData] at h1
  have h2 := Lib.tabIs_of_head gNib gNibType Tryd.underlying62 Tryd.underlying45 cellsU32 cellsArr h1
  intro i hi
  have hl : (nibs.map fun n : Nat => (n : Int)).length = 16 := rfl
  have h3 := h2.cell gNib i (by rw [hl]; exact hi)
  rw [h3]
  have e : (nibs.map fun n : Nat => (n : Int)).getD i 0 = ((nibs.getD i 0 : Nat) : Int) := by
    have : i < nibs.length := hi
    simp [List.getD, this]
  rw [e]

/-- A world that meets the condition: the heap that the initialisers leave. -/
theorem door_met (os : Os) (args : Array Value) : laidMetH Tryd.prog [("portage/frame.nibbles", Rows.laid_portage_frame_nibbles)] ((World.doorLaid Tryd.prog 14 os).forCall (fun _ _ => 0) ⟨#[], args, []⟩).memory :=
  laidMetH_of_parts3 (fuel := 8) (laidMet_of_run' 8 (by kernel_rfl) (by kernel_rfl)) (by kernel_rfl) (by kernel_rfl)

theorem add_plain' (b off i : Nat) : (⟨b, off, none⟩ : Addr).add i = ⟨b, off + i, none⟩ := by unfold Addr.add; split <;> simp_all

section
variable {H : Type} {enc : TypeId × Value → H} {W : World}

theorem weights_slice {t e : TypeId} (ht : Tryd.prog.underlying t = some (.slice e)) (el sp : List (DataW H)) :
    (DataW.slice el sp).weights Tryd.prog t = (el.length + sp.length) * Tryd.prog.bytesOf e :: (DataW.weightsAll Tryd.prog e el ++ DataW.weightsAll Tryd.prog e sp) := by
  simp only [DataW.weights, ht]
theorem mem_weightsAll {e : TypeId} {y : Nat} : ∀ {l : List (DataW H)} {d : DataW H}, d ∈ l → y ∈ d.weights Tryd.prog e → y ∈ DataW.weightsAll Tryd.prog e l
  | a :: l, d, hd, hy => by
    simp only [DataW.weightsAll, List.mem_append]
    rcases List.mem_cons.1 hd with rfl | h
    · exact Or.inl hy
    · exact Or.inr (mem_weightsAll h hy)

theorem sized_one {t : TypeId} {ts : List TypeId} {d : DataW H} {ds : List (DataW H)} (h : (DataW.weightsEach Tryd.prog (t :: ts) (d :: ds)).all (fun x => decide (x ≤ reachBytes)) = true) : ∀ x ∈ d.weights Tryd.prog t, x ≤ reachBytes := fun x hx => by
  have := List.all_eq_true.1 h x (by simp only [DataW.weightsEach, List.mem_append]; exact Or.inl hx)
  simpa using this
theorem sized_next {t : TypeId} {ts : List TypeId} {d : DataW H} {ds : List (DataW H)} (h : (DataW.weightsEach Tryd.prog (t :: ts) (d :: ds)).all (fun x => decide (x ≤ reachBytes)) = true) : (DataW.weightsEach Tryd.prog ts ds).all (fun x => decide (x ≤ reachBytes)) = true := by
  rw [List.all_eq_true] at *
  exact fun x hx => h x (by simp only [DataW.weightsEach, List.mem_append]; exact Or.inr hx)
/-- Bytes read. -/
theorem bytes_read {n : Nat} {v : Value} {y : DataW H × List MemPlace} (h : DataW.trod enc Tryd.prog W 0 (fun _ => true) true n 22 [v] = some y) (hw : ∀ x ∈ y.1.weights Tryd.prog 22, x ≤ reachBytes) : ∃ bs, Bytes W v bs := by
  rcases open_slice1 Tryd.underlying22 cellsU8 h with ⟨hcs, _⟩ | ⟨a, len, cap, m, k, V, D, Pl, hcs, _, hl, hm, hmm, rfl, hx⟩
  · simp only [List.cons.injEq, and_true] at hcs
    subst hcs
    exact ⟨[], Bytes.nil W⟩
  · simp only [List.cons.injEq, and_true] at hcs
    subst hcs
    simp only [if_true] at hmm
    subst hmm
    have hlen : len ≤ 140737488355328 := by
      have := hw _ (by rw [weights_slice Tryd.underlying22]; exact List.mem_cons_self)
      rw [bytesU8] at this
      simp [reachBytes] at this
      omega
    have each : ∀ i, i < len → ∃ b : Nat, W.cell? (a.add i) = some (.int .u8 (b : Int)) ∧ b < 256 := fun i hi => by
      obtain ⟨h1, h2⟩ := hx i (by omega)
      obtain ⟨z, e1, -, hz⟩ := DataW.trod_int Tryd.underlying5 h2
      simp only [List.cons.injEq, and_true] at e1
      have hz' : (0 : Int) ≤ z ∧ z ≤ 255 := by simpa [Lit.wf, IntKind.min, IntKind.max, IntKind.bits, IntKind.signed] using hz
      refine ⟨z.toNat, ?_, by omega⟩
      rw [h1, e1, Int.toNat_of_nonneg hz'.1]
    obtain ⟨B, hB⟩ := choose_lt each
    refine ⟨(List.range len).map B, ?_⟩
    have hll : ((List.range len).map B).length = len := by simp
    by_cases h0 : len = 0
    · subst h0
      exact ⟨some a, m, 0, 0, by simp, by simp, by simp, by simp, by simp, by simp, by simp, hm⟩
    · obtain ⟨b, off, spot⟩ := a
      have hsp : spot = none := by
        have := (hB 0 (by omega)).1
        exact World.cell?_spot (by simpa [Addr.add] using this)
      subst hsp
      refine ⟨some ⟨b, off, none⟩, m, b, off, by rw [hll], fun _ => rfl, fun i q hq => ?_, fun q hq => ?_, by rw [hll]; exact hlen, by simp, by rw [hll]; exact hl, hm⟩
      · obtain ⟨hi, rfl⟩ := List.getElem?_eq_some_iff.1 hq
        have := (hB i (by simpa using hi)).1
        rw [add_plain'] at this
        simpa using this
      · obtain ⟨i, hi, rfl⟩ := List.mem_map.1 hq
        exact (hB i (List.mem_range.1 hi)).2
end
end Go.Proofs.YtlgmfiboekmhkabDoor
