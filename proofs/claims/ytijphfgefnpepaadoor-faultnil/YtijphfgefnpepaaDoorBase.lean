/- What every row of this seat's proofs needs besides its walk: the laid variable's cell, a start that fits, links read as data. -/
import Derived.Test.YtijphfgefnpepaaDoorRows
import Derived.Test.YtijphfgefnpepaaDoorChain
import Derived.ChangeSame
import Derived.ChangeVars
import Derived.JoinedOf
import Derived.RowKit
import Derived.RowKitTokens
import Derived.LaidLaws
import Derived.LaidHandle
import Derived.LaidMore
import Derived.ProofKit
import Derived.OpenShut
import Derived.Deep.Strs
import Derived.Lib.SmallJoins
import Derived.Stop.Joined
namespace Go.Proofs.YtijphfgefnpepaaDoor
open Go.ChangeShapes Go.WideShapes Go.ChangeAt Go.RowKit Go.Deep

theorem own : ownKnob Tryd.prog.godebug = none := by kernel_rfl
theorem laidOut : laidOutB Tryd.prog = true := by kernel_rfl
theorem gET : Tryd.prog.globalNamed "errors.errorType" = some 0 := by kernel_rfl
theorem rowRT : (Tryd.prog.cutTypes.find? (·.1 == "internal/reflectlite.rtype")).map (·.2) = some 89 := by kernel_rfl
theorem oneRow : ((List.range 150).filter fun t => Tryd.prog.rowNamed t [101, 114, 114, 111, 114]) = [25] := by kernel_rfl
theorem sizeT : Tryd.prog.types.size = 150 := by kernel_rfl
theorem cells34 : Tryd.prog.cellsOf 34 = 3 := by kernel_rfl

/-- What the condition gives a walk: the variable's one cell. -/
theorem laid_of_handle {W : World} (h : handlesMet Tryd.prog [("errors.errorType", Rows.laid_errors_errorType)] W) : Laid W := by
  obtain ⟨name, u, ty, e1, e2, e3, e4, e5⟩ := h _ (List.mem_singleton.2 rfl)
  have en : name = [101, 114, 114, 111, 114] := (Option.some.inj e1).symm
  subst en
  obtain rfl := Option.some.inj (rowRT.symm.trans e2)
  have hm : ty ∈ (List.range 150).filter fun t => Tryd.prog.rowNamed t [101, 114, 114, 111, 114] := List.mem_filter.2 ⟨List.mem_range.2 (by rw [← sizeT]; exact e3), e4⟩
  rw [oneRow] at hm
  obtain rfl := List.mem_singleton.1 hm
  have hh : typeHandle Tryd.prog 25 = .pointer (some ⟨4, 25, none⟩) := by kernel_rfl
  rw [hh] at e5
  unfold Laid
  simpa using World.var?_cell gET e5 0

theorem laid_of_one {W : World} (h : laidMetH Tryd.prog [("errors.errorType", Rows.laid_errors_errorType)] W) : Laid W := by
  have h' : laidMet Tryd.prog [] W ∧ handlesMet Tryd.prog [("errors.errorType", Rows.laid_errors_errorType)] W := h
  exact laid_of_handle h'.2

/-- A world that meets the condition: the heap that the initialisers leave. -/
theorem door_met (os : Os) (args : Array Value) : laidMetH Tryd.prog [("errors.errorType", Rows.laid_errors_errorType)] ((World.doorLaid Tryd.prog 31 os).forCall (fun _ _ => 0) ⟨#[], args, []⟩).memory :=
  laidMetH_of_parts (laidMet_nil _ _) (by kernel_rfl)

theorem cells9 : Tryd.prog.cellsOf 9 = 1 := by kernel_rfl
theorem cells3 : Tryd.prog.cellsOf 3 = 1 := by kernel_rfl
theorem list3 {α : Type} {cs : List α} (h : cs.length = 3) : ∃ c0 c1 c2, cs = [c0, c1, c2] := by
  match cs, h with
  | [c0, c1, c2], _ => exact ⟨c0, c1, c2, rfl⟩

section
variable {H : Type} {enc : TypeId × Value → H} {W : World}

/-- One link read. -/
theorem link_read {spare : Nat → Bool} {held : Bool} {n : Nat} {cs : List Value} {x : DataW H × List MemPlace} (h : DataW.trod enc Tryd.prog W 0 spare held n 34 cs = some x) :
    ∃ k : Lk, cs = [.string k.op, .int .i64 k.dev, .int .i64 k.pl] ∧ k.op.size ≤ maxLen ∧ (Lit.int .i64 k.dev).wf = true ∧ (Lit.int .i64 k.pl).wf = true := by
  obtain ⟨y0, y1, y2, m, -, hl, h0, h1, h2⟩ := trod_struct3 Tryd.underlying34 h
  have hl3 : cs.length = 3 := by rw [hl, cells34]
  obtain ⟨c0, c1, c2, rfl⟩ := list3 hl3
  have h0' : DataW.trod enc Tryd.prog W 0 spare held m 9 [c0] = some y0 := by
    have e : ([c0, c1, c2].drop 0).take (Tryd.prog.cellsOf 9) = [c0] := by rw [cells9]; rfl
    rw [← e]; exact h0
  have h1' : DataW.trod enc Tryd.prog W 0 spare held m 3 [c1] = some y1 := by
    have e : ([c0, c1, c2].drop 1).take (Tryd.prog.cellsOf 3) = [c1] := by rw [cells3]; rfl
    rw [← e]; exact h1
  have h2' : DataW.trod enc Tryd.prog W 0 spare held m 3 [c2] = some y2 := by
    have e : ([c0, c1, c2].drop 2).take (Tryd.prog.cellsOf 3) = [c2] := by rw [cells3]; rfl
    rw [← e]; exact h2
  obtain ⟨s, e0, -, hs⟩ := DataW.trod_string Tryd.underlying9 h0'
  obtain ⟨d, e1, -, hd⟩ := DataW.trod_int Tryd.underlying3 h1'
  obtain ⟨p, e2, -, hp⟩ := DataW.trod_int Tryd.underlying3 h2'
  simp only [List.cons.injEq, and_true] at e0 e1 e2
  subst e0 e1 e2
  exact ⟨⟨s, d, p⟩, rfl, hs, hd, hp⟩

/-- A slice of links read. -/
theorem links_read {v : Value} {d : DataW H} {ps : List MemPlace} (h : DataW.Trod enc Tryd.prog W 0 (fun _ => true) true 22 v d ps) (hs : ∃ a l c, v = .slice a l c) :
    ∃ ls : List Lk, Links W v ls ∧ ∀ k ∈ ls, k.op.size ≤ maxLen ∧ (Lit.int .i64 k.dev).wf = true ∧ (Lit.int .i64 k.pl).wf = true := by
  obtain ⟨a0, l0, c0, rfl⟩ := hs
  obtain ⟨fuel, hf⟩ := h
  rcases open_slice Tryd.underlying22 hf with ⟨hcs, -⟩ | ⟨a, len, cap, m, n, D, Pl, hcs, -, hl, -, hm, -, hx⟩
  · simp [Value.cells] at hcs
    obtain ⟨rfl, rfl, rfl⟩ := hcs
    exact ⟨[], ⟨none, 0, 0, 0, rfl, by simp, by simp⟩, by simp⟩
  · simp [Value.cells] at hcs
    obtain ⟨rfl, rfl, rfl⟩ := hcs
    simp only [if_true] at hm
    subst hm
    rw [cells34] at hx
    have each : ∀ i, i < l0 → ∃ k : Lk, W.cells? 0 (a.add (i * 3)) 3 = some [.string k.op, .int .i64 k.dev, .int .i64 k.pl] ∧ k.op.size ≤ maxLen ∧ (Lit.int .i64 k.dev).wf = true ∧ (Lit.int .i64 k.pl).wf = true := fun i hi => by
      obtain ⟨cs', h1, h2⟩ := hx i (by omega)
      obtain ⟨k, rfl, hk⟩ := link_read h2
      exact ⟨k, h1, hk⟩
    have inst : Inhabited Lk := ⟨⟨ByteArray.empty, 0, 0⟩⟩
    obtain ⟨K, hK⟩ := choose_lt each
    refine ⟨(List.range l0).map K, ?_, ?_⟩
    · by_cases h0 : l0 = 0
      · subst h0
        exact ⟨some a, _, 0, 0, rfl, by simp, by simp⟩
      · obtain ⟨b, off, spot⟩ := a
        have hsp : spot = none := by
          have := (World.cells?_some (hK 0 (by omega)).1).2.2 0 (by omega)
          have e0 : ((⟨b, off, spot⟩ : Addr).add (0 * 3)).add 0 = ⟨b, off, spot⟩ := by simp [Addr.add]
          rw [e0] at this
          exact World.cell?_spot (by simpa using this)
        subst hsp
        refine ⟨some ⟨b, off, none⟩, _, b, off, by simp; rfl, fun _ => rfl, fun i k hk => ?_⟩
        obtain ⟨hi, rfl⟩ := List.getElem?_eq_some_iff.1 hk
        have hi' : i < l0 := by simpa using hi
        have hc := (World.cells?_some (hK i hi').1).2.2
        have c0 := hc 0 (by omega)
        have c1 := hc 1 (by omega)
        have c2 := hc 2 (by omega)
        rw [add_plain, add_plain] at c0 c1 c2
        simp at c0 c1 c2
        simp only [List.getElem_map, List.getElem_range]
        exact ⟨c0, c1, c2⟩
    · intro k hk
      obtain ⟨i, hi, rfl⟩ := List.mem_map.1 hk
      exact (hK i (List.mem_range.1 hi)).2
end
end Go.Proofs.YtijphfgefnpepaaDoor
