/- What every row of this seat's proofs needs besides its walk: arguments read as data. -/
import Derived.Test.YtjopdejgijojmaaRows
import Derived.Test.YtjopdejgijojmaaRr
import Derived.ChangeSame
import Derived.ChangeVars
import Derived.JoinedOf
import Derived.RowKit
import Derived.RowKitTokens
import Derived.ProofKit
import Derived.OpenShut
import Derived.Deep.Slices
import Derived.Lib.SmallJoins
import Derived.SizedLaws
namespace Go.Proofs.Ytjopdejgijojmaa
open Go.ChangeShapes Go.WideShapes Go.ChangeAt Go.RowKit Go.Deep

theorem own : ownKnob Try.prog.godebug = none := by kernel_rfl
theorem cellsRef : Try.prog.cellsOf 28 = 3 := by kernel_rfl
theorem cellsOp : Try.prog.cellsOf 30 = 4 := by kernel_rfl
theorem three_ref : ∃ f0 f1 f2, Try.prog.underlying 28 = some (.struct #[f0, f1, f2]) ∧ (f0.type = 3 ∧ f0.offset = 0) ∧ (f1.type = 3 ∧ f1.offset = 1) ∧ (f2.type = 3 ∧ f2.offset = 2) :=
  ⟨_, _, _, Try.underlying28, ⟨rfl, rfl⟩, ⟨rfl, rfl⟩, ⟨rfl, rfl⟩⟩
theorem two_op : ∃ f0 f1, Try.prog.underlying 30 = some (.struct #[f0, f1]) ∧ (f0.type = 3 ∧ f0.offset = 0) ∧ (f1.type = 28 ∧ f1.offset = 1) :=
  ⟨_, _, Try.underlying30, ⟨rfl, rfl⟩, ⟨rfl, rfl⟩⟩
theorem list2 {α : Type} {cs : List α} (h : cs.length = 2) : ∃ c0 c1, cs = [c0, c1] := by
  match cs, h with
  | [c0, c1], _ => exact ⟨c0, c1, rfl⟩
theorem list3 {α : Type} {cs : List α} (h : cs.length = 3) : ∃ c0 c1 c2, cs = [c0, c1, c2] := by
  match cs, h with
  | [c0, c1, c2], _ => exact ⟨c0, c1, c2, rfl⟩
theorem list4 {α : Type} {cs : List α} (h : cs.length = 4) : ∃ c0 c1 c2 c3, cs = [c0, c1, c2, c3] := by
  match cs, h with
  | [c0, c1, c2, c3], _ => exact ⟨c0, c1, c2, c3, rfl⟩

section
variable {H : Type} {enc : TypeId × Value → H} {W : World}
/-- One pair, read. -/
theorem ref_read {n : Nat} {cs : List Value} {x : DataW H × List MemPlace} (h : DataW.trod enc Try.prog W 0 (fun _ => true) true n 28 cs = some x) : ∃ r : Ref, cs = [.int .i64 r.1.1, .int .i64 r.1.2, .int .i64 r.2] ∧ OkR r := by
  obtain ⟨f0, f1, f2, hs, ⟨t0, o0⟩, ⟨t1, o1⟩, ⟨t2, o2⟩⟩ := three_ref
  obtain ⟨xs, m, -, rfl, hl, hlen, hf⟩ := DataW.trod_struct hs h
  rw [cellsRef] at hl
  obtain ⟨c0, c1, c2, rfl⟩ := list3 hl
  obtain ⟨y0, y1, y2, rfl⟩ := list3 (cs := xs) (by simpa using hlen)
  have g0 := hf 0 f0 rfl
  have g1 := hf 1 f1 rfl
  have g2 := hf 2 f2 rfl
  rw [t0, o0, cellsI] at g0
  rw [t1, o1, cellsI] at g1
  rw [t2, o2, cellsI] at g2
  have g0' : DataW.trod enc Try.prog W 0 (fun _ => true) true m 3 [c0] = some y0 := g0
  have g1' : DataW.trod enc Try.prog W 0 (fun _ => true) true m 3 [c1] = some y1 := g1
  have g2' : DataW.trod enc Try.prog W 0 (fun _ => true) true m 3 [c2] = some y2 := g2
  obtain ⟨a, e0, -, ha⟩ := DataW.trod_int Try.underlying3 g0'
  obtain ⟨b, e1, -, hb⟩ := DataW.trod_int Try.underlying3 g1'
  obtain ⟨c, e2, -, hc⟩ := DataW.trod_int Try.underlying3 g2'
  simp only [List.cons.injEq, and_true] at e0 e1 e2
  subst e0 e1 e2
  exact ⟨((a, b), c), rfl, ⟨I64.of_wf ha, I64.of_wf hb⟩, I64.of_wf hc⟩
/-- Pairs, read. -/
theorem refs_read {v : Value} {d : DataW H} {ps : List MemPlace} (h : DataW.Trod enc Try.prog W 0 (fun _ => true) true 26 v d ps) (hs : ∃ a l c, v = .slice a l c) :
    ∃ (rs : List Ref) (ao : Option Addr) (cap g off : Nat), v = .slice ao rs.length cap ∧ RefsAt (fun _ => False) W ao g off rs ∧ ∀ r ∈ rs, OkR r := by
  obtain ⟨a0, l0, c0, rfl⟩ := hs
  obtain ⟨fuel, hf⟩ := h
  rcases open_slice Try.underlying26 hf with ⟨hcs, -⟩ | ⟨a, len, cap, m, n, D, Pl, hcs, -, hl, hm0, hm, hd, hx⟩
  · simp [Value.cells] at hcs
    obtain ⟨rfl, rfl, rfl⟩ := hcs
    exact ⟨[], none, 0, 0, 0, rfl, ⟨by simp, by simp, by simp⟩, by simp⟩
  · simp [Value.cells] at hcs
    obtain ⟨rfl, rfl, rfl⟩ := hcs
    simp only [if_true] at hm
    subst hm
    rw [cellsRef] at hx
    have each : ∀ i, i < l0 → ∃ r : Ref, W.cells? 0 (a.add (i * 3)) 3 = some [.int .i64 r.1.1, .int .i64 r.1.2, .int .i64 r.2] ∧ OkR r := fun i hi => by
      obtain ⟨cs', h1, h2⟩ := hx i (by omega)
      obtain ⟨r, rfl, hr⟩ := ref_read h2
      exact ⟨r, h1, hr⟩
    have inst : Inhabited Ref := ⟨((0, 0), 0)⟩
    obtain ⟨K, hK⟩ := choose_lt each
    have hll : ((List.range l0).map K).length = l0 := by simp
    by_cases h0 : l0 = 0
    · subst h0
      exact ⟨[], some a, _, 0, 0, rfl, ⟨by simp, by simp, by simp⟩, by simp⟩
    · obtain ⟨b, off, spot⟩ := a
      have hsp : spot = none := by
        have := (World.cells?_some (hK 0 (by omega)).1).2.2 0 (by omega)
        have e0 : ((⟨b, off, spot⟩ : Addr).add (0 * 3)).add 0 = ⟨b, off, spot⟩ := by simp [Addr.add]
        rw [e0] at this
        exact World.cell?_spot (by simpa using this)
      subst hsp
      refine ⟨(List.range l0).map K, some ⟨b, off, none⟩, _, b, off, by rw [hll], ⟨fun _ => rfl, fun _ h => h, fun i r hr => ?_⟩, fun r hr => ?_⟩
      · obtain ⟨hi, rfl⟩ := List.getElem?_eq_some_iff.1 hr
        have hi' : i < l0 := by simpa using hi
        have hc := (World.cells?_some (hK i hi').1).2.2
        have c0 := hc 0 (by omega)
        have c1 := hc 1 (by omega)
        have c2 := hc 2 (by omega)
        rw [add_plain, add_plain] at c0 c1 c2
        simp at c0 c1 c2
        simp only [List.getElem_map, List.getElem_range]
        exact ⟨c0, c1, c2⟩
      · obtain ⟨i, hi, rfl⟩ := List.mem_map.1 hr
        exact (hK i (List.mem_range.1 hi)).2
end
end Go.Proofs.Ytjopdejgijojmaa
