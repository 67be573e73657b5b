/- Calls, read as data. -/
import Derived.Test.YtjopdejgijojmaaBase9
import Derived.Test.YtjopdejgijojmaaPl0
namespace Go.Proofs.Ytjopdejgijojmaa
open Go.ChangeShapes Go.WideShapes Go.ChangeAt Go.RowKit Go.Deep
section
variable {H : Type} {enc : TypeId × Value → H} {W : World}
theorem op_read {n : Nat} {cs : List Value} {x : DataW H × List MemPlace} (h : DataW.trod enc Try.prog W 0 (fun _ => true) true n 30 cs = some x) : ∃ p : Opn, cs = [.int .i64 p.1, .int .i64 p.2.1.1, .int .i64 p.2.1.2, .int .i64 p.2.2] ∧ OkR p.2 := by
  obtain ⟨f0, f1, hs, ⟨t0, o0⟩, ⟨t1, o1⟩⟩ := two_op
  obtain ⟨xs, m, -, rfl, hl, hlen, hf⟩ := DataW.trod_struct hs h
  rw [cellsOp] at hl
  obtain ⟨c0, c1, c2, c3, rfl⟩ := list4 hl
  obtain ⟨y0, y1, rfl⟩ := list2 (cs := xs) (by simpa using hlen)
  have g0 := hf 0 f0 rfl
  have g1 := hf 1 f1 rfl
  rw [t0, o0, cellsI] at g0
  rw [t1, o1, cellsRef] at g1
  have g0' : DataW.trod enc Try.prog W 0 (fun _ => true) true m 3 [c0] = some y0 := g0
  have g1' : DataW.trod enc Try.prog W 0 (fun _ => true) true m 28 [c1, c2, c3] = some y1 := g1
  obtain ⟨a, e0, -, -⟩ := DataW.trod_int Try.underlying3 g0'
  obtain ⟨r, e1, hr⟩ := ref_read g1'
  simp only [List.cons.injEq, and_true] at e0 e1
  obtain ⟨rfl, rfl, rfl⟩ := e1
  subst e0
  exact ⟨(a, r), rfl, hr⟩
theorem ops_read {v : Value} {d : DataW H} {ps : List MemPlace} (h : DataW.Trod enc Try.prog W 0 (fun _ => true) true 22 v d ps) (hs : ∃ a l c, v = .slice a l c) :
    ∃ (rs : List Opn) (ao : Option Addr) (cap g off : Nat), v = .slice ao rs.length cap ∧ OpsAt (fun _ => False) W ao g off rs ∧ ∀ r ∈ rs, OkR r.2 := by
  obtain ⟨a0, l0, c0, rfl⟩ := hs
  obtain ⟨fuel, hf⟩ := h
  rcases open_slice Try.underlying22 hf with ⟨hcs, -⟩ | ⟨a, len, cap, m, n, D, Pl, hcs, -, hl, hm0, hm, hd, hx⟩
  · simp [Value.cells] at hcs
    obtain ⟨rfl, rfl, rfl⟩ := hcs
    exact ⟨[], none, 0, 0, 0, rfl, ⟨by simp, by simp, by simp⟩, by simp⟩
  · simp [Value.cells] at hcs
    obtain ⟨rfl, rfl, rfl⟩ := hcs
    simp only [if_true] at hm
    subst hm
    rw [cellsOp] at hx
    have each : ∀ i, i < l0 → ∃ r : Opn, W.cells? 0 (a.add (i * 4)) 4 = some [.int .i64 r.1, .int .i64 r.2.1.1, .int .i64 r.2.1.2, .int .i64 r.2.2] ∧ OkR r.2 := fun i hi => by
      obtain ⟨cs', h1, h2⟩ := hx i (by omega)
      obtain ⟨r, rfl, hr⟩ := op_read h2
      exact ⟨r, h1, hr⟩
    have inst : Inhabited Opn := ⟨(0, ((0, 0), 0))⟩
    obtain ⟨K, hK⟩ := choose_lt each
    have hll : ((List.range l0).map K).length = l0 := by simp
    by_cases h0 : l0 = 0
    · subst h0
      exact ⟨[], some a, _, 0, 0, rfl, ⟨by simp, by simp, by simp⟩, by simp⟩
    · obtain ⟨b, off, spot⟩ := a
      have hsp : spot = none := by
        have := (World.cells?_some (hK 0 (by omega)).1).2.2 0 (by omega)
        have e0 : ((⟨b, off, spot⟩ : Addr).add (0 * 4)).add 0 = ⟨b, off, spot⟩ := by simp [Addr.add]
        rw [e0] at this
        exact World.cell?_spot (by simpa using this)
      subst hsp
      refine ⟨(List.range l0).map K, some ⟨b, off, none⟩, _, b, off, by rw [hll], ⟨fun _ => rfl, fun _ h => h, fun i r hr => ?_⟩, fun r hr => ?_⟩
      · obtain ⟨hi, rfl⟩ := List.getElem?_eq_some_iff.1 hr
        have hi' : i < l0 := by simpa using hi
        have hc := (World.cells?_some (hK i hi').1).2.2
        have c0 := hc 0 (by omega)
        have c1 := hc 1 (by omega)
        have c2 := hc 2 (by omega)
        have c3 := hc 3 (by omega)
        rw [add_plain, add_plain] at c0 c1 c2 c3
        simp at c0 c1 c2 c3
        simp only [List.getElem_map, List.getElem_range]
        exact ⟨c0, c1, c2, c3⟩
      · obtain ⟨i, hi, rfl⟩ := List.mem_map.1 hr
        exact (hK i (List.mem_range.1 hi)).2
end
end Go.Proofs.Ytjopdejgijojmaa
