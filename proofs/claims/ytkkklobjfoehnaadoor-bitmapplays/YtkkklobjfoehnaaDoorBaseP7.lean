/- A script, read as data. -/
import Derived.Test.YtkkklobjfoehnaaDoorBaseD7
import Derived.Test.YtkkklobjfoehnaaDoorPl0
namespace Go.Proofs.YtkkklobjfoehnaaDoor
open Go.ChangeShapes Go.WideShapes Go.ChangeAt Go.RowKit Go.Deep

theorem cellsOp : Tryd.prog.cellsOf 33 = 3 := by kernel_rfl
theorem cellsInts : Tryd.prog.cellsOf 31 = 1 := by kernel_rfl
section
variable {H : Type} {enc : TypeId × Value → H} {W : World}
theorem weights_agg {t : TypeId} {fs : Array Field} (ht : Tryd.prog.underlying t = some (.struct fs)) (ps : List (DataW H)) : (DataW.agg ps).weights Tryd.prog t = DataW.weightsEach Tryd.prog (fs.toList.map (·.type)) ps := by
  simp only [DataW.weights, ht]
theorem three_op : ∃ f0 f1 f2, Tryd.prog.underlying 33 = some (.struct #[f0, f1, f2]) ∧ (f0.type = 3 ∧ f0.offset = 0) ∧ (f1.type = 3 ∧ f1.offset = 1) ∧ (f2.type = 31 ∧ f2.offset = 2) :=
  ⟨_, _, _, Tryd.underlying33, ⟨rfl, rfl⟩, ⟨rfl, rfl⟩, ⟨rfl, rfl⟩⟩
theorem list3 {α : Type} {cs : List α} (h : cs.length = 3) : ∃ c0 c1 c2, cs = [c0, c1, c2] := by
  match cs, h with
  | [c0, c1, c2], _ => exact ⟨c0, c1, c2, rfl⟩
/-- One call of a script, read. -/
theorem op_read {n : Nat} {cs : List Value} {x : DataW H × List MemPlace} (h : DataW.trod enc Tryd.prog W 0 (fun _ => true) true n 33 cs = some x) (hw : ∀ y ∈ x.1.weights Tryd.prog 33, y ≤ reachBytes) :
    ∃ o : OpR, cs = [.int .i64 o.kind, .int .i64 o.n, o.nv] ∧ Ints W o.nv o.ns ∧ I64 o.n := by
  obtain ⟨f0, f1, f2, hs, ⟨t0, o0⟩, ⟨t1, o1⟩, ⟨t2, o2⟩⟩ := three_op
  obtain ⟨xs, m, -, rfl, hl, hlen, hf⟩ := DataW.trod_struct hs h
  rw [cellsOp] at hl
  obtain ⟨c0, c1, c2, rfl⟩ := list3 hl
  obtain ⟨y0, y1, y2, rfl⟩ := list3 (cs := xs) (by simpa using hlen)
  have g0 := hf 0 f0 rfl
  have g1 := hf 1 f1 rfl
  have g2 := hf 2 f2 rfl
  rw [t0, o0, cellsInt] at g0
  rw [t1, o1, cellsInt] at g1
  rw [t2, o2, cellsInts] at g2
  have g0' : DataW.trod enc Tryd.prog W 0 (fun _ => true) true m 3 [c0] = some y0 := g0
  have g1' : DataW.trod enc Tryd.prog W 0 (fun _ => true) true m 3 [c1] = some y1 := g1
  have g2' : DataW.trod enc Tryd.prog W 0 (fun _ => true) true m 31 [c2] = some y2 := g2
  have hw' : ∀ y ∈ DataW.weightsEach Tryd.prog [f0.type, f1.type, f2.type] [y0.1, y1.1, y2.1], y ≤ reachBytes := by
    have e := weights_agg hs ([y0, y1, y2].map (·.1))
    rw [e] at hw
    exact hw
  simp only [t0, t1, t2, DataW.weightsEach, List.mem_append] at hw'
  obtain ⟨a, e0, -, -⟩ := DataW.trod_int Tryd.underlying3 g0'
  obtain ⟨b, e1, -, hb⟩ := DataW.trod_int Tryd.underlying3 g1'
  simp only [List.cons.injEq, and_true] at e0 e1
  subst e0 e1
  obtain ⟨ns, hns⟩ := ints_read g2' (fun x hx => hw' x (Or.inr (Or.inr (Or.inl hx))))
  exact ⟨⟨a, b, c2, ns⟩, rfl, hns, I64.of_wf hb⟩
/-- A script, read. -/
theorem script_read {v : Value} {d : DataW H} {ps : List MemPlace} (h : DataW.Trod enc Tryd.prog W 0 (fun _ => true) true 22 v d ps) (hs : ∃ a l c, v = .slice a l c) (hw : ∀ x ∈ d.weights Tryd.prog 22, x ≤ reachBytes) : ∃ l, Script W v l := by
  obtain ⟨a0, l0, c0, rfl⟩ := hs
  obtain ⟨fuel, hf⟩ := h
  rcases open_slice Tryd.underlying22 hf with ⟨hcs, -⟩ | ⟨a, len, cap, m, n, D, Pl, hcs, -, hl, -, hm, hd, hx⟩
  · simp [Value.cells] at hcs
    obtain ⟨rfl, rfl, rfl⟩ := hcs
    exact ⟨[], none, 0, 0, 0, rfl, by simp, by simp⟩
  · simp [Value.cells] at hcs
    obtain ⟨rfl, rfl, rfl⟩ := hcs
    simp only [if_true] at hm
    subst hm
    rw [cellsOp] at hx
    have hdd := congrArg Prod.fst hd
    simp only at hdd
    rw [hdd, weights_slice Tryd.underlying22] at hw
    have each : ∀ i, i < l0 → ∃ o : OpR, W.cells? 0 (a.add (i * 3)) 3 = some [.int .i64 o.kind, .int .i64 o.n, o.nv] ∧ Ints W o.nv o.ns ∧ I64 o.n := fun i hi => by
      obtain ⟨cs', h1, h2⟩ := hx i (by omega)
      obtain ⟨o, rfl, ho⟩ := op_read h2 (fun y hy => hw y (List.mem_cons_of_mem _ (List.mem_append_left _ (mem_weightsAll (List.mem_map.2 ⟨i, List.mem_range.2 hi, rfl⟩) hy))))
      exact ⟨o, h1, ho⟩
    have inst : Inhabited OpR := ⟨⟨0, 0, .nilIface, []⟩⟩
    obtain ⟨K, hK⟩ := choose_lt each
    refine ⟨(List.range l0).map K, ?_⟩
    by_cases h0 : l0 = 0
    · subst h0
      exact ⟨some a, _, 0, 0, rfl, by simp, by simp⟩
    · obtain ⟨b, off, spot⟩ := a
      have hsp : spot = none := by
        have := (World.cells?_some (hK 0 (by omega)).1).2.2 0 (by omega)
        have e0 : ((⟨b, off, spot⟩ : Addr).add (0 * 3)).add 0 = ⟨b, off, spot⟩ := by simp [Addr.add]
        rw [e0] at this
        exact World.cell?_spot (by simpa using this)
      subst hsp
      refine ⟨some ⟨b, off, none⟩, _, b, off, by simp; rfl, fun _ => rfl, fun i o ho => ?_⟩
      obtain ⟨hi, rfl⟩ := List.getElem?_eq_some_iff.1 ho
      have hi' : i < l0 := by simpa using hi
      have hc := (World.cells?_some (hK i hi').1).2.2
      have c0 := hc 0 (by omega)
      have c1 := hc 1 (by omega)
      have c2 := hc 2 (by omega)
      rw [add_plain, add_plain] at c0 c1 c2
      simp at c0 c1 c2
      simp only [List.getElem_map, List.getElem_range]
      exact ⟨c0, c1, c2, (hK i hi').2⟩
end
end Go.Proofs.YtkkklobjfoehnaaDoor
