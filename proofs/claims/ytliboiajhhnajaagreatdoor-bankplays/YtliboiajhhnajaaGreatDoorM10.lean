import Derived.Test.YtliboiajhhnajaaGreatDoorRows
import Derived.Test.YtliboiajhhnajaaGreatDoorM07
import Derived.Test.YtliboiajhhnajaaGreatDoorM09
import Derived.LaidLaws
import Derived.LaidHandle
import Derived.LaidMore
import Derived.Stop.LaidErr
import Derived.Stop.Joined
import Derived.ChangeSame
import Derived.ChangeVars
import Derived.JoinedOf
import Derived.RowKit
import Derived.RowKitTokens
import Derived.ProofKit
import Derived.OpenShut
import Derived.Deep.Slices
import Derived.Lib.SmallJoins
import Derived.SizedLaws
/- What every row of this seat's proofs needs besides its walk: arguments read as data. -/
namespace Go.Proofs.YtliboiajhhnajaaGreatDoor
open Go.ChangeShapes Go.WideShapes Go.ChangeAt Go.RowKit Go.Deep

theorem own : ownKnob Tryz.prog.godebug = none := by kernel_rfl
theorem laidOut : laidOutB Tryz.prog = true := by kernel_rfl
theorem gET : Tryz.prog.globalNamed "errors.errorType" = some 0 := by kernel_rfl
theorem rowRT : (Tryz.prog.cutTypes.find? (·.1 == "internal/reflectlite.rtype")).map (·.2) = some 122 := by kernel_rfl
theorem oneRow : ((List.range 203).filter fun t => Tryz.prog.rowNamed t [101, 114, 114, 111, 114]) = [46] := by kernel_rfl
theorem sizeT : Tryz.prog.types.size = 203 := by kernel_rfl
/-- What the condition gives a walk: the variable's one cell. -/
theorem laid_of_handle {W : World} (h : handlesMet Tryz.prog [("errors.errorType", Rows.laid_errors_errorType)] W) : Laid W := by
  obtain ⟨name, u, ty, e1, e2, e3, e4, e5⟩ := h _ (List.mem_singleton.2 rfl)
  have en : name = [101, 114, 114, 111, 114] := (Option.some.inj e1).symm
  subst en
  obtain rfl := Option.some.inj (rowRT.symm.trans e2)
  have hm : ty ∈ (List.range 203).filter fun t => Tryz.prog.rowNamed t [101, 114, 114, 111, 114] := List.mem_filter.2 ⟨List.mem_range.2 (by rw [← sizeT]; exact e3), e4⟩
  rw [oneRow] at hm
  obtain rfl := List.mem_singleton.1 hm
  have hh : typeHandle Tryz.prog 46 = .pointer (some ⟨1, 46, none⟩) := by kernel_rfl
  rw [hh] at e5
  unfold Laid
  simpa using World.var?_cell gET e5 0
theorem laid_of_one {W : World} (h : laidMetH Tryz.prog [("errors.errorType", Rows.laid_errors_errorType)] W) : Laid W := by
  have h' : laidMet Tryz.prog [] W ∧ handlesMet Tryz.prog [("errors.errorType", Rows.laid_errors_errorType)] W := h
  exact laid_of_handle h'.2
/-- A world that meets the condition: the heap that the initialisers leave. -/
theorem door_met (os : Os) (args : Array Value) : laidMetH Tryz.prog [("errors.errorType", Rows.laid_errors_errorType)] ((World.doorLaid Tryz.prog 16 os).forCall (fun _ _ => 0) ⟨#[], args, []⟩).memory :=
  laidMetH_of_parts (laidMet_nil _ _) (by kernel_rfl)
theorem cellsU8 : Tryz.prog.cellsOf 5 = 1 := by kernel_rfl
theorem cellsInt : Tryz.prog.cellsOf 3 = 1 := by kernel_rfl
theorem cellsBytes : Tryz.prog.cellsOf 28 = 1 := by kernel_rfl
theorem cellsInts : Tryz.prog.cellsOf 29 = 1 := by kernel_rfl
theorem cellsOp : Tryz.prog.cellsOf 31 = 6 := by kernel_rfl
theorem bytesU8 : Tryz.prog.bytesOf 5 = 1 := by kernel_rfl
theorem bytesInt : Tryz.prog.bytesOf 3 = 8 := by kernel_rfl

theorem add_plain' (b off i : Nat) : (⟨b, off, none⟩ : Addr).add i = ⟨b, off + i, none⟩ := by unfold Addr.add; split <;> simp_all

section
variable {H : Type} {enc : TypeId × Value → H} {W : World}

theorem weights_slice {t e : TypeId} (ht : Tryz.prog.underlying t = some (.slice e)) (el sp : List (DataW H)) :
    (DataW.slice el sp).weights Tryz.prog t = (el.length + sp.length) * Tryz.prog.bytesOf e :: (DataW.weightsAll Tryz.prog e el ++ DataW.weightsAll Tryz.prog e sp) := by
  simp only [DataW.weights, ht]
theorem mem_weightsAll {e : TypeId} {y : Nat} : ∀ {l : List (DataW H)} {d : DataW H}, d ∈ l → y ∈ d.weights Tryz.prog e → y ∈ DataW.weightsAll Tryz.prog e l
  | a :: l, d, hd, hy => by
    simp only [DataW.weightsAll, List.mem_append]
    rcases List.mem_cons.1 hd with rfl | h
    · exact Or.inl hy
    · exact Or.inr (mem_weightsAll h hy)

theorem sized_one {t : TypeId} {ts : List TypeId} {d : DataW H} {ds : List (DataW H)} (h : (DataW.weightsEach Tryz.prog (t :: ts) (d :: ds)).all (fun x => decide (x ≤ reachBytes)) = true) : ∀ x ∈ d.weights Tryz.prog t, x ≤ reachBytes := fun x hx => by
  have := List.all_eq_true.1 h x (by simp only [DataW.weightsEach, List.mem_append]; exact Or.inl hx)
  simpa using this
theorem sized_next {t : TypeId} {ts : List TypeId} {d : DataW H} {ds : List (DataW H)} (h : (DataW.weightsEach Tryz.prog (t :: ts) (d :: ds)).all (fun x => decide (x ≤ reachBytes)) = true) : (DataW.weightsEach Tryz.prog ts ds).all (fun x => decide (x ≤ reachBytes)) = true := by
  rw [List.all_eq_true] at *
  exact fun x hx => h x (by simp only [DataW.weightsEach, List.mem_append]; exact Or.inr hx)
/-- Bytes read. -/
theorem bytes_read {n : Nat} {v : Value} {y : DataW H × List MemPlace} (h : DataW.trod enc Tryz.prog W 0 (fun _ => true) true n 28 [v] = some y) (hw : ∀ x ∈ y.1.weights Tryz.prog 28, x ≤ reachBytes) : ∃ bs, Bytes W v bs := by
  rcases open_slice1 Tryz.underlying28 cellsU8 h with ⟨hcs, _⟩ | ⟨a, len, cap, m, k, V, D, Pl, hcs, _, hl, hm, hmm, rfl, hx⟩
  · simp only [List.cons.injEq, and_true] at hcs
    subst hcs
    exact ⟨[], Bytes.nil W⟩
  · simp only [List.cons.injEq, and_true] at hcs
    subst hcs
    simp only [if_true] at hmm
    subst hmm
    have hlen : len ≤ 140737488355328 := by
      have := hw _ (by rw [weights_slice Tryz.underlying28]; exact List.mem_cons_self)
      rw [bytesU8] at this
      simp [reachBytes] at this
      omega
    have each : ∀ i, i < len → ∃ b : Nat, W.cell? (a.add i) = some (.int .u8 (b : Int)) ∧ b < 256 := fun i hi => by
      obtain ⟨h1, h2⟩ := hx i (by omega)
      obtain ⟨z, e1, -, hz⟩ := DataW.trod_int Tryz.underlying5 h2
      simp only [List.cons.injEq, and_true] at e1
      have hz' : (0 : Int) ≤ z ∧ z ≤ 255 := by simpa [Lit.wf, IntKind.min, IntKind.max, IntKind.bits, IntKind.signed] using hz
      refine ⟨z.toNat, ?_, by omega⟩
      rw [h1, e1, Int.toNat_of_nonneg hz'.1]
    obtain ⟨B, hB⟩ := choose_lt each
    refine ⟨(List.range len).map B, ?_⟩
    have hll : ((List.range len).map B).length = len := by simp
    by_cases h0 : len = 0
    · subst h0
      exact ⟨some a, m, 0, 0, by simp, by simp, by simp, by simp, by simp, by simp, by simp, hm⟩
    · obtain ⟨b, off, spot⟩ := a
      have hsp : spot = none := by
        have := (hB 0 (by omega)).1
        exact World.cell?_spot (by simpa [Addr.add] using this)
      subst hsp
      refine ⟨some ⟨b, off, none⟩, m, b, off, by rw [hll], fun _ => rfl, fun i q hq => ?_, fun q hq => ?_, by rw [hll]; exact hlen, by simp, by rw [hll]; exact hl, hm⟩
      · obtain ⟨hi, rfl⟩ := List.getElem?_eq_some_iff.1 hq
        have := (hB i (by simpa using hi)).1
        rw [add_plain'] at this
        simpa using this
      · obtain ⟨i, hi, rfl⟩ := List.mem_map.1 hq
        exact (hB i (List.mem_range.1 hi)).2
theorem weights_agg {t : TypeId} {fs : Array Field} (ht : Tryz.prog.underlying t = some (.struct fs)) (ps : List (DataW H)) : (DataW.agg ps).weights Tryz.prog t = DataW.weightsEach Tryz.prog (fs.toList.map (·.type)) ps := by
  simp only [DataW.weights, ht]

/-- Numbers read. -/
theorem ints_read {n : Nat} {v : Value} {y : DataW H × List MemPlace} (h : DataW.trod enc Tryz.prog W 0 (fun _ => true) true n 29 [v] = some y) (hw : ∀ x ∈ y.1.weights Tryz.prog 29, x ≤ reachBytes) : ∃ ns, Ints W v ns := by
  rcases open_slice1 Tryz.underlying29 cellsInt h with ⟨hcs, _⟩ | ⟨a, len, cap, m, k, V, D, Pl, hcs, _, hl, hm, hmm, rfl, hx⟩
  · simp only [List.cons.injEq, and_true] at hcs
    subst hcs
    exact ⟨[], none, 0, 0, 0, rfl, by simp, by simp, by simp, by simp, by simp, by simp, by simp⟩
  · simp only [List.cons.injEq, and_true] at hcs
    subst hcs
    simp only [if_true] at hmm
    subst hmm
    have hlen : len ≤ 140737488355328 := by
      have := hw _ (by rw [weights_slice Tryz.underlying29]; exact List.mem_cons_self)
      rw [bytesInt] at this
      simp [reachBytes] at this
      omega
    have each : ∀ i, i < len → ∃ z : Int, W.cell? (a.add i) = some (.int .i64 z) ∧ I64 z := fun i hi => by
      obtain ⟨h1, h2⟩ := hx i (by omega)
      obtain ⟨z, e1, -, hz⟩ := DataW.trod_int Tryz.underlying3 h2
      simp only [List.cons.injEq, and_true] at e1
      exact ⟨z, by rw [h1, e1], I64.of_wf hz⟩
    obtain ⟨B, hB⟩ := choose_lt each
    refine ⟨(List.range len).map B, ?_⟩
    have hll : ((List.range len).map B).length = len := by simp
    by_cases h0 : len = 0
    · subst h0
      exact ⟨some a, m, 0, 0, by simp, by simp, by simp, by simp, by simp, by simp, by simp, hm⟩
    · obtain ⟨b, off, spot⟩ := a
      have hsp : spot = none := by
        have := (hB 0 (by omega)).1
        exact World.cell?_spot (by simpa [Addr.add] using this)
      subst hsp
      refine ⟨some ⟨b, off, none⟩, m, b, off, by rw [hll], fun _ => rfl, fun i q hq => ?_, fun q hq => ?_, by rw [hll]; exact hlen, by simp, by rw [hll]; exact hl, hm⟩
      · obtain ⟨hi, rfl⟩ := List.getElem?_eq_some_iff.1 hq
        have := (hB i (by simpa using hi)).1
        rw [add_plain'] at this
        simpa using this
      · obtain ⟨i, hi, rfl⟩ := List.mem_map.1 hq
        exact (hB i (List.mem_range.1 hi)).2

theorem six_op : ∃ f0 f1 f2 f3 f4 f5, Tryz.prog.underlying 31 = some (.struct #[f0, f1, f2, f3, f4, f5]) ∧ (f0.type = 3 ∧ f0.offset = 0) ∧ (f1.type = 3 ∧ f1.offset = 1) ∧ (f2.type = 3 ∧ f2.offset = 2) ∧ (f3.type = 3 ∧ f3.offset = 3) ∧ (f4.type = 28 ∧ f4.offset = 4) ∧ (f5.type = 29 ∧ f5.offset = 5) :=
  ⟨_, _, _, _, _, _, Tryz.underlying31, ⟨rfl, rfl⟩, ⟨rfl, rfl⟩, ⟨rfl, rfl⟩, ⟨rfl, rfl⟩, ⟨rfl, rfl⟩, ⟨rfl, rfl⟩⟩
theorem list6 {α : Type} {cs : List α} (h : cs.length = 6) : ∃ c0 c1 c2 c3 c4 c5, cs = [c0, c1, c2, c3, c4, c5] := by
  match cs, h with
  | [c0, c1, c2, c3, c4, c5], _ => exact ⟨c0, c1, c2, c3, c4, c5, rfl⟩
/-- One call of a script, read. -/
theorem op_read {n : Nat} {cs : List Value} {x : DataW H × List MemPlace} (h : DataW.trod enc Tryz.prog W 0 (fun _ => true) true n 31 cs = some x) (hw : ∀ y ∈ x.1.weights Tryz.prog 31, y ≤ reachBytes) :
    ∃ o : OpR, cs = [.int .i64 o.kind, .int .i64 o.dev, .int .i64 o.sec, .int .i64 o.n, o.dv, o.pv] ∧ I64 o.dev ∧ I64 o.sec ∧ I64 o.n ∧ Bytes W o.dv o.d ∧ Ints W o.pv o.ps := by
  obtain ⟨f0, f1, f2, f3, f4, f5, hs, ⟨t0, o0⟩, ⟨t1, o1⟩, ⟨t2, o2⟩, ⟨t3, o3⟩, ⟨t4, o4⟩, ⟨t5, o5⟩⟩ := six_op
  obtain ⟨xs, m, -, rfl, hl, hlen, hf⟩ := DataW.trod_struct hs h
  rw [cellsOp] at hl
  obtain ⟨c0, c1, c2, c3, c4, c5, rfl⟩ := list6 hl
  obtain ⟨y0, y1, y2, y3, y4, y5, rfl⟩ := list6 (cs := xs) (by simpa using hlen)
  have g0 := hf 0 f0 rfl
  have g1 := hf 1 f1 rfl
  have g2 := hf 2 f2 rfl
  have g3 := hf 3 f3 rfl
  have g4 := hf 4 f4 rfl
  have g5 := hf 5 f5 rfl
  rw [t0, o0, cellsInt] at g0
  rw [t1, o1, cellsInt] at g1
  rw [t2, o2, cellsInt] at g2
  rw [t3, o3, cellsInt] at g3
  rw [t4, o4, cellsBytes] at g4
  rw [t5, o5, cellsInts] at g5
  have g0' : DataW.trod enc Tryz.prog W 0 (fun _ => true) true m 3 [c0] = some y0 := g0
  have g1' : DataW.trod enc Tryz.prog W 0 (fun _ => true) true m 3 [c1] = some y1 := g1
  have g2' : DataW.trod enc Tryz.prog W 0 (fun _ => true) true m 3 [c2] = some y2 := g2
  have g3' : DataW.trod enc Tryz.prog W 0 (fun _ => true) true m 3 [c3] = some y3 := g3
  have g4' : DataW.trod enc Tryz.prog W 0 (fun _ => true) true m 28 [c4] = some y4 := g4
  have g5' : DataW.trod enc Tryz.prog W 0 (fun _ => true) true m 29 [c5] = some y5 := g5
  have hw' : ∀ y ∈ DataW.weightsEach Tryz.prog [f0.type, f1.type, f2.type, f3.type, f4.type, f5.type] [y0.1, y1.1, y2.1, y3.1, y4.1, y5.1], y ≤ reachBytes := by
    have e := weights_agg hs ([y0, y1, y2, y3, y4, y5].map (·.1))
    rw [e] at hw
    exact hw
  simp only [t0, t1, t2, t3, t4, t5, DataW.weightsEach, List.mem_append] at hw'
  obtain ⟨a, e0, -, -⟩ := DataW.trod_int Tryz.underlying3 g0'
  obtain ⟨b, e1, -, hb⟩ := DataW.trod_int Tryz.underlying3 g1'
  obtain ⟨c, e2, -, hc⟩ := DataW.trod_int Tryz.underlying3 g2'
  obtain ⟨d, e3, -, hd⟩ := DataW.trod_int Tryz.underlying3 g3'
  simp only [List.cons.injEq, and_true] at e0 e1 e2 e3
  subst e0 e1 e2 e3
  obtain ⟨bs, hbs⟩ := bytes_read g4' (fun x hx => hw' x (Or.inr (Or.inr (Or.inr (Or.inr (Or.inl hx))))))
  obtain ⟨ns, hns⟩ := ints_read g5' (fun x hx => hw' x (Or.inr (Or.inr (Or.inr (Or.inr (Or.inr (Or.inl hx)))))))
  exact ⟨⟨a, b, c, d, c4, bs, c5, ns⟩, rfl, I64.of_wf hb, I64.of_wf hc, I64.of_wf hd, hbs, hns⟩

/-- A script, read. -/
theorem script_read {v : Value} {d : DataW H} {ps : List MemPlace} (h : DataW.Trod enc Tryz.prog W 0 (fun _ => true) true 22 v d ps) (hs : ∃ a l c, v = .slice a l c) (hw : ∀ x ∈ d.weights Tryz.prog 22, x ≤ reachBytes) : ∃ l, Script W v l := by
  obtain ⟨a0, l0, c0, rfl⟩ := hs
  obtain ⟨fuel, hf⟩ := h
  rcases open_slice Tryz.underlying22 hf with ⟨hcs, -⟩ | ⟨a, len, cap, m, n, D, Pl, hcs, -, hl, -, hm, hd, hx⟩
  · simp [Value.cells] at hcs
    obtain ⟨rfl, rfl, rfl⟩ := hcs
    exact ⟨[], none, 0, 0, 0, rfl, by simp, by simp⟩
  · simp [Value.cells] at hcs
    obtain ⟨rfl, rfl, rfl⟩ := hcs
    simp only [if_true] at hm
    subst hm
    rw [cellsOp] at hx
    have hdd := congrArg Prod.fst hd
    simp only at hdd
    rw [hdd, weights_slice Tryz.underlying22] at hw
    have each : ∀ i, i < l0 → ∃ o : OpR, W.cells? 0 (a.add (i * 6)) 6 = some [.int .i64 o.kind, .int .i64 o.dev, .int .i64 o.sec, .int .i64 o.n, o.dv, o.pv] ∧ I64 o.dev ∧ I64 o.sec ∧ I64 o.n ∧ Bytes W o.dv o.d ∧ Ints W o.pv o.ps := fun i hi => by
      obtain ⟨cs', h1, h2⟩ := hx i (by omega)
      obtain ⟨o, rfl, ho⟩ := op_read h2 (fun y hy => hw y (List.mem_cons_of_mem _ (List.mem_append_left _ (mem_weightsAll (List.mem_map.2 ⟨i, List.mem_range.2 hi, rfl⟩) hy))))
      exact ⟨o, h1, ho⟩
    have inst : Inhabited OpR := ⟨⟨0, 0, 0, 0, .nilIface, [], .nilIface, []⟩⟩
    obtain ⟨K, hK⟩ := choose_lt each
    refine ⟨(List.range l0).map K, ?_⟩
    by_cases h0 : l0 = 0
    · subst h0
      exact ⟨some a, _, 0, 0, rfl, by simp, by simp⟩
    · obtain ⟨b, off, spot⟩ := a
      have hsp : spot = none := by
        have := (World.cells?_some (hK 0 (by omega)).1).2.2 0 (by omega)
        have e0 : ((⟨b, off, spot⟩ : Addr).add (0 * 6)).add 0 = ⟨b, off, spot⟩ := by simp [Addr.add]
        rw [e0] at this
        exact World.cell?_spot (by simpa using this)
      subst hsp
      refine ⟨some ⟨b, off, none⟩, _, b, off, by simp; rfl, fun _ => rfl, fun i o ho => ?_⟩
      obtain ⟨hi, rfl⟩ := List.getElem?_eq_some_iff.1 ho
      have hi' : i < l0 := by simpa using hi
      have hc := (World.cells?_some (hK i hi').1).2.2
      have c0 := hc 0 (by omega)
      have c1 := hc 1 (by omega)
      have c2 := hc 2 (by omega)
      have c3 := hc 3 (by omega)
      have c4 := hc 4 (by omega)
      have c5 := hc 5 (by omega)
      rw [add_plain', add_plain'] at c0 c1 c2 c3 c4 c5
      simp at c0 c1 c2 c3 c4 c5
      simp only [List.getElem_map, List.getElem_range]
      exact ⟨c0, c1, c2, c3, c4, c5, (hK i hi').2.1, (hK i hi').2.2.1, (hK i hi').2.2.2.1, (hK i hi').2.2.2.2.1, (hK i hi').2.2.2.2.2⟩
end
end Go.Proofs.YtliboiajhhnajaaGreatDoor
