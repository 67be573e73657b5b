/- What every row of this seat's proofs needs besides its walk: arguments read as data. -/
import Derived.Test.YtcidadikmmdalaaDoorRows
import Derived.Test.YtcidadikmmdalaaDoorIn
import Derived.ChangeSame
import Derived.ChangeVars
import Derived.JoinedOf
import Derived.RowKit
import Derived.RowKitTokens
import Derived.ProofKit
import Derived.OpenShut
import Derived.Deep.Slices
import Derived.Deep.Strs
import Derived.Lib.SmallJoins
import Derived.SizedLaws
namespace Go.Proofs.YtcidadikmmdalaaDoor
open Go.ChangeShapes Go.WideShapes Go.ChangeAt Go.RowKit Go.Deep

theorem own : ownKnob Tryd.prog.godebug = none := by kernel_rfl
theorem laidOut : laidOutB Tryd.prog = true := by kernel_rfl
theorem cellsInt : Tryd.prog.cellsOf 3 = 1 := by kernel_rfl
theorem cellsInts : Tryd.prog.cellsOf 22 = 1 := by kernel_rfl
theorem cellsNode : Tryd.prog.cellsOf 24 = 3 := by kernel_rfl
theorem bytesInt : Tryd.prog.bytesOf 3 = 8 := by kernel_rfl
theorem three_node : ∃ f0 f1 f2, Tryd.prog.underlying 24 = some (.struct #[f0, f1, f2]) ∧ (f0.type = 3 ∧ f0.offset = 0) ∧ (f1.type = 22 ∧ f1.offset = 1) ∧ (f2.type = 22 ∧ f2.offset = 2) :=
  ⟨_, _, _, Tryd.underlying24, ⟨rfl, rfl⟩, ⟨rfl, rfl⟩, ⟨rfl, rfl⟩⟩
theorem arr3 {cs : Array Value} (h : cs.size = 3) : ∃ c0 c1 c2, cs = #[c0, c1, c2] := by
  obtain ⟨l⟩ := cs
  match l, h with
  | [c0, c1, c2], _ => exact ⟨c0, c1, c2, rfl⟩

section
variable {H : Type} {enc : TypeId × Value → H} {W : World}
theorem weights_slice {t e : TypeId} (ht : Tryd.prog.underlying t = some (.slice e)) (el sp : List (DataW H)) :
    (DataW.slice el sp).weights Tryd.prog t = (el.length + sp.length) * Tryd.prog.bytesOf e :: (DataW.weightsAll Tryd.prog e el ++ DataW.weightsAll Tryd.prog e sp) := by
  simp only [DataW.weights, ht]
theorem weights_agg {t : TypeId} {fs : Array Field} (ht : Tryd.prog.underlying t = some (.struct fs)) (ps : List (DataW H)) : (DataW.agg ps).weights Tryd.prog t = DataW.weightsEach Tryd.prog (fs.toList.map (·.type)) ps := by
  simp only [DataW.weights, ht]
theorem sized_one {t : TypeId} {ts : List TypeId} {d : DataW H} {ds : List (DataW H)} (h : (DataW.weightsEach Tryd.prog (t :: ts) (d :: ds)).all (fun x => decide (x ≤ reachBytes)) = true) : ∀ x ∈ d.weights Tryd.prog t, x ≤ reachBytes := fun x hx => by
  have := List.all_eq_true.1 h x (by simp only [DataW.weightsEach, List.mem_append]; exact Or.inl hx)
  simpa using this
theorem sized_next {t : TypeId} {ts : List TypeId} {d : DataW H} {ds : List (DataW H)} (h : (DataW.weightsEach Tryd.prog (t :: ts) (d :: ds)).all (fun x => decide (x ≤ reachBytes)) = true) : (DataW.weightsEach Tryd.prog ts ds).all (fun x => decide (x ≤ reachBytes)) = true := by
  rw [List.all_eq_true] at *
  exact fun x hx => h x (by simp only [DataW.weightsEach, List.mem_append]; exact Or.inr hx)
/-- Numbers, read. -/
theorem ints_read {n : Nat} {v : Value} {y : DataW H × List MemPlace} (h : DataW.trod enc Tryd.prog W 0 (fun _ => true) true n 22 [v] = some y) (hw : ∀ x ∈ y.1.weights Tryd.prog 22, x ≤ reachBytes) : ∃ l, Ints W v l := by
  rcases open_slice1 Tryd.underlying22 cellsInt h with ⟨hcs, _⟩ | ⟨a, len, cap, m, k, V, D, Pl, hcs, _, hl, hm, hmm, rfl, hx⟩
  · simp only [List.cons.injEq, and_true] at hcs
    subst hcs
    exact ⟨[], Ints.nil W⟩
  · simp only [List.cons.injEq, and_true] at hcs
    subst hcs
    simp only [if_true] at hmm
    subst hmm
    have hlen : len ≤ 140737488355328 := by
      have := hw _ (by rw [weights_slice Tryd.underlying22]; exact List.mem_cons_self)
      rw [bytesInt] at this
      simp [reachBytes] at this
      omega
    have each : ∀ i, i < len → ∃ k : Int, W.cell? (a.add i) = some (.int .i64 k) ∧ I64 k := fun i hi => by
      obtain ⟨h1, h2⟩ := hx i (by omega)
      obtain ⟨z, e1, -, hz⟩ := DataW.trod_int Tryd.underlying3 h2
      simp only [List.cons.injEq, and_true] at e1
      exact ⟨z, by rw [h1, e1], I64.of_wf hz⟩
    obtain ⟨B, hB⟩ := choose_lt each
    have hll : ((List.range len).map B).length = len := by simp
    have hI : ∀ k ∈ (List.range len).map B, I64 k := fun k hk => by
      obtain ⟨i, hi, rfl⟩ := List.mem_map.1 hk
      exact (hB i (List.mem_range.1 hi)).2
    refine ⟨(List.range len).map B, ?_, hI⟩
    by_cases h0 : len = 0
    · subst h0
      exact ⟨some a, m, 0, 0, by simp, by simp, by simp, by simp, by simp, by simp, hm⟩
    · obtain ⟨b, off, spot⟩ := a
      have hsp : spot = none := by
        have := (hB 0 (by omega)).1
        exact World.cell?_spot (by simpa [Addr.add] using this)
      subst hsp
      refine ⟨some ⟨b, off, none⟩, m, b, off, by rw [List.length_map, hll], fun _ => rfl, fun i q hq => ?_, by rw [List.length_map, hll]; exact hlen, by simp, by rw [List.length_map, hll]; exact hl, hm⟩
      rw [List.getElem?_map] at hq
      obtain ⟨q', hq', rfl⟩ := Option.map_eq_some_iff.1 hq
      obtain ⟨hi, rfl⟩ := List.getElem?_eq_some_iff.1 hq'
      have := (hB i (by simpa using hi)).1
      rw [add_plain] at this
      simpa [encI] using this
set_option maxRecDepth 100000 in
/-- A node, read. -/
theorem node_read {base : Nat} {v : Value} {d : DataW H} {ps : List MemPlace} (h : DataW.Trod enc Tryd.prog W 0 (fun _ => true) true 24 v d ps) (hv : Value.okWide Tryd.prog W .any base 24 v) (hw : ∀ x ∈ d.weights Tryd.prog 24, x ≤ reachBytes) :
    ∃ L kv vv K V, v = .agg #[.int .i64 L, kv, vv] ∧ Ints W kv K ∧ Ints W vv V := by
  obtain ⟨f0, f1, f2, hs, ⟨t0, o0⟩, ⟨t1, o1⟩, ⟨t2, o2⟩⟩ := three_node
  obtain ⟨cs, rfl, hsz⟩ := okWide_struct hs hv
  rw [cellsNode] at hsz
  obtain ⟨c0, c1, c2, rfl⟩ := arr3 hsz
  obtain ⟨fuel, hf⟩ := h
  obtain ⟨y0, y1, y2, n, hxd, -, g0, g1, g2⟩ := trod_struct3 hs hf
  rw [t0, o0, cellsInt] at g0
  rw [t1, o1, cellsInts] at g1
  rw [t2, o2, cellsInts] at g2
  have g0' : DataW.trod enc Tryd.prog W 0 (fun _ => true) true n 3 [c0] = some y0 := g0
  have g1' : DataW.trod enc Tryd.prog W 0 (fun _ => true) true n 22 [c1] = some y1 := g1
  have g2' : DataW.trod enc Tryd.prog W 0 (fun _ => true) true n 22 [c2] = some y2 := g2
  obtain ⟨a, e0, -, -⟩ := DataW.trod_int Tryd.underlying3 g0'
  simp only [List.cons.injEq, and_true] at e0
  subst e0
  have hd : d = .agg [y0.1, y1.1, y2.1] := congrArg Prod.fst hxd
  subst hd
  have hwe : ∀ x ∈ DataW.weightsEach Tryd.prog [3, 22, 22] [y0.1, y1.1, y2.1], x ≤ reachBytes := by
    rw [weights_agg hs] at hw
    simpa [t0, t1, t2] using hw
  simp only [DataW.weightsEach, List.mem_append] at hwe
  obtain ⟨K, hK⟩ := ints_read g1' (fun x hx => hwe x (.inr (.inl hx)))
  obtain ⟨V, hV⟩ := ints_read g2' (fun x hx => hwe x (.inr (.inr (.inl hx))))
  exact ⟨a, c1, c2, K, V, rfl, hK, hV⟩
set_option maxRecDepth 100000 in
theorem ints_arg {base : Nat} {v : Value} {d : DataW H} {ps : List MemPlace} (h : DataW.Trod enc Tryd.prog W 0 (fun _ => true) true 22 v d ps) (hv : Value.okWide Tryd.prog W .any base 22 v) (hw : ∀ x ∈ d.weights Tryd.prog 22, x ≤ reachBytes) : ∃ l, Ints W v l := by
  obtain ⟨a, l, c, rfl⟩ := okWide_slice Tryd.underlying22 hv
  obtain ⟨fuel, hf⟩ := h
  have hf' : DataW.trod enc Tryd.prog W 0 (fun _ => true) true fuel 22 [Value.slice a l c] = some (d, ps) := hf
  exact ints_read hf' hw
theorem cellsEn : Tryd.prog.cellsOf 56 = 2 := by kernel_rfl
theorem bytesEn : Tryd.prog.bytesOf 56 = 16 := by kernel_rfl
theorem two_en : ∃ f0 f1, Tryd.prog.underlying 56 = some (.struct #[f0, f1]) ∧ (f0.type = 3 ∧ f0.offset = 0) ∧ (f1.type = 3 ∧ f1.offset = 1) := ⟨_, _, Tryd.underlying56, ⟨rfl, rfl⟩, ⟨rfl, rfl⟩⟩
theorem list2 {α : Type} {cs : List α} (h : cs.length = 2) : ∃ c0 c1, cs = [c0, c1] := by
  match cs, h with
  | [c0, c1], _ => exact ⟨c0, c1, rfl⟩
/-- One entry, read. -/
theorem ent_read {n : Nat} {cs : List Value} {x : DataW H × List MemPlace} (h : DataW.trod enc Tryd.prog W 0 (fun _ => true) true n 56 cs = some x) : ∃ e : En, cs = [.int .i64 e.1, .int .i64 e.2] ∧ enOk e := by
  obtain ⟨f0, f1, hs, ⟨t0, o0⟩, ⟨t1, o1⟩⟩ := two_en
  obtain ⟨xs, m, -, rfl, hl, hlen, hf⟩ := DataW.trod_struct hs h
  rw [cellsEn] at hl
  obtain ⟨c0, c1, rfl⟩ := list2 hl
  obtain ⟨y0, y1, rfl⟩ := list2 (cs := xs) (by simpa using hlen)
  have g0 := hf 0 f0 rfl
  have g1 := hf 1 f1 rfl
  rw [t0, o0, cellsInt] at g0
  rw [t1, o1, cellsInt] at g1
  have g0' : DataW.trod enc Tryd.prog W 0 (fun _ => true) true m 3 [c0] = some y0 := g0
  have g1' : DataW.trod enc Tryd.prog W 0 (fun _ => true) true m 3 [c1] = some y1 := g1
  obtain ⟨a, e0, -, ha⟩ := DataW.trod_int Tryd.underlying3 g0'
  obtain ⟨b, e1, -, hb⟩ := DataW.trod_int Tryd.underlying3 g1'
  simp only [List.cons.injEq, and_true] at e0 e1
  subst e0 e1
  exact ⟨(a, b), rfl, I64.of_wf ha, I64.of_wf hb⟩

theorem ents_read {v : Value} {d : DataW H} {ps : List MemPlace} (h : DataW.Trod enc Tryd.prog W 0 (fun _ => true) true 53 v d ps) (hs : ∃ a l c, v = .slice a l c) (hw : ∀ x ∈ d.weights Tryd.prog 53, x ≤ reachBytes) : ∃ l, Ents W v l := by
  obtain ⟨a0, l0, c0, rfl⟩ := hs
  obtain ⟨fuel, hf⟩ := h
  rcases open_slice Tryd.underlying53 hf with ⟨hcs, -⟩ | ⟨a, len, cap, m, n, D, Pl, hcs, -, hl, hm0, hm, hd, hx⟩
  · simp [Value.cells] at hcs
    obtain ⟨rfl, rfl, rfl⟩ := hcs
    exact ⟨[], Ents.nil W⟩
  · simp [Value.cells] at hcs
    obtain ⟨rfl, rfl, rfl⟩ := hcs
    simp only [if_true] at hm
    subst hm
    rw [cellsEn] at hx
    have hdd := congrArg Prod.fst hd
    simp only at hdd
    rw [hdd, weights_slice Tryd.underlying53] at hw
    have hlen : l0 ≤ 140737488355328 := by
      have := hw _ List.mem_cons_self
      rw [bytesEn] at this
      simp [reachBytes] at this
      omega
    have each : ∀ i, i < l0 → ∃ e : En, W.cells? 0 (a.add (i * 2)) 2 = some [.int .i64 e.1, .int .i64 e.2] ∧ enOk e := fun i hi => by
      obtain ⟨cs', h1, h2⟩ := hx i (by omega)
      obtain ⟨e, rfl, he⟩ := ent_read h2
      exact ⟨e, h1, he⟩
    have inst : Inhabited En := ⟨(0, 0)⟩
    obtain ⟨K, hK⟩ := choose_lt each
    refine ⟨(List.range l0).map K, ?_⟩
    have hll : ((List.range l0).map K).length = l0 := by simp
    by_cases h0 : l0 = 0
    · subst h0
      exact ⟨some a, _, 0, 0, rfl, by simp, by simp, by simp, by simp, by simp, by simp, hm0⟩
    · obtain ⟨b, off, spot⟩ := a
      have hsp : spot = none := by
        have := (World.cells?_some (hK 0 (by omega)).1).2.2 0 (by omega)
        have e0 : ((⟨b, off, spot⟩ : Addr).add (0 * 2)).add 0 = ⟨b, off, spot⟩ := by simp [Addr.add]
        rw [e0] at this
        exact World.cell?_spot (by simpa using this)
      subst hsp
      refine ⟨some ⟨b, off, none⟩, _, b, off, by rw [hll], fun _ => rfl, fun i o ho => ?_, fun q hq => ?_, by rw [hll]; exact hlen, by simp, by rw [hll]; exact hl, hm0⟩
      · obtain ⟨hi, rfl⟩ := List.getElem?_eq_some_iff.1 ho
        have hi' : i < l0 := by simpa using hi
        have hc := (World.cells?_some (hK i hi').1).2.2
        have c0 := hc 0 (by omega)
        have c1 := hc 1 (by omega)
        rw [add_plain, add_plain] at c0 c1
        simp at c0 c1
        simp only [List.getElem_map, List.getElem_range]
        exact ⟨c0, c1⟩
      · obtain ⟨i, hi, rfl⟩ := List.mem_map.1 hq
        exact (hK i (List.mem_range.1 hi)).2
set_option maxRecDepth 100000 in
theorem pairs_arg {base : Nat} {v : Value} {d : DataW H} {ps : List MemPlace} (h : DataW.Trod enc Tryd.prog W 0 (fun _ => true) true 53 v d ps) (hv : Value.okWide Tryd.prog W .any base 53 v) (hw : ∀ x ∈ d.weights Tryd.prog 53, x ≤ reachBytes) : ∃ l, Ents W v l := ents_read h (okWide_slice Tryd.underlying53 hv) hw
end
end Go.Proofs.YtcidadikmmdalaaDoor
