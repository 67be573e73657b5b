/- What every row of this seat's proofs needs besides its walk: arguments read as data. -/
import Derived.Test.YtcidadikmmdalabRows
import Derived.Test.YtcidadikmmdalabIn
import Derived.ChangeSame
import Derived.ChangeVars
import Derived.JoinedOf
import Derived.RowKit
import Derived.RowKitTokens
import Derived.ProofKit
import Derived.OpenShut
import Derived.Deep.Slices
import Derived.Deep.Strs
import Derived.Lib.SmallJoins
import Derived.SizedLaws
namespace Go.Proofs.Ytcidadikmmdalab
open Go.ChangeShapes Go.WideShapes Go.ChangeAt Go.RowKit Go.Deep

theorem own : ownKnob Try.prog.godebug = none := by kernel_rfl
theorem laidOut : laidOutB Try.prog = true := by kernel_rfl
theorem cellsInt : Try.prog.cellsOf 3 = 1 := by kernel_rfl
theorem cellsInts : Try.prog.cellsOf 22 = 1 := by kernel_rfl
theorem cellsNode : Try.prog.cellsOf 24 = 3 := by kernel_rfl
theorem bytesInt : Try.prog.bytesOf 3 = 8 := by kernel_rfl
theorem three_node : ∃ f0 f1 f2, Try.prog.underlying 24 = some (.struct #[f0, f1, f2]) ∧ (f0.type = 3 ∧ f0.offset = 0) ∧ (f1.type = 22 ∧ f1.offset = 1) ∧ (f2.type = 22 ∧ f2.offset = 2) :=
  ⟨_, _, _, Try.underlying24, ⟨rfl, rfl⟩, ⟨rfl, rfl⟩, ⟨rfl, rfl⟩⟩
theorem arr3 {cs : Array Value} (h : cs.size = 3) : ∃ c0 c1 c2, cs = #[c0, c1, c2] := by
  obtain ⟨l⟩ := cs
  match l, h with
  | [c0, c1, c2], _ => exact ⟨c0, c1, c2, rfl⟩

section
variable {H : Type} {enc : TypeId × Value → H} {W : World}
theorem weights_slice {t e : TypeId} (ht : Try.prog.underlying t = some (.slice e)) (el sp : List (DataW H)) :
    (DataW.slice el sp).weights Try.prog t = (el.length + sp.length) * Try.prog.bytesOf e :: (DataW.weightsAll Try.prog e el ++ DataW.weightsAll Try.prog e sp) := by
  simp only [DataW.weights, ht]
theorem weights_agg {t : TypeId} {fs : Array Field} (ht : Try.prog.underlying t = some (.struct fs)) (ps : List (DataW H)) : (DataW.agg ps).weights Try.prog t = DataW.weightsEach Try.prog (fs.toList.map (·.type)) ps := by
  simp only [DataW.weights, ht]
theorem sized_one {t : TypeId} {ts : List TypeId} {d : DataW H} {ds : List (DataW H)} (h : (DataW.weightsEach Try.prog (t :: ts) (d :: ds)).all (fun x => decide (x ≤ reachBytes)) = true) : ∀ x ∈ d.weights Try.prog t, x ≤ reachBytes := fun x hx => by
  have := List.all_eq_true.1 h x (by simp only [DataW.weightsEach, List.mem_append]; exact Or.inl hx)
  simpa using this
theorem sized_next {t : TypeId} {ts : List TypeId} {d : DataW H} {ds : List (DataW H)} (h : (DataW.weightsEach Try.prog (t :: ts) (d :: ds)).all (fun x => decide (x ≤ reachBytes)) = true) : (DataW.weightsEach Try.prog ts ds).all (fun x => decide (x ≤ reachBytes)) = true := by
  rw [List.all_eq_true] at *
  exact fun x hx => h x (by simp only [DataW.weightsEach, List.mem_append]; exact Or.inr hx)
/-- Numbers, read. -/
theorem ints_read {n : Nat} {v : Value} {y : DataW H × List MemPlace} (h : DataW.trod enc Try.prog W 0 (fun _ => true) true n 22 [v] = some y) (hw : ∀ x ∈ y.1.weights Try.prog 22, x ≤ reachBytes) : ∃ l, Ints W v l := by
  rcases open_slice1 Try.underlying22 cellsInt h with ⟨hcs, _⟩ | ⟨a, len, cap, m, k, V, D, Pl, hcs, _, hl, hm, hmm, rfl, hx⟩
  · simp only [List.cons.injEq, and_true] at hcs
    subst hcs
    exact ⟨[], Ints.nil W⟩
  · simp only [List.cons.injEq, and_true] at hcs
    subst hcs
    simp only [if_true] at hmm
    subst hmm
    have hlen : len ≤ 140737488355328 := by
      have := hw _ (by rw [weights_slice Try.underlying22]; exact List.mem_cons_self)
      rw [bytesInt] at this
      simp [reachBytes] at this
      omega
    have each : ∀ i, i < len → ∃ k : Int, W.cell? (a.add i) = some (.int .i64 k) ∧ I64 k := fun i hi => by
      obtain ⟨h1, h2⟩ := hx i (by omega)
      obtain ⟨z, e1, -, hz⟩ := DataW.trod_int Try.underlying3 h2
      simp only [List.cons.injEq, and_true] at e1
      exact ⟨z, by rw [h1, e1], I64.of_wf hz⟩
    obtain ⟨B, hB⟩ := choose_lt each
    have hll : ((List.range len).map B).length = len := by simp
    have hI : ∀ k ∈ (List.range len).map B, I64 k := fun k hk => by
      obtain ⟨i, hi, rfl⟩ := List.mem_map.1 hk
      exact (hB i (List.mem_range.1 hi)).2
    refine ⟨(List.range len).map B, ?_, hI⟩
    by_cases h0 : len = 0
    · subst h0
      exact ⟨some a, m, 0, 0, by simp, by simp, by simp, by simp, by simp, by simp, hm⟩
    · obtain ⟨b, off, spot⟩ := a
      have hsp : spot = none := by
        have := (hB 0 (by omega)).1
        exact World.cell?_spot (by simpa [Addr.add] using this)
      subst hsp
      refine ⟨some ⟨b, off, none⟩, m, b, off, by rw [List.length_map, hll], fun _ => rfl, fun i q hq => ?_, by rw [List.length_map, hll]; exact hlen, by simp, by rw [List.length_map, hll]; exact hl, hm⟩
      rw [List.getElem?_map] at hq
      obtain ⟨q', hq', rfl⟩ := Option.map_eq_some_iff.1 hq
      obtain ⟨hi, rfl⟩ := List.getElem?_eq_some_iff.1 hq'
      have := (hB i (by simpa using hi)).1
      rw [add_plain] at this
      simpa [encI] using this
set_option maxRecDepth 100000 in
/-- A node, read. -/
theorem node_read {base : Nat} {v : Value} {d : DataW H} {ps : List MemPlace} (h : DataW.Trod enc Try.prog W 0 (fun _ => true) true 24 v d ps) (hv : Value.okWide Try.prog W .any base 24 v) (hw : ∀ x ∈ d.weights Try.prog 24, x ≤ reachBytes) :
    ∃ L kv vv K V, v = .agg #[.int .i64 L, kv, vv] ∧ Ints W kv K ∧ Ints W vv V := by
  obtain ⟨f0, f1, f2, hs, ⟨t0, o0⟩, ⟨t1, o1⟩, ⟨t2, o2⟩⟩ := three_node
  obtain ⟨cs, rfl, hsz⟩ := okWide_struct hs hv
  rw [cellsNode] at hsz
  obtain ⟨c0, c1, c2, rfl⟩ := arr3 hsz
  obtain ⟨fuel, hf⟩ := h
  obtain ⟨y0, y1, y2, n, hxd, -, g0, g1, g2⟩ := trod_struct3 hs hf
  rw [t0, o0, cellsInt] at g0
  rw [t1, o1, cellsInts] at g1
  rw [t2, o2, cellsInts] at g2
  have g0' : DataW.trod enc Try.prog W 0 (fun _ => true) true n 3 [c0] = some y0 := g0
  have g1' : DataW.trod enc Try.prog W 0 (fun _ => true) true n 22 [c1] = some y1 := g1
  have g2' : DataW.trod enc Try.prog W 0 (fun _ => true) true n 22 [c2] = some y2 := g2
  obtain ⟨a, e0, -, -⟩ := DataW.trod_int Try.underlying3 g0'
  simp only [List.cons.injEq, and_true] at e0
  subst e0
  have hd : d = .agg [y0.1, y1.1, y2.1] := congrArg Prod.fst hxd
  subst hd
  have hwe : ∀ x ∈ DataW.weightsEach Try.prog [3, 22, 22] [y0.1, y1.1, y2.1], x ≤ reachBytes := by
    rw [weights_agg hs] at hw
    simpa [t0, t1, t2] using hw
  simp only [DataW.weightsEach, List.mem_append] at hwe
  obtain ⟨K, hK⟩ := ints_read g1' (fun x hx => hwe x (.inr (.inl hx)))
  obtain ⟨V, hV⟩ := ints_read g2' (fun x hx => hwe x (.inr (.inr (.inl hx))))
  exact ⟨a, c1, c2, K, V, rfl, hK, hV⟩
end
end Go.Proofs.Ytcidadikmmdalab
