/- What every row of this seat's proofs needs besides its walk: arguments read as data. -/
import Derived.Test.YtnkcebngfnailaaRows
import Derived.Test.YtnkcebngfnailaaIi
import Derived.ChangeSame
import Derived.ChangeVars
import Derived.JoinedOf
import Derived.RowKit
import Derived.RowKitTokens
import Derived.ProofKit
import Derived.OpenShut
import Derived.Deep.Slices
import Derived.Deep.Strs
import Derived.Lib.SmallJoins
import Derived.SizedLaws
namespace Go.Proofs.Ytnkcebngfnailaa
open Go.ChangeShapes Go.WideShapes Go.ChangeAt Go.RowKit Go.Deep

theorem own : ownKnob Try.prog.godebug = none := by kernel_rfl
theorem laidOut : laidOutB Try.prog = true := by kernel_rfl
theorem cellsInt : Try.prog.cellsOf 3 = 1 := by kernel_rfl
theorem cellsBool : Try.prog.cellsOf 4 = 1 := by kernel_rfl
theorem bytesInt : Try.prog.bytesOf 3 = 8 := by kernel_rfl
theorem cellsFour : Try.prog.cellsOf 39 = 4 := by kernel_rfl
theorem four_four : ∃ f0 f1 f2 f3, Try.prog.underlying 39 = some (.struct #[f0, f1, f2, f3]) ∧ (f0.type = 3 ∧ f0.offset = 0) ∧ (f1.type = 3 ∧ f1.offset = 1) ∧ (f2.type = 3 ∧ f2.offset = 2) ∧ (f3.type = 3 ∧ f3.offset = 3) :=
  ⟨_, _, _, _, Try.underlying39, ⟨rfl, rfl⟩, ⟨rfl, rfl⟩, ⟨rfl, rfl⟩, ⟨rfl, rfl⟩⟩
theorem list3 {α : Type} {cs : List α} (h : cs.length = 3) : ∃ c0 c1 c2, cs = [c0, c1, c2] := by
  match cs, h with
  | [c0, c1, c2], _ => exact ⟨c0, c1, c2, rfl⟩
theorem list4 {α : Type} {cs : List α} (h : cs.length = 4) : ∃ c0 c1 c2 c3, cs = [c0, c1, c2, c3] := by
  match cs, h with
  | [c0, c1, c2, c3], _ => exact ⟨c0, c1, c2, c3, rfl⟩
theorem arr4 {cs : Array Value} (h : cs.size = 4) : ∃ c0 c1 c2 c3, cs = #[c0, c1, c2, c3] := by
  obtain ⟨l⟩ := cs
  match l, h with
  | [c0, c1, c2, c3], _ => exact ⟨c0, c1, c2, c3, rfl⟩

section
variable {H : Type} {enc : TypeId × Value → H} {W : World}
theorem weights_slice {t e : TypeId} (ht : Try.prog.underlying t = some (.slice e)) (el sp : List (DataW H)) :
    (DataW.slice el sp).weights Try.prog t = (el.length + sp.length) * Try.prog.bytesOf e :: (DataW.weightsAll Try.prog e el ++ DataW.weightsAll Try.prog e sp) := by
  simp only [DataW.weights, ht]
theorem weights_agg {t : TypeId} {fs : Array Field} (ht : Try.prog.underlying t = some (.struct fs)) (ps : List (DataW H)) : (DataW.agg ps).weights Try.prog t = DataW.weightsEach Try.prog (fs.toList.map (·.type)) ps := by
  simp only [DataW.weights, ht]
theorem mem_weightsAll {e : TypeId} {y : Nat} : ∀ {l : List (DataW H)} {d : DataW H}, d ∈ l → y ∈ d.weights Try.prog e → y ∈ DataW.weightsAll Try.prog e l
  | x :: l, d, h, hy => by
    simp only [DataW.weightsAll, List.mem_append]
    rcases List.mem_cons.1 h with rfl | h
    · exact Or.inl hy
    · exact Or.inr (mem_weightsAll h hy)
theorem sized_one {t : TypeId} {ts : List TypeId} {d : DataW H} {ds : List (DataW H)} (h : (DataW.weightsEach Try.prog (t :: ts) (d :: ds)).all (fun x => decide (x ≤ reachBytes)) = true) : ∀ x ∈ d.weights Try.prog t, x ≤ reachBytes := fun x hx => by
  have := List.all_eq_true.1 h x (by simp only [DataW.weightsEach, List.mem_append]; exact Or.inl hx)
  simpa using this
theorem sized_next {t : TypeId} {ts : List TypeId} {d : DataW H} {ds : List (DataW H)} (h : (DataW.weightsEach Try.prog (t :: ts) (d :: ds)).all (fun x => decide (x ≤ reachBytes)) = true) : (DataW.weightsEach Try.prog ts ds).all (fun x => decide (x ≤ reachBytes)) = true := by
  rw [List.all_eq_true] at *
  exact fun x hx => h x (by simp only [DataW.weightsEach, List.mem_append]; exact Or.inr hx)
/-- A slice of elements that can be read is such a list. -/
theorem list_read {α : Type} (inst : Inhabited α) (en : α → List Value) {k : Nat} (hk : ∀ a, (en a).length = k) (hk0 : 0 < k) {t e : TypeId} (ht : Try.prog.underlying t = some (.slice e)) (ce : Try.prog.cellsOf e = k) (hby : 1 ≤ Try.prog.bytesOf e) (R : α → Prop)
    {n : Nat} {v : Value} {y : DataW H × List MemPlace} (h : DataW.trod enc Try.prog W 0 (fun _ => true) true n t [v] = some y) (hw : ∀ x ∈ y.1.weights Try.prog t, x ≤ reachBytes)
    (hel : ∀ (m : Nat) cs (x : DataW H × List MemPlace), DataW.trod enc Try.prog W 0 (fun _ => true) true m e cs = some x → (∀ q ∈ x.1.weights Try.prog e, q ≤ reachBytes) → ∃ a, cs = en a ∧ R a) :
    ∃ (l : List α) (ao : Option Addr) (cap g off : Nat), v = .slice ao l.length cap ∧ (0 < l.length → ao = some ⟨g, off, none⟩) ∧ (∀ (i : Nat) a, l[i]? = some a → ∀ j, j < k → W.cell? ⟨g, off + i * k + j, none⟩ = (en a)[j]?) ∧
      (∀ a ∈ l, R a) ∧ l.length ≤ 140737488355328 ∧ (ao = none → cap = 0) ∧ l.length ≤ cap ∧ cap ≤ maxLen := by
  rcases open_slice ht h with ⟨hcs, -⟩ | ⟨a, len, cap, m, n, D, Pl, hcs, -, hl, hm0, hm, hd, hx⟩
  · simp only [List.cons.injEq, and_true] at hcs
    subst hcs
    exact ⟨[], none, 0, 0, 0, rfl, by simp, by simp, by simp, by simp, fun _ => rfl, by simp, by simp⟩
  · simp only [List.cons.injEq, and_true] at hcs
    subst hcs
    simp only [if_true] at hm
    subst hm
    rw [ce] at hx
    have hdd := congrArg Prod.fst hd
    simp only at hdd
    rw [hdd, weights_slice ht] at hw
    have hlen : len ≤ 140737488355328 := by
      have h1 := hw _ List.mem_cons_self
      simp only [List.length_map, List.length_range] at h1
      have h2 : len * 1 ≤ (len + (m - len)) * Try.prog.bytesOf e := Nat.mul_le_mul (by omega) hby
      simp [reachBytes] at h1
      omega
    have each : ∀ i, i < len → ∃ q : α, W.cells? 0 (a.add (i * k)) k = some (en q) ∧ R q := fun i hi => by
      obtain ⟨cs', h1, h2⟩ := hx i (by omega)
      obtain ⟨q, rfl, hq⟩ := hel _ _ _ h2 (fun z hz => hw z (List.mem_cons_of_mem _ (List.mem_append_left _ (mem_weightsAll (d := D i) (List.mem_map.2 ⟨i, List.mem_range.2 hi, rfl⟩) hz))))
      exact ⟨q, h1, hq⟩
    obtain ⟨K, hK⟩ := choose_lt each
    have hll : ((List.range len).map K).length = len := by simp
    by_cases h0 : len = 0
    · subst h0
      exact ⟨[], some a, m, 0, 0, rfl, by simp, by simp, by simp, by simp, by simp, by simp, hm0⟩
    · obtain ⟨b, off, spot⟩ := a
      have hsp : spot = none := by
        have := (World.cells?_some (hK 0 (by omega)).1).2.2 0 hk0
        have e0 : ((⟨b, off, spot⟩ : Addr).add (0 * k)).add 0 = ⟨b, off, spot⟩ := by simp [Addr.add]
        rw [e0, List.getElem?_eq_getElem (by rw [hk]; exact hk0)] at this
        exact World.cell?_spot this
      subst hsp
      refine ⟨(List.range len).map K, some ⟨b, off, none⟩, m, b, off, by rw [hll], fun _ => rfl, fun i q hq j hj => ?_, fun q hq => ?_, by rw [hll]; exact hlen, by simp, by rw [hll]; exact hl, hm0⟩
      · obtain ⟨hi, rfl⟩ := List.getElem?_eq_some_iff.1 hq
        have hi' : i < len := by simpa using hi
        have hc := (World.cells?_some (hK i hi').1).2.2 j hj
        rw [add_plain, add_plain] at hc
        simp only [List.getElem_map, List.getElem_range]
        exact hc
      · obtain ⟨i, hi, rfl⟩ := List.mem_map.1 hq
        exact (hK i (List.mem_range.1 hi)).2
/-- Four numbers, read. -/
theorem four_read {n : Nat} {cs : List Value} {x : DataW H × List MemPlace} (h : DataW.trod enc Try.prog W 0 (fun _ => true) true n 39 cs = some x) : ∃ a b c d : Int, cs = [.int .i64 a, .int .i64 b, .int .i64 c, .int .i64 d] ∧ I64 a ∧ I64 b ∧ I64 c ∧ I64 d := by
  obtain ⟨f0, f1, f2, f3, hs, ⟨t0, o0⟩, ⟨t1, o1⟩, ⟨t2, o2⟩, ⟨t3, o3⟩⟩ := four_four
  obtain ⟨xs, m, -, rfl, hl, hlen, hf⟩ := DataW.trod_struct hs h
  rw [cellsFour] at hl
  obtain ⟨c0, c1, c2, c3, rfl⟩ := list4 hl
  obtain ⟨y0, y1, y2, y3, rfl⟩ := list4 (cs := xs) (by simpa using hlen)
  have g0 := hf 0 f0 rfl
  have g1 := hf 1 f1 rfl
  have g2 := hf 2 f2 rfl
  have g3 := hf 3 f3 rfl
  rw [t0, o0, cellsInt] at g0
  rw [t1, o1, cellsInt] at g1
  rw [t2, o2, cellsInt] at g2
  rw [t3, o3, cellsInt] at g3
  have g0' : DataW.trod enc Try.prog W 0 (fun _ => true) true m 3 [c0] = some y0 := g0
  have g1' : DataW.trod enc Try.prog W 0 (fun _ => true) true m 3 [c1] = some y1 := g1
  have g2' : DataW.trod enc Try.prog W 0 (fun _ => true) true m 3 [c2] = some y2 := g2
  have g3' : DataW.trod enc Try.prog W 0 (fun _ => true) true m 3 [c3] = some y3 := g3
  obtain ⟨a, e0, -, ha⟩ := DataW.trod_int Try.underlying3 g0'
  obtain ⟨b, e1, -, hb⟩ := DataW.trod_int Try.underlying3 g1'
  obtain ⟨c, e2, -, hc⟩ := DataW.trod_int Try.underlying3 g2'
  obtain ⟨d, e3, -, hd⟩ := DataW.trod_int Try.underlying3 g3'
  simp only [List.cons.injEq, and_true] at e0 e1 e2 e3
  subst e0 e1 e2 e3
  exact ⟨a, b, c, d, rfl, I64.of_wf ha, I64.of_wf hb, I64.of_wf hc, I64.of_wf hd⟩
set_option maxRecDepth 100000 in
theorem four_arg {base : Nat} {v : Value} {d : DataW H} {ps : List MemPlace} (h : DataW.Trod enc Try.prog W 0 (fun _ => true) true 39 v d ps) (hv : Value.okWide Try.prog W .any base 39 v) : ∃ a b c d : Int, v = .agg #[.int .i64 a, .int .i64 b, .int .i64 c, .int .i64 d] ∧ I64 a ∧ I64 b ∧ I64 c ∧ I64 d := by
  obtain ⟨f0, f1, f2, f3, hs, -⟩ := four_four
  obtain ⟨cs, rfl, hsz⟩ := okWide_struct hs hv
  rw [cellsFour] at hsz
  obtain ⟨c0, c1, c2, c3, rfl⟩ := arr4 hsz
  obtain ⟨fuel, hf⟩ := h
  have hf' : DataW.trod enc Try.prog W 0 (fun _ => true) true fuel 39 [c0, c1, c2, c3] = some (d, ps) := hf
  obtain ⟨a, b, c, d, e, hok⟩ := four_read hf'
  simp only [List.cons.injEq, and_true] at e
  obtain ⟨rfl, rfl, rfl, rfl⟩ := e
  exact ⟨a, b, c, d, rfl, hok⟩
set_option maxRecDepth 100000 in
theorem int_arg {base : Nat} {v : Value} {d : DataW H} {ps : List MemPlace} (h : DataW.Trod enc Try.prog W 0 (fun _ => true) true 3 v d ps) (hv : Value.okWide Try.prog W .any base 3 v) : ∃ k : Int, v = .int .i64 k ∧ I64 k := by
  obtain ⟨k, rfl⟩ := okWide_int Try.underlying3 hv
  obtain ⟨fuel, hf⟩ := h
  have hf' : DataW.trod enc Try.prog W 0 (fun _ => true) true fuel 3 [.int .i64 k] = some (d, ps) := hf
  obtain ⟨z, e, -, hz⟩ := DataW.trod_int Try.underlying3 hf'
  simp only [List.cons.injEq, and_true, Value.int.injEq, true_and] at e
  subst e
  exact ⟨k, rfl, I64.of_wf hz⟩
set_option maxRecDepth 100000 in
theorem ints_arg {base : Nat} {v : Value} {d : DataW H} {ps : List MemPlace} (h : DataW.Trod enc Try.prog W 0 (fun _ => true) true 22 v d ps) (hv : Value.okWide Try.prog W .any base 22 v) (hw : ∀ x ∈ d.weights Try.prog 22, x ≤ reachBytes) : ∃ l, Ints W v l := by
  obtain ⟨a, l, c, rfl⟩ := okWide_slice Try.underlying22 hv
  obtain ⟨fuel, hf⟩ := h
  have hf' : DataW.trod enc Try.prog W 0 (fun _ => true) true fuel 22 [Value.slice a l c] = some (d, ps) := hf
  obtain ⟨l, ao, cap, g, off, hv, h2, h3, h4, h5, h6, h7, h8⟩ := list_read (k := 1) ⟨0⟩ (fun z : Int => [Value.int .i64 z]) (fun _ => rfl) (by omega) Try.underlying22 cellsInt (by rw [bytesInt]; omega) I64 hf' hw
    (fun m cs x hx _ => by
      have hx' := hx
      obtain ⟨z, e1, -, hz⟩ := DataW.trod_int Try.underlying3 hx'
      exact ⟨z, e1, I64.of_wf hz⟩)
  refine ⟨l, ⟨ao, cap, g, off, by rw [List.length_map]; exact hv, by rw [List.length_map]; exact h2, fun i u hu => ?_, by rw [List.length_map]; exact h5, h6, by rw [List.length_map]; exact h7, h8⟩, h4⟩
  rw [List.getElem?_map] at hu
  obtain ⟨q, hq, rfl⟩ := Option.map_eq_some_iff.1 hu
  have := h3 i q hq 0 (by omega)
  simpa [encI] using this
end
end Go.Proofs.Ytnkcebngfnailaa
