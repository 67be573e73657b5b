/- The structs of four fields that are handed over by value, read as data. -/
import Derived.Test.YtlgmfiboekmhkaaDoorBase
import Derived.Test.YtlgmfiboekmhkaaDoorPk
namespace Go.Proofs.YtlgmfiboekmhkaaDoor
open Go.ChangeShapes Go.WideShapes Go.ChangeAt Go.RowKit Go.Deep Go.Joins

theorem u8_of {n : Int} (h : (Lit.int .u8 n).wf = true) : ∃ k : Nat, n = (k : Int) ∧ k < 256 := by
  have hz' : (0 : Int) ≤ n ∧ n ≤ 255 := by simpa [Lit.wf, IntKind.min, IntKind.max, IntKind.bits, IntKind.signed] using h
  exact ⟨n.toNat, by omega, by omega⟩
theorem i64_of {n : Int} (h : (Lit.int .i64 n).wf = true) : -9223372036854775808 ≤ n ∧ n < 9223372036854775808 := by
  have hz' : (-9223372036854775808 : Int) ≤ n ∧ n ≤ 9223372036854775807 := by simpa [Lit.wf, IntKind.min, IntKind.max, IntKind.bits, IntKind.signed] using h
  omega

section
variable {H : Type} {enc : TypeId × Value → H} {W : World}
theorem weights_agg {t : TypeId} {fs : Array Field} (ht : Tryd.prog.underlying t = some (.struct fs)) (ps : List (DataW H)) : (DataW.agg ps).weights Tryd.prog t = DataW.weightsEach Tryd.prog (fs.toList.map (·.type)) ps := by
  simp only [DataW.weights, ht]

/-- Numbers read. -/
theorem ints_read {n : Nat} {v : Value} {y : DataW H × List MemPlace} (h : DataW.trod enc Tryd.prog W 0 (fun _ => true) true n 62 [v] = some y) (hw : ∀ x ∈ y.1.weights Tryd.prog 62, x ≤ reachBytes) : ∃ ns, Ints W v ns := by
  rcases open_slice1 Tryd.underlying62 cellsInt h with ⟨hcs, _⟩ | ⟨a, len, cap, m, k, V, D, Pl, hcs, _, hl, hm, hmm, rfl, hx⟩
  · simp only [List.cons.injEq, and_true] at hcs
    subst hcs
    exact ⟨[], none, 0, 0, 0, rfl, by simp, by simp, by simp, by simp⟩
  · simp only [List.cons.injEq, and_true] at hcs
    subst hcs
    simp only [if_true] at hmm
    subst hmm
    have hlen : len ≤ 140737488355328 := by
      have := hw _ (by rw [weights_slice Tryd.underlying62]; exact List.mem_cons_self)
      rw [show Tryd.prog.bytesOf 3 = 8 by kernel_rfl] at this
      simp [reachBytes] at this
      omega
    have each : ∀ i, i < len → ∃ z : Int, W.cell? (a.add i) = some (.int .i64 z) ∧ -9223372036854775808 ≤ z ∧ z < 9223372036854775808 := fun i hi => by
      obtain ⟨h1, h2⟩ := hx i (by omega)
      obtain ⟨z, e1, -, hz⟩ := DataW.trod_int Tryd.underlying3 h2
      simp only [List.cons.injEq, and_true] at e1
      exact ⟨z, by rw [h1, e1], i64_of hz⟩
    obtain ⟨B, hB⟩ := choose_lt each
    refine ⟨(List.range len).map B, ?_⟩
    have hll : ((List.range len).map B).length = len := by simp
    by_cases h0 : len = 0
    · subst h0
      exact ⟨some a, m, 0, 0, by simp, by simp, by simp, by simp, by simp⟩
    · obtain ⟨b, off, spot⟩ := a
      have hsp : spot = none := by
        have := (hB 0 (by omega)).1
        exact World.cell?_spot (by simpa [Addr.add] using this)
      subst hsp
      refine ⟨some ⟨b, off, none⟩, m, b, off, by rw [hll], fun _ => rfl, fun i q hq => ?_, fun q hq => ?_, by rw [hll]; exact hlen⟩
      · obtain ⟨hi, rfl⟩ := List.getElem?_eq_some_iff.1 hq
        have := (hB i (by simpa using hi)).1
        rw [add_plain'] at this
        simpa using this
      · obtain ⟨i, hi, rfl⟩ := List.mem_map.1 hq
        exact (hB i (List.mem_range.1 hi)).2

theorem one_turned : ∃ f0 f1 f2 f3, Tryd.prog.underlying 45 = some (.struct #[f0, f1, f2, f3]) ∧ oneCellFields Tryd.prog #[f0, f1, f2, f3] = true ∧ f0.type = 5 ∧ f1.type = 5 ∧ f2.type = 23 ∧ f3.type = 3 :=
  ⟨_, _, _, _, Tryd.underlying45, by kernel_rfl, rfl, rfl, rfl, rfl⟩
theorem cells_turned : Tryd.prog.cellsOf 45 = 4 := by kernel_rfl
set_option maxRecDepth 100000 in
theorem turned_arg {r : Reach} {b0 : Nat} {v : Value} {d : DataW H} {p : List MemPlace} (hv : Value.okWide Tryd.prog W r b0 45 v) (h : DataW.Trod enc Tryd.prog W 0 (fun _ => true) true 45 v d p) (hw : ∀ x ∈ d.weights Tryd.prog 45, x ≤ reachBytes) :
    ∃ (k o : Nat) (pv : Value) (bs : List Nat) (bit : Int), v = .agg #[.int .u8 (k : Int), .int .u8 (o : Int), pv, .int .i64 bit] ∧ k < 256 ∧ o < 256 ∧ Bytes W pv bs ∧ -9223372036854775808 ≤ bit ∧ bit < 9223372036854775808 := by
  obtain ⟨f0, f1, f2, f3, hs, hone, t0, t1, t2, t3⟩ := one_turned
  obtain ⟨v0, v1, v2, v3, y0, y1, y2, y3, n, hvv, hd, -, h0, h1, h2, h3⟩ := open_agg4 (P := Tryd.prog) (t := 45) hs hone cells_turned hv h
  subst hvv
  rw [hd, weights_agg hs] at hw
  simp only [List.map_cons, List.map_nil, t0, t1, t2, t3, DataW.weightsEach, List.mem_append] at hw
  rw [t0] at h0
  rw [t1] at h1
  rw [t2] at h2
  rw [t3] at h3
  obtain ⟨a, e0, -, ha⟩ := DataW.trod_int Tryd.underlying5 h0
  obtain ⟨b, e1, -, hb⟩ := DataW.trod_int Tryd.underlying5 h1
  obtain ⟨c, e3, -, hc⟩ := DataW.trod_int Tryd.underlying3 h3
  simp only [List.cons.injEq, and_true] at e0 e1 e3
  subst e0 e1 e3
  obtain ⟨ka, rfl, hka⟩ := u8_of ha
  obtain ⟨kb, rfl, hkb⟩ := u8_of hb
  obtain ⟨bs, hbs⟩ := bytes_read h2 (fun x hx => hw x (Or.inr (Or.inr (Or.inl hx))))
  exact ⟨ka, kb, v2, bs, c, rfl, hka, hkb, hbs, i64_of hc⟩
end
end Go.Proofs.YtlgmfiboekmhkaaDoor
