/- Two more structs of four fields, read as data. -/
import Derived.Test.YtlgmfiboekmhkaaDoorArgs4
namespace Go.Proofs.YtlgmfiboekmhkaaDoor
open Go.ChangeShapes Go.WideShapes Go.ChangeAt Go.RowKit Go.Deep Go.Joins

section
variable {H : Type} {enc : TypeId × Value → H} {W : World}
theorem one_sectors : ∃ f0 f1 f2 f3, Tryd.prog.underlying 30 = some (.struct #[f0, f1, f2, f3]) ∧ oneCellFields Tryd.prog #[f0, f1, f2, f3] = true ∧ f0.type = 5 ∧ f1.type = 23 ∧ f2.type = 23 ∧ f3.type = 5 :=
  ⟨_, _, _, _, Tryd.underlying30, by kernel_rfl, rfl, rfl, rfl, rfl⟩
theorem cells_sectors : Tryd.prog.cellsOf 30 = 4 := by kernel_rfl
set_option maxRecDepth 100000 in
theorem sectors_arg {r : Reach} {b0 : Nat} {v : Value} {d : DataW H} {p : List MemPlace} (hv : Value.okWide Tryd.prog W r b0 30 v) (h : DataW.Trod enc Tryd.prog W 0 (fun _ => true) true 30 v d p) (hw : ∀ x ∈ d.weights Tryd.prog 30, x ≤ reachBytes) :
    ∃ (k o : Nat) (pv sv : Value) (bs s : List Nat), v = .agg #[.int .u8 (k : Int), pv, sv, .int .u8 (o : Int)] ∧ k < 256 ∧ Bytes W pv bs ∧ Bytes W sv s := by
  obtain ⟨f0, f1, f2, f3, hs, hone, t0, t1, t2, t3⟩ := one_sectors
  obtain ⟨v0, v1, v2, v3, y0, y1, y2, y3, n, hvv, hd, -, h0, h1, h2, h3⟩ := open_agg4 (P := Tryd.prog) (t := 30) hs hone cells_sectors hv h
  subst hvv
  rw [hd, weights_agg hs] at hw
  simp only [List.map_cons, List.map_nil, t0, t1, t2, t3, DataW.weightsEach, List.mem_append] at hw
  rw [t0] at h0
  rw [t1] at h1
  rw [t2] at h2
  rw [t3] at h3
  obtain ⟨a, e0, -, ha⟩ := DataW.trod_int Tryd.underlying5 h0
  obtain ⟨c, e3, -, hc⟩ := DataW.trod_int Tryd.underlying5 h3
  simp only [List.cons.injEq, and_true] at e0 e3
  subst e0 e3
  obtain ⟨ka, rfl, hka⟩ := u8_of ha
  obtain ⟨kc, rfl, -⟩ := u8_of hc
  obtain ⟨bs, hbs⟩ := bytes_read h1 (fun x hx => hw x (Or.inr (Or.inl hx)))
  obtain ⟨s, hss⟩ := bytes_read h2 (fun x hx => hw x (Or.inr (Or.inr (Or.inl hx))))
  exact ⟨ka, kc, v1, v2, bs, s, rfl, hka, hbs, hss⟩

theorem one_parted : ∃ f0 f1 f2 f3, Tryd.prog.underlying 67 = some (.struct #[f0, f1, f2, f3]) ∧ oneCellFields Tryd.prog #[f0, f1, f2, f3] = true ∧ f0.type = 23 ∧ f1.type = 62 ∧ f2.type = 3 ∧ f3.type = 5 :=
  ⟨_, _, _, _, Tryd.underlying67, by kernel_rfl, rfl, rfl, rfl, rfl⟩
theorem cells_parted : Tryd.prog.cellsOf 67 = 4 := by kernel_rfl
set_option maxRecDepth 100000 in
theorem parted_arg {r : Reach} {b0 : Nat} {v : Value} {d : DataW H} {p : List MemPlace} (hv : Value.okWide Tryd.prog W r b0 67 v) (h : DataW.Trod enc Tryd.prog W 0 (fun _ => true) true 67 v d p) (hw : ∀ x ∈ d.weights Tryd.prog 67, x ≤ reachBytes) :
    ∃ (bv cv : Value) (bs : List Nat) (ns : List Int) (at_ : Int) (c : Nat), v = .agg #[bv, cv, .int .i64 at_, .int .u8 (c : Int)] ∧ Bytes W bv bs ∧ Ints W cv ns ∧ c < 256 := by
  obtain ⟨f0, f1, f2, f3, hs, hone, t0, t1, t2, t3⟩ := one_parted
  obtain ⟨v0, v1, v2, v3, y0, y1, y2, y3, n, hvv, hd, -, h0, h1, h2, h3⟩ := open_agg4 (P := Tryd.prog) (t := 67) hs hone cells_parted hv h
  subst hvv
  rw [hd, weights_agg hs] at hw
  simp only [List.map_cons, List.map_nil, t0, t1, t2, t3, DataW.weightsEach, List.mem_append] at hw
  rw [t0] at h0
  rw [t1] at h1
  rw [t2] at h2
  rw [t3] at h3
  obtain ⟨a, e2, -, ha⟩ := DataW.trod_int Tryd.underlying3 h2
  obtain ⟨c, e3, -, hc⟩ := DataW.trod_int Tryd.underlying5 h3
  simp only [List.cons.injEq, and_true] at e2 e3
  subst e2 e3
  obtain ⟨kc, rfl, hkc⟩ := u8_of hc
  obtain ⟨bs, hbs⟩ := bytes_read h0 (fun x hx => hw x (Or.inl hx))
  obtain ⟨ns, hns⟩ := ints_read h1 (fun x hx => hw x (Or.inr (Or.inl hx)))
  exact ⟨v0, v1, bs, ns, a, kc, rfl, hbs, hns, hkc⟩
end
end Go.Proofs.YtlgmfiboekmhkaaDoor
