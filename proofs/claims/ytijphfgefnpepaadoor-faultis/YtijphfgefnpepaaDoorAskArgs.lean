/- A chain, its code, another one and any codes, handed over by value, read as data. -/
import Derived.Test.YtijphfgefnpepaaDoorBase
import Derived.Test.YtijphfgefnpepaaDoorAny
namespace Go.Proofs.YtijphfgefnpepaaDoor
open Go.ChangeShapes Go.WideShapes Go.ChangeAt Go.RowKit Go.Deep Go.Joins

theorem one40 : ∃ f0 f1 f2 f3, Tryd.prog.underlying 40 = some (.struct #[f0, f1, f2, f3]) ∧ oneCellFields Tryd.prog #[f0, f1, f2, f3] = true ∧ f0.type = 22 ∧ f1.type = 3 ∧ f2.type = 3 ∧ f3.type = 38 :=
  ⟨_, _, _, _, Tryd.underlying40, by kernel_rfl, rfl, rfl, rfl, rfl⟩
theorem cells40 : Tryd.prog.cellsOf 40 = 4 := by kernel_rfl

theorem codes_read {H : Type} {enc : TypeId × Value → H} {W : World} {n : Nat} {v : Value} {y : DataW H × List MemPlace} (h : DataW.trod enc Tryd.prog W 0 (fun _ => true) true n 38 [v] = some y) : ∃ cs, Codes W v cs := by
  rcases open_ints Tryd.underlying38 Tryd.underlying3 cells3 h with ⟨hcs, _⟩ | ⟨a, len, cap, zs, hcs, _, hl, hm, hz, _, hcell, hwz⟩
  · simp only [List.cons.injEq, and_true] at hcs
    subst hcs
    exact ⟨[], none, 0, 0, 0, rfl, by simp, by simp⟩
  · simp only [List.cons.injEq, and_true] at hcs
    subst hcs
    simp only [if_true] at hz
    by_cases h0 : len = 0
    · subst h0
      exact ⟨[], some a, cap, 0, 0, rfl, by simp, by simp⟩
    · obtain ⟨b, off, spot⟩ := a
      have hc := hcell 0 (by omega)
      have hspot : spot = none := by simpa [Addr.add] using World.cell?_spot hc
      subst hspot
      refine ⟨zs.take len, some ⟨b, off, none⟩, cap, b, off, ?_, fun _ => rfl, fun i q hq => ?_⟩
      · rw [List.length_take, Nat.min_eq_left (by omega)]
      · have hi := (List.getElem?_eq_some_iff.1 hq).1
        rw [List.length_take] at hi
        have h1 := hcell i (by omega)
        rw [add_plain] at h1
        rw [h1]
        rw [List.getElem?_take_of_lt (by omega)] at hq
        simp [List.getD, hq]

set_option maxRecDepth 100000 in
theorem asked_arg {H : Type} {enc : TypeId × Value → H} {W : World} {r : Reach} {b0 : Nat} {v : Value} {d : DataW H} {p : List MemPlace} (hv : Value.okWide Tryd.prog W r b0 40 v) (h : DataW.Trod enc Tryd.prog W 0 (fun _ => true) true 40 v d p) :
    ∃ (ls : List Lk) (lv : Value) (cs : List Int) (cv : Value) (c o : Int), v = .agg #[lv, .int .i64 c, .int .i64 o, cv] ∧ Links W lv ls ∧ Codes W cv cs := by
  obtain ⟨f0, f1, f2, f3, hs, hone, t0, t1, t2, t3⟩ := one40
  obtain ⟨v0, v1, v2, v3, y0, y1, y2, y3, n, hvv, -, -, h0, h1, h2, h3⟩ := open_agg4 (P := Tryd.prog) (t := 40) hs hone cells40 hv h
  subst hvv
  rw [t0] at h0
  rw [t1] at h1
  rw [t2] at h2
  rw [t3] at h3
  obtain ⟨a, e1, -, ha⟩ := DataW.trod_int Tryd.underlying3 h1
  obtain ⟨b, e2, -, hb⟩ := DataW.trod_int Tryd.underlying3 h2
  simp only [List.cons.injEq, and_true] at e1 e2
  subst e1 e2
  obtain ⟨x1, x2, x3, e0⟩ := slice_form Tryd.underlying22 h0
  simp only [List.cons.injEq, and_true] at e0
  subst e0
  obtain ⟨ls, hls, -⟩ := links_read (v := .slice x1 x2 x3) (d := y0.1) (ps := y0.2) ⟨n, by simpa [Value.cells] using h0⟩ ⟨_, _, _, rfl⟩
  obtain ⟨cs, hcs⟩ := codes_read h3
  exact ⟨ls, _, cs, v3, a, b, rfl, hls, hcs⟩
end Go.Proofs.YtijphfgefnpepaaDoor
