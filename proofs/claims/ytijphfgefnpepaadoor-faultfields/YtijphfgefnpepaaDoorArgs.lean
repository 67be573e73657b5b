/- A link handed over by value, read as data. -/
import Derived.Test.YtijphfgefnpepaaDoorBase
namespace Go.Proofs.YtijphfgefnpepaaDoor
open Go.ChangeShapes Go.WideShapes Go.ChangeAt Go.RowKit Go.Deep Go.Joins

theorem one34 : ∃ f0 f1 f2, Tryd.prog.underlying 34 = some (.struct #[f0, f1, f2]) ∧ oneCellFields Tryd.prog #[f0, f1, f2] = true ∧ f0.type = 9 ∧ f1.type = 3 ∧ f2.type = 3 :=
  ⟨_, _, _, Tryd.underlying34, by kernel_rfl, rfl, rfl, rfl⟩

set_option maxRecDepth 100000 in
theorem link_arg {H : Type} {enc : TypeId × Value → H} {W : World} {r : Reach} {b0 : Nat} {v : Value} {d : DataW H} {p : List MemPlace} (hv : Value.okWide Tryd.prog W r b0 34 v) (h : DataW.Trod enc Tryd.prog W 0 (fun _ => true) true 34 v d p) :
    ∃ x : Lk, v = .agg #[.string x.op, .int .i64 x.dev, .int .i64 x.pl] ∧ x.op.size ≤ maxLen ∧ (Lit.int .i64 x.dev).wf = true ∧ (Lit.int .i64 x.pl).wf = true := by
  obtain ⟨f0, f1, f2, hs, hone, t0, t1, t2⟩ := one34
  obtain ⟨v0, v1, v2, y0, y1, y2, n, hvv, -, -, h0, h1, h2⟩ := open_agg3 (P := Tryd.prog) (t := 34) hs hone cells34 hv h
  subst hvv
  rw [t0] at h0
  rw [t1] at h1
  rw [t2] at h2
  obtain ⟨s, e0, -, hs0⟩ := DataW.trod_string Tryd.underlying9 h0
  obtain ⟨a, e1, -, ha⟩ := DataW.trod_int Tryd.underlying3 h1
  obtain ⟨b, e2, -, hb⟩ := DataW.trod_int Tryd.underlying3 h2
  simp only [List.cons.injEq, and_true] at e0 e1 e2
  subst e0 e1 e2
  exact ⟨⟨s, a, b⟩, rfl, hs0, ha, hb⟩
end Go.Proofs.YtijphfgefnpepaaDoor
