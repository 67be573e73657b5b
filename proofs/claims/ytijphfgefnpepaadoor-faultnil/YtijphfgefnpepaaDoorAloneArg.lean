/- One link and a code, handed over by value, read as data. -/
import Derived.Test.YtijphfgefnpepaaDoorBase
namespace Go.Proofs.YtijphfgefnpepaaDoor
open Go.ChangeShapes Go.WideShapes Go.ChangeAt Go.RowKit Go.Deep Go.Joins

theorem two46 : ∃ f0 f1, Tryd.prog.underlying 46 = some (.struct #[f0, f1]) ∧ f0.type = 34 ∧ f0.offset = 0 ∧ f1.type = 3 ∧ f1.offset = 3 :=
  ⟨_, _, Tryd.underlying46, rfl, rfl, rfl, rfl⟩
theorem cells46 : Tryd.prog.cellsOf 46 = 4 := by kernel_rfl

set_option maxRecDepth 100000 in
theorem alone_arg {H : Type} {enc : TypeId × Value → H} {W : World} {r : Reach} {b0 : Nat} {v : Value} {d : DataW H} {p : List MemPlace} (hv : Value.okWide Tryd.prog W r b0 46 v) (h : DataW.Trod enc Tryd.prog W 0 (fun _ => true) true 46 v d p) :
    ∃ (x : Lk) (c : Int), v = .agg #[.string x.op, .int .i64 x.dev, .int .i64 x.pl, .int .i64 c] ∧ (Lit.int .i64 x.dev).wf = true ∧ (Lit.int .i64 x.pl).wf = true := by
  obtain ⟨f0, f1, hs, t0, o0, t1, o1⟩ := two46
  obtain ⟨cs, hvv, hsz⟩ := okWide_struct hs hv
  subst hvv
  obtain ⟨c0, c1, c2, c3, hcs⟩ := array4 (hsz.trans cells46)
  subst hcs
  obtain ⟨fuel, hf⟩ := h
  obtain ⟨y0, y1, n, -, -, h0, h1⟩ := trod_struct2 hs hf
  rw [t0, o0, cells34] at h0
  rw [t1, o1, cells3] at h1
  have h0' : DataW.trod enc Tryd.prog W 0 (fun _ => true) true n 34 [c0, c1, c2] = some y0 := h0
  have h1' : DataW.trod enc Tryd.prog W 0 (fun _ => true) true n 3 [c3] = some y1 := h1
  obtain ⟨x, e0, -, hx1, hx2⟩ := link_read h0'
  obtain ⟨c, e1, -, -⟩ := DataW.trod_int Tryd.underlying3 h1'
  simp only [List.cons.injEq, and_true] at e0 e1
  obtain ⟨rfl, rfl, rfl⟩ := e0
  subst e1
  exact ⟨x, c, rfl, hx1, hx2⟩
end Go.Proofs.YtijphfgefnpepaaDoor
