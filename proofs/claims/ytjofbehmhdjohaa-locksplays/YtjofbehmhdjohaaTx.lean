/- Single operations of regions: tables, entries. -/
import Derived.Test.YtjofbehmhdjohaaIx
namespace Go.Proofs.Ytjofbehmhdjohaa
open Go.RowKit Go.Extern
theorem fldT0 (g i : Nat) (w : World) : (Instr.fieldAt 64 (.pointer (some ⟨g, i, none⟩)) 0).run Try.prog w = .ok (.pointer (some ⟨g, i, none⟩)) w := by kernel_rfl
theorem fldT1 (g i : Nat) (w : World) : (Instr.fieldAt 64 (.pointer (some ⟨g, i, none⟩)) 1).run Try.prog w = .ok (.pointer (some ⟨g, i + 1, none⟩)) w := by kernel_rfl
theorem fldE1 (g i : Nat) (w : World) : (Instr.fieldAt 69 (.pointer (some ⟨g, i, none⟩)) 1).run Try.prog w = .ok (.pointer (some ⟨g, i + 1, none⟩)) w := by kernel_rfl
theorem load_entries {w : World} {p : Addr} {v : Value} (h : w.cell? p = some v) : (Instr.loadAt 62 (.pointer (some p))).run Try.prog w = .ok v w := by go_simp
theorem load_entry {w : World} {g i : Nat} {k : Int} {v : Value} (h1 : w.cell? ⟨g, i, none⟩ = some (.int .i64 k)) (h2 : w.cell? ⟨g, i + 1, none⟩ = some v) : (Instr.loadAt 69 (.pointer (some ⟨g, i, none⟩))).run Try.prog w = .ok (.agg #[.int .i64 k, v]) w := by
  go_simp
theorem index_entries {w : World} {g off n cap i : Nat} (h : i < n) : (Instr.indexAt 62 (.slice (some ⟨g, off, none⟩) n cap) (.int .i64 (i : Int))).run Try.prog w = .ok (.pointer (some ⟨g, off + i * 2, none⟩)) w := by
  have hlt : (i : Int) < (n : Int) := by omega
  have hge : (0 : Int) ≤ (i : Int) := by omega
  go_simp
theorem sizeEn (w : World) : (sizeOf (Try.prog.elem 62)).run Try.prog w = .ok 2 w := by kernel_rfl
theorem underEn : Try.prog.underlying 62 = some (.slice (Try.prog.elem 62)) := by kernel_rfl
theorem slice_to {g o n c hi : Nat} (h : hi ≤ c) (w : World) : (Instr.slice 62 (.slice (some ⟨g, o, none⟩) n c) none (some (.int .i64 (hi : Int))) none).run Try.prog w = .ok (.slice (some ⟨g, o, none⟩) hi c) w := by
  rw [run_slice_h (P := Try.prog) w 62 _ n c underEn .i64 (hi : Int) (by omega) (by omega), sizeEn]
  simp [Result.andThen, sliced, add_plain]
theorem slice_from0 {g n c lo : Nat} (h : lo ≤ n) (hc : c ≠ lo) (w : World) : (Instr.slice 62 (.slice (some ⟨g, 0, none⟩) n c) (some (.int .i64 (lo : Int))) none none).run Try.prog w = .ok (.slice (some ⟨g, lo * 2, none⟩) (n - lo) (c - lo)) w := by
  rw [run_slice_l (P := Try.prog) w 62 _ n c underEn .i64 (lo : Int) (by omega) (by omega), sizeEn]
  simp [Result.andThen, sliced, hc, add_plain]
theorem slice_end {g o n c : Nat} (h : c = n) (w : World) : (Instr.slice 62 (.slice (some ⟨g, o, none⟩) n c) (some (.int .i64 (n : Int))) none none).run Try.prog w = .ok (.slice (some ⟨g, o, none⟩) 0 0) w := by
  subst h
  rw [run_slice_l (P := Try.prog) w 62 _ c c underEn .i64 (c : Int) (by omega) (by omega), sizeEn]
  simp [Result.andThen, sliced]
section
variable {ρ : Operand → Value} {o : Oper} {w w' : World}
theorem exec_slice_l {t : TypeId} {x lo : Operand} {xv lv v : Value} (ho : o.op = .slice t x (some lo) none none) (hr : (Instr.sliceAt t xv (some lv) none none).run Try.prog w = .ok v w) (hx : ρ x = xv) (hl : ρ lo = lv) : (execOp ρ o).run Try.prog w = .ok (.value v) w := by
  unfold execOp; simp [ho, hx, hl, hr]
theorem exec_slice_h {t : TypeId} {x hi : Operand} {xv hv v : Value} (ho : o.op = .slice t x none (some hi) none) (hr : (Instr.sliceAt t xv none (some hv) none).run Try.prog w = .ok v w) (hx : ρ x = xv) (hh : ρ hi = hv) : (execOp ρ o).run Try.prog w = .ok (.value v) w := by
  unfold execOp; simp [ho, hx, hh, hr]
theorem exec_func1 {f : Fn} {x : Operand} {xv : Value} {v : Value} (ho : o.op = .makeFunc f #[x] #[]) (hr : (Instr.makeFunc f #[xv] #[]).run Try.prog w = .ok v w) (hx : ρ x = xv) : (execOp ρ o).run Try.prog w = .ok (.value v) w := by
  unfold execOp; simp [ho, hx, hr]
end
theorem mkClashes (xv : Value) (w : World) : (Instr.makeFunc (.func 38) #[xv] #[]).run Try.prog w = .ok (.func (.func 38) #[xv] #[]) w := by go_simp
theorem enterContE (args : Array Value) (w : World) : (callFunc 41 args).run Try.prog w = .ok (.enter 41 args) w := by kernel_rfl
theorem enterClashes (args : Array Value) (w : World) : (callFunc 38 args).run Try.prog w = .ok (.enter 38 args) w := by kernel_rfl
theorem enterClone (args : Array Value) (w : World) : (callFunc 33 args).run Try.prog w = .ok (.enter 33 args) w := by kernel_rfl
theorem Ens.take {w : World} {a : Addr} {n c : Nat} {E : List En} (h : Ens w (.slice (some a) n c) E) {m : Nat} (hm : m ≤ E.length) : Ens w (.slice (some a) m c) (E.take m) := by
  obtain ⟨ao, cap, g, off, hv, h2, h3, h4, h5, h6, h7⟩ := h
  injection hv with e1 e2 e3
  subst e1 e3
  have hl : (E.take m).length = m := by simp; omega
  refine ⟨some a, c, g, off, by rw [hl], fun hp => h2 (by omega), fun i e he => h3 i e ?_, fun e he => h4 e (List.mem_of_mem_take he), by omega, by omega, h7⟩
  have hi : i < m := by have := (List.getElem?_eq_some_iff.1 he).1; omega
  rwa [List.getElem?_take_of_lt hi] at he
/-- An entry of a list, with its cells. -/
theorem Ens.at_ {w : World} {v : Value} {E : List En} (h : Ens w v E) {p : Nat} {x : En} (hx : E[p]? = some x) : ∃ g off n cap, v = .slice (some ⟨g, off, none⟩) n cap ∧ n = E.length ∧ p < n ∧ n ≤ cap ∧ n ≤ 1000 ∧ w.cell? ⟨g, off + p * 2, none⟩ = some (.int .i64 x.num) ∧ w.cell? ⟨g, off + p * 2 + 1, none⟩ = some (.slice x.ao x.n x.cap) := by
  obtain ⟨ao, cap, g, off, rfl, h2, h3, h4, h5, h6, -⟩ := h
  have hp := (List.getElem?_eq_some_iff.1 hx).1
  obtain rfl := h2 (by omega)
  exact ⟨g, off, _, cap, rfl, rfl, hp, h6, h5, (h3 p x hx).1, (h3 p x hx).2⟩
end Go.Proofs.Ytjofbehmhdjohaa
