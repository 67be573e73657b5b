/- What the statements' regions need: fields of an op, calls that are entered. -/
import Derived.Test.YtliboiajhhnajaaOne
import Derived.Deep.DeepCutAuto
namespace Go.Proofs.Ytliboiajhhnajaa
open Go.RowKit Go.Extern

theorem opField1 (b : Nat) (w : World) : (Instr.fieldAt 36 (.pointer (some ⟨b, 0, none⟩)) 1).run Try.prog w = .ok (.pointer (some ⟨b, 1, none⟩)) w := by kernel_rfl
theorem opField2 (b : Nat) (w : World) : (Instr.fieldAt 36 (.pointer (some ⟨b, 0, none⟩)) 2).run Try.prog w = .ok (.pointer (some ⟨b, 2, none⟩)) w := by kernel_rfl
theorem opField3 (b : Nat) (w : World) : (Instr.fieldAt 36 (.pointer (some ⟨b, 0, none⟩)) 3).run Try.prog w = .ok (.pointer (some ⟨b, 3, none⟩)) w := by kernel_rfl
theorem opField4 (b : Nat) (w : World) : (Instr.fieldAt 36 (.pointer (some ⟨b, 0, none⟩)) 4).run Try.prog w = .ok (.pointer (some ⟨b, 4, none⟩)) w := by kernel_rfl
theorem opField5 (b : Nat) (w : World) : (Instr.fieldAt 36 (.pointer (some ⟨b, 0, none⟩)) 5).run Try.prog w = .ok (.pointer (some ⟨b, 5, none⟩)) w := by kernel_rfl
theorem exec_call4 {ρ : Operand → Value} {o : Oper} {w : World} {f : FuncId} {x y z u : Operand} {ts : Array TypeId} {xv yv zv uv : Value} (ho : o.op = .call { callee := .value (.func f), args := #[x, y, z, u], argTypes := ts }) (hcf : ∀ (args : Array Value) (w : World), (callFunc f args).run Try.prog w = .ok (.enter f args) w) (hf : ρ (.func f) = .func (.func f) #[] #[]) (hx : ρ x = xv) (hy : ρ y = yv) (hz : ρ z = zv) (hu : ρ u = uv) : (execOp ρ o).run Try.prog w = .ok (.enter f #[xv, yv, zv, uv]) w := by
  unfold execOp; simp [ho, resolve, Deferred.ofValue, invoke, hf, hx, hy, hz, hu, hcf]
theorem enterBWrite (args : Array Value) (w : World) : (callFunc 10 args).run Try.prog w = .ok (.enter 10 args) w := by kernel_rfl
theorem enterBBad (args : Array Value) (w : World) : (callFunc 20 args).run Try.prog w = .ok (.enter 20 args) w := by kernel_rfl
theorem enterBFill (args : Array Value) (w : World) : (callFunc 21 args).run Try.prog w = .ok (.enter 21 args) w := by kernel_rfl
theorem exec_gtr0 {ρ : Operand → Value} {o : Oper} {w : World} {x : Operand} {n : Int} {ob : Bool} {T : TypeId} (ho : o.op = .binOp .gtr 3 x (.const (.int .i64 0)) T) (hx : ρ x = .int .i64 n) (hc : ρ (.const (.int .i64 0)) = .int .i64 0) (hb : decide ((0 : Int) < n) = ob) : (execOp ρ o).run Try.prog w = .ok (.value (.bool ob)) w := by
  unfold execOp; simp only [ho, hx, hc]; subst hb; go_simp
/-- An op as it lies in a variable of its own. -/
def opC (kind dev sec n : Int) (aod : Option Addr) (dn capd : Nat) (aop : Option Addr) (pn capp : Nat) : Array Value := #[.int .i64 kind, .int .i64 dev, .int .i64 sec, .int .i64 n, .slice aod dn capd, .slice aop pn capp]
theorem opC_cells {w : World} {OB : Nat} {kind dev sec n : Int} {aod : Option Addr} {dn capd : Nat} {aop : Option Addr} {pn capp : Nat} (h : w.heap[OB]? = some (.cells (opC kind dev sec n aod dn capd aop pn capp) 36 (0, 0))) :
    w.cell? ⟨OB, 1, none⟩ = some (.int .i64 dev) ∧ w.cell? ⟨OB, 2, none⟩ = some (.int .i64 sec) ∧ w.cell? ⟨OB, 3, none⟩ = some (.int .i64 n) ∧ w.cell? ⟨OB, 4, none⟩ = some (.slice aod dn capd) ∧ w.cell? ⟨OB, 5, none⟩ = some (.slice aop pn capp) := by
  refine ⟨?_, ?_, ?_, ?_, ?_⟩ <;> (rw [cell_of_row w OB _ _ _ _ h]; rfl)
theorem ints_one (w : World) {n : Int} (h : I64 n) : Ints (w.alloc (.cells #[.int .i64 n] 3)) (.slice (some ⟨w.heap.size, 0, none⟩) 1 1) [n] := by
  refine ⟨some ⟨w.heap.size, 0, none⟩, 1, w.heap.size, 0, rfl, fun _ => rfl, fun i q hq => ?_, fun m hm => by rw [List.mem_singleton.1 hm]; exact h, by simp, by simp, by simp, by unfold maxLen; omega⟩
  cases i with
  | zero => cases hq; rw [cell_of_row _ _ _ _ _ _ (heap_alloc_new w _)]; rfl
  | succ i => simp at hq
theorem flAll_one (D : List Dev) (q : Pw) (i : Int) : (flAll D q [i]).1 = fl1D D q i ∧ (flAll D q [i]).2.1 = fl1Q D q i := by
  simp only [flAll]
  split <;> exact ⟨rfl, rfl⟩
end Go.Proofs.Ytliboiajhhnajaa
