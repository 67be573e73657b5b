/- Operations of drawn regions: numbers. -/
import Derived.Test.YtnkcebngfnailaaCt
namespace Go.Proofs.Ytnkcebngfnailaa
open Go.RowKit Go.Extern

section
variable {ρ : Operand → Value} {o : Oper} {w : World} {x y : Operand} {n m : Int} {T : TypeId} {b : Bool}
theorem exec_gtr (ho : o.op = .binOp .gtr 3 x y T) (hx : ρ x = .int .i64 n) (hy : ρ y = .int .i64 m) (h : decide (m < n) = b) : (execOp ρ o).run Try.prog w = .ok (.value (.bool b)) w := by
  subst h
  unfold execOp; simp only [ho, hx, hy]; go_simp
theorem exec_lss (ho : o.op = .binOp .lss 3 x y T) (hx : ρ x = .int .i64 n) (hy : ρ y = .int .i64 m) (h : decide (n < m) = b) : (execOp ρ o).run Try.prog w = .ok (.value (.bool b)) w := by
  subst h
  unfold execOp; simp only [ho, hx, hy]; go_simp
theorem exec_geq (ho : o.op = .binOp .geq 3 x y T) (hx : ρ x = .int .i64 n) (hy : ρ y = .int .i64 m) (h : decide (m ≤ n) = b) : (execOp ρ o).run Try.prog w = .ok (.value (.bool b)) w := by
  subst h
  unfold execOp; simp only [ho, hx, hy]; go_simp
theorem exec_leq (ho : o.op = .binOp .leq 3 x y T) (hx : ρ x = .int .i64 n) (hy : ρ y = .int .i64 m) (h : decide (n ≤ m) = b) : (execOp ρ o).run Try.prog w = .ok (.value (.bool b)) w := by
  subst h
  unfold execOp; simp only [ho, hx, hy]; go_simp
theorem exec_eql (ho : o.op = .binOp .eql 3 x y T) (hx : ρ x = .int .i64 n) (hy : ρ y = .int .i64 m) (h : decide (n = m) = b) : (execOp ρ o).run Try.prog w = .ok (.value (.bool b)) w := by
  subst h
  have e : (n == m) = decide (n = m) := by rw [Bool.eq_iff_iff]; simp
  unfold execOp; simp only [ho, hx, hy]; go_simp
theorem exec_neq0 (ho : o.op = .binOp .neq 3 x y T) (hx : ρ x = .int .i64 n) (hy : ρ y = .int .i64 m) (h : (n != m) = b) : (execOp ρ o).run Try.prog w = .ok (.value (.bool b)) w := by
  subst h
  unfold execOp; simp only [ho, hx, hy]; go_simp
end
theorem min_at (n : Nat) (w : World) : (Builtin.min_ #[3, 3] 3 #[.int .i64 (n : Int), .int .i64 4]).run Try.prog w = .ok (.int .i64 ((min n 4 : Nat) : Int)) w := by
  have e : ((min n 4 : Nat) : Int) = if (4 : Int) < (n : Int) then (4 : Int) else (n : Int) := by split <;> omega
  rw [e]
  rfl
theorem index_intsN {w : World} {g off n cap i : Nat} (h : i < n) : (Instr.indexAt 22 (.slice (some ⟨g, off, none⟩) n cap) (.int .i64 (i : Int))).run Try.prog w = .ok (.pointer (some ⟨g, off + i, none⟩)) w := by
  have hlt : (i : Int) < (n : Int) := by omega
  have hge : (0 : Int) ≤ (i : Int) := by omega
  go_simp
theorem index_ints0 {w : World} {g off n cap : Nat} (h : 0 < n) : (Instr.indexAt 22 (.slice (some ⟨g, off, none⟩) n cap) (.int .i64 0)).run Try.prog w = .ok (.pointer (some ⟨g, off + 0, none⟩)) w := by
  have := index_intsN (w := w) (g := g) (off := off) (cap := cap) h
  simpa using this
section
variable {ρ : Operand → Value} {o : Oper} {w : World}
theorem exec_quo {x y : Operand} {n k : Int} {T : TypeId} (ho : o.op = .binOp .quo 3 x y T) (hx : ρ x = .int .i64 n) (hy : ρ y = .int .i64 4096) (h : 0 ≤ n ∧ n < 32768) (hk : n / 4096 = k) : (execOp ρ o).run Try.prog w = .ok (.value (.int .i64 k)) w := by
  subst hk
  have e1 : n.tdiv 4096 = n / 4096 := Int.tdiv_eq_ediv_of_nonneg h.1
  have e2 : IntKind.i64.wrap (n / 4096) = n / 4096 := by rw [IntKind.wrap_i64]; omega
  unfold execOp; simp only [ho, hx, hy]; go_simp
theorem exec_min {x y : Operand} {n : Nat} {k : Int} (ho : o.op = .call { callee := .builtin .min, args := #[x, y], argTypes := #[3, 3] }) (ht : o.type = 3) (hx : ρ x = .int .i64 (n : Int)) (hy : ρ y = .int .i64 4) (hk : ((min n 4 : Nat) : Int) = k) : (execOp ρ o).run Try.prog w = .ok (.value (.int .i64 k)) w := by
  subst hk
  unfold execOp; simp [ho, resolve, invoke, builtin, hx, hy, ht, min_at]
theorem exec_slice_l {t : TypeId} {x lo : Operand} {xv lv v : Value} (ho : o.op = .slice t x (some lo) none none) (hr : (Instr.sliceAt t xv (some lv) none none).run Try.prog w = .ok v w) (hx : ρ x = xv) (hl : ρ lo = lv) : (execOp ρ o).run Try.prog w = .ok (.value v) w := by
  unfold execOp; simp [ho, hx, hl, hr]
theorem exec_slice_h {t : TypeId} {x hi : Operand} {xv hv v : Value} (ho : o.op = .slice t x none (some hi) none) (hr : (Instr.sliceAt t xv none (some hv) none).run Try.prog w = .ok v w) (hx : ρ x = xv) (hh : ρ hi = hv) : (execOp ρ o).run Try.prog w = .ok (.value v) w := by
  unfold execOp; simp [ho, hx, hh, hr]
end
theorem enterClone (args : Array Value) (w : World) : (callFunc 23 args).run Try.prog w = .ok (.enter 23 args) w := by kernel_rfl
theorem enterDev (args : Array Value) (w : World) : (callFunc 22 args).run Try.prog w = .ok (.enter 22 args) w := by kernel_rfl
theorem enterRank (args : Array Value) (w : World) : (callFunc 25 args).run Try.prog w = .ok (.enter 25 args) w := by kernel_rfl
end Go.Proofs.Ytnkcebngfnailaa
