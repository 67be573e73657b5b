/- Single operations of regions: comparisons, loads. -/
import Derived.Test.YtcidadikmmdalaaDoorTk
import Derived.Test.YtcidadikmmdalaaDoorPa
import Derived.Test.YtcidadikmmdalaaDoorFi
namespace Go.Proofs.YtcidadikmmdalaaDoor
open Go.RowKit Go.Extern
section
variable {ρ : Operand → Value} {o : Oper} {w : World} {x y : Operand} {n m : Int} {T : TypeId} {b : Bool}
theorem exec_gtr (ho : o.op = .binOp .gtr 3 x y T) (hx : ρ x = .int .i64 n) (hy : ρ y = .int .i64 m) (h : decide (m < n) = b) : (execOp ρ o).run Tryd.prog w = .ok (.value (.bool b)) w := by
  subst h
  unfold execOp; simp only [ho, hx, hy]; go_simp
theorem exec_lss (ho : o.op = .binOp .lss 3 x y T) (hx : ρ x = .int .i64 n) (hy : ρ y = .int .i64 m) (h : decide (n < m) = b) : (execOp ρ o).run Tryd.prog w = .ok (.value (.bool b)) w := by
  subst h
  unfold execOp; simp only [ho, hx, hy]; go_simp
theorem exec_leq (ho : o.op = .binOp .leq 3 x y T) (hx : ρ x = .int .i64 n) (hy : ρ y = .int .i64 m) (h : decide (n ≤ m) = b) : (execOp ρ o).run Tryd.prog w = .ok (.value (.bool b)) w := by
  subst h
  unfold execOp; simp only [ho, hx, hy]; go_simp
theorem exec_geq (ho : o.op = .binOp .geq 3 x y T) (hx : ρ x = .int .i64 n) (hy : ρ y = .int .i64 m) (h : decide (m ≤ n) = b) : (execOp ρ o).run Tryd.prog w = .ok (.value (.bool b)) w := by
  subst h
  unfold execOp; simp only [ho, hx, hy]; go_simp
theorem exec_eql (ho : o.op = .binOp .eql 3 x y T) (hx : ρ x = .int .i64 n) (hy : ρ y = .int .i64 m) (h : decide (n = m) = b) : (execOp ρ o).run Tryd.prog w = .ok (.value (.bool b)) w := by
  subst h
  have e : (n == m) = decide (n = m) := by rw [Bool.eq_iff_iff]; simp
  unfold execOp; simp only [ho, hx, hy]; go_simp
theorem exec_neq (ho : o.op = .binOp .neq 3 x y T) (hx : ρ x = .int .i64 n) (hy : ρ y = .int .i64 m) (h : decide (n ≠ m) = b) : (execOp ρ o).run Tryd.prog w = .ok (.value (.bool b)) w := by
  subst h
  have e : (n != m) = decide (n ≠ m) := by rw [Bool.eq_iff_iff]; simp
  unfold execOp; simp only [ho, hx, hy]; go_simp
end
theorem len_ints (w : World) (a : Option Addr) (n c : Nat) : (Builtin.len_ #[22] 3 #[.slice a n c]).run Tryd.prog w = .ok (.int .i64 (n : Int)) w := by kernel_rfl
theorem len_pairs (w : World) (a : Option Addr) (n c : Nat) : (Builtin.len_ #[53] 3 #[.slice a n c]).run Tryd.prog w = .ok (.int .i64 (n : Int)) w := by kernel_rfl
theorem len_nodes (w : World) (a : Option Addr) (n c : Nat) : (Builtin.len_ #[47] 3 #[.slice a n c]).run Tryd.prog w = .ok (.int .i64 (n : Int)) w := by kernel_rfl
theorem load_intP {w : World} {p : Addr} {n : Int} (h : w.cell? p = some (.int .i64 n)) : (Instr.loadAt 3 (.pointer (some p))).run Tryd.prog w = .ok (.int .i64 n) w := load_intV h
theorem load_intsP {w : World} {p : Addr} {v : Value} (h : w.cell? p = some v) : (Instr.loadAt 22 (.pointer (some p))).run Tryd.prog w = .ok v w := by go_simp
theorem load_pairP {w : World} {g i : Nat} {k v : Int} (h : w.cell? ⟨g, i, none⟩ = some (.int .i64 k) ∧ w.cell? ⟨g, i + 1, none⟩ = some (.int .i64 v)) : (Instr.loadAt 56 (.pointer (some ⟨g, i, none⟩))).run Tryd.prog w = .ok (.agg #[.int .i64 k, .int .i64 v]) w := by
  obtain ⟨h1, h2⟩ := h
  go_simp
theorem load_nodeP {w : World} {g i : Nat} {L : Int} {kv vv : Value} (h : w.cell? ⟨g, i, none⟩ = some (.int .i64 L) ∧ w.cell? ⟨g, i + 1, none⟩ = some kv ∧ w.cell? ⟨g, i + 2, none⟩ = some vv) : (Instr.loadAt 30 (.pointer (some ⟨g, i, none⟩))).run Tryd.prog w = .ok (.agg #[.int .i64 L, kv, vv]) w := by
  obtain ⟨h1, h2, h3⟩ := h
  go_simp
theorem index_ints {w : World} {g off n cap i : Nat} (h : i < n) : (Instr.indexAt 22 (.slice (some ⟨g, off, none⟩) n cap) (.int .i64 (i : Int))).run Tryd.prog w = .ok (.pointer (some ⟨g, off + i, none⟩)) w := by
  have hlt : (i : Int) < (n : Int) := by omega
  have hge : (0 : Int) ≤ (i : Int) := by omega
  go_simp
theorem index_pairs {w : World} {g off n cap i : Nat} (h : i < n) : (Instr.indexAt 53 (.slice (some ⟨g, off, none⟩) n cap) (.int .i64 (i : Int))).run Tryd.prog w = .ok (.pointer (some ⟨g, off + i * 2, none⟩)) w := by
  have hlt : (i : Int) < (n : Int) := by omega
  have hge : (0 : Int) ≤ (i : Int) := by omega
  go_simp
theorem index_nodes {w : World} {g off n cap i : Nat} (h : i < n) : (Instr.indexAt 47 (.slice (some ⟨g, off, none⟩) n cap) (.int .i64 (i : Int))).run Tryd.prog w = .ok (.pointer (some ⟨g, off + i * 3, none⟩)) w := by
  have hlt : (i : Int) < (n : Int) := by omega
  have hge : (0 : Int) ≤ (i : Int) := by omega
  go_simp
theorem fldP0 (g i : Nat) (w : World) : (Instr.fieldAt 56 (.pointer (some ⟨g, i, none⟩)) 0).run Tryd.prog w = .ok (.pointer (some ⟨g, i, none⟩)) w := by kernel_rfl
theorem fldP1 (g i : Nat) (w : World) : (Instr.fieldAt 56 (.pointer (some ⟨g, i, none⟩)) 1).run Tryd.prog w = .ok (.pointer (some ⟨g, i + 1, none⟩)) w := by kernel_rfl
theorem fldN0 (g i : Nat) (w : World) : (Instr.fieldAt 30 (.pointer (some ⟨g, i, none⟩)) 0).run Tryd.prog w = .ok (.pointer (some ⟨g, i, none⟩)) w := by kernel_rfl
theorem fldN1 (g i : Nat) (w : World) : (Instr.fieldAt 30 (.pointer (some ⟨g, i, none⟩)) 1).run Tryd.prog w = .ok (.pointer (some ⟨g, i + 1, none⟩)) w := by kernel_rfl
theorem fldN2 (g i : Nat) (w : World) : (Instr.fieldAt 30 (.pointer (some ⟨g, i, none⟩)) 2).run Tryd.prog w = .ok (.pointer (some ⟨g, i + 2, none⟩)) w := by kernel_rfl
theorem fldR0 (g i : Nat) (w : World) : (Instr.fieldAt 24 (.pointer (some ⟨g, i, none⟩)) 0).run Tryd.prog w = .ok (.pointer (some ⟨g, i, none⟩)) w := by kernel_rfl
theorem fldR1 (g i : Nat) (w : World) : (Instr.fieldAt 24 (.pointer (some ⟨g, i, none⟩)) 1).run Tryd.prog w = .ok (.pointer (some ⟨g, i + 1, none⟩)) w := by kernel_rfl
theorem fldR2 (g i : Nat) (w : World) : (Instr.fieldAt 24 (.pointer (some ⟨g, i, none⟩)) 2).run Tryd.prog w = .ok (.pointer (some ⟨g, i + 2, none⟩)) w := by kernel_rfl
theorem cell_bel {w w' : World} {a : Addr} {v : Value} (hb : Below w.heap.size w w') (h : w.cell? a = some v) : w'.cell? a = some v := by rw [hb.cell (cell_lt h)]; exact h
theorem enterIsRight (args : Array Value) (w : World) : (callFunc 38 args).run Tryd.prog w = .ok (.enter 38 args) w := by kernel_rfl
theorem enterFits (args : Array Value) (w : World) : (callFunc 46 args).run Tryd.prog w = .ok (.enter 46 args) w := by kernel_rfl
theorem sub_drew {B : Nat} {w w' : World} (h : Below B w w') : Below B w w'.drew := h.drew
end Go.Proofs.YtcidadikmmdalaaDoor
