/- What the law RefsPlays leans on. -/
import Derived.Test.YtjopdejgijojmaaHd
namespace Go.Proofs.Ytjopdejgijojmaa
open Go.RowKit Go.Extern

/-- One call: its kind, its pair. -/
abbrev Opn := Int × Ref
structure OpsAt (F : Nat → Prop) (w : World) (ao : Option Addr) (g off : Nat) (os : List Opn) : Prop where
  ad : 0 < os.length → ao = some ⟨g, off, none⟩
  out : 0 < os.length → ¬ F g
  cells : ∀ (i : Nat) (p : Opn), os[i]? = some p → w.cell? ⟨g, off + i * 4, none⟩ = some (.int .i64 p.1) ∧ w.cell? ⟨g, off + i * 4 + 1, none⟩ = some (.int .i64 p.2.1.1) ∧ w.cell? ⟨g, off + i * 4 + 2, none⟩ = some (.int .i64 p.2.1.2) ∧ w.cell? ⟨g, off + i * 4 + 3, none⟩ = some (.int .i64 p.2.2)
section
variable {F : Nat → Prop} {w w' : World} {ao : Option Addr} {g off : Nat} {os : List Opn}
theorem OpsAt.turn (h : OpsAt F w ao g off os) (ht : Turn F w w') : OpsAt (ext F w w') w' ao g off os := by
  have key : ∀ {i : Nat} {r : Opn}, os[i]? = some r → w'.heap[g]? = w.heap[g]? ∧ g < w.heap.size := fun hr => ⟨ht.block g (cell_lt (h.cells _ _ hr).1) (h.out (pos_of_get hr)), cell_lt (h.cells _ _ hr).1⟩
  refine ⟨h.ad, fun hp hx => ?_, fun i r hr => ?_⟩
  · have hr : os[0]? = some os[0] := by simp [hp]
    have := (key hr).2
    rcases hx with hx | ⟨h1, -⟩
    · exact h.out hp hx
    · omega
  · obtain ⟨h1, h2, h3, h4⟩ := h.cells i r hr
    have hk := (key hr).1
    exact ⟨cell_same hk h1, cell_same hk h2, cell_same hk h3, cell_same hk h4⟩
theorem OpsAt.below (h : OpsAt F w ao g off os) (hb : Below w.heap.size w w') : OpsAt F w' ao g off os :=
  ⟨h.ad, h.out, fun i r hr => by
    obtain ⟨h1, h2, h3, h4⟩ := h.cells i r hr
    have hk := hb.block g (cell_lt h1)
    exact ⟨cell_same hk h1, cell_same hk h2, cell_same hk h3, cell_same hk h4⟩⟩
theorem OpsAt.start (h : OpsAt (fun _ => False) w ao g off os) (hF : ∀ k, F k → w.heap.size ≤ k) (hb : Below w.heap.size w w') : OpsAt F w' ao g off os := by
  have h2 := h.below hb
  refine ⟨h2.ad, fun hp hx => ?_, h2.cells⟩
  have hr : os[0]? = some os[0] := by simp [hp]
  have h3 := cell_lt (h.cells 0 _ hr).1
  have h4 := hF g hx
  simp only at h3
  omega
end
/-- A block that holds a call. -/
def BoxP (w : World) (x : Nat) (p : Opn) : Prop := w.cell? ⟨x, 0, none⟩ = some (.int .i64 p.1) ∧ w.cell? ⟨x, 1, none⟩ = some (.int .i64 p.2.1.1) ∧ w.cell? ⟨x, 2, none⟩ = some (.int .i64 p.2.1.2) ∧ w.cell? ⟨x, 3, none⟩ = some (.int .i64 p.2.2)
theorem boxP_new (w : World) (p : Opn) (T : TypeId) : BoxP (w.alloc (.cells #[.int .i64 p.1, .int .i64 p.2.1.1, .int .i64 p.2.1.2, .int .i64 p.2.2] T)) w.heap.size p := ⟨by simp, by simp, by simp, by simp⟩
theorem BoxP.same {w w' : World} {x : Nat} {p : Opn} (h : BoxP w x p) (hk : w'.heap[x]? = w.heap[x]?) : BoxP w' x p := ⟨cell_same hk h.1, cell_same hk h.2.1, cell_same hk h.2.2.1, cell_same hk h.2.2.2⟩
theorem BoxP.below {w w' : World} {x : Nat} {p : Opn} (h : BoxP w x p) (hb : Below w.heap.size w w') : BoxP w' x p := h.same (hb.block x (cell_lt h.1))
theorem BoxP.turn {F : Nat → Prop} {w w' : World} {x : Nat} {p : Opn} (h : BoxP w x p) (ht : Turn F w w') (hx : ¬ F x) : BoxP w' x p := h.same (ht.block x (cell_lt h.1) hx)
theorem is60 (w : World) : Calls Try.prog 11 #[.iface 66 (.int .i64 60), .int .i64 60] w fun e w' => e = .returned (.bool true) ∧ w = w' := by
  have := is_any 60 60 w
  rw [errV60] at this
  exact this.mono (fun e w' h => ⟨by rw [h.1]; rfl, h.2.symm⟩)
theorem is100 (w : World) : Calls Try.prog 11 #[.iface 66 (.int .i64 100), .int .i64 100] w fun e w' => e = .returned (.bool true) ∧ w = w' := by
  have := is_any 100 100 w
  rw [errV100] at this
  exact this.mono (fun e w' h => ⟨by rw [h.1]; rfl, h.2.symm⟩)
theorem isNil (w : World) : Calls Try.prog 11 #[.nilIface, .int .i64 100] w fun e w' => e = .returned (.bool false) ∧ w = w' := by
  have := is_any 0 100 w
  rw [errV_zero] at this
  exact this.mono (fun e w' h => ⟨by rw [h.1]; rfl, h.2.symm⟩)
/-- What was begun, as the law keeps it. -/
def wlOf (bg : Bool) (W : List Ref) : Option (List Ref) := if bg then some W else none
theorem Rf.okW {w : World} {F : Nat → Prop} {b : Nat} {l W : List Ref} (h : Rf w F b l (some W)) : Okl W := by
  obtain ⟨E, bn, bo, A, sv, -, ⟨s, S, -, -, hW, -⟩, -⟩ := h; exact hW
theorem fldD0 (b i : Nat) (w : World) : (Instr.fieldAt 45 (.pointer (some ⟨b, i, none⟩)) 0).run Try.prog w = .ok (.pointer (some ⟨b, i, none⟩)) w := by kernel_rfl
theorem fldD1 (b i : Nat) (w : World) : (Instr.fieldAt 45 (.pointer (some ⟨b, i, none⟩)) 1).run Try.prog w = .ok (.pointer (some ⟨b, i + 2, none⟩)) w := by kernel_rfl
theorem fldD2 (b i : Nat) (w : World) : (Instr.fieldAt 45 (.pointer (some ⟨b, i, none⟩)) 2).run Try.prog w = .ok (.pointer (some ⟨b, i + 3, none⟩)) w := by kernel_rfl
theorem fldE0 (b i : Nat) (w : World) : (Instr.fieldAt 47 (.pointer (some ⟨b, i, none⟩)) 0).run Try.prog w = .ok (.pointer (some ⟨b, i, none⟩)) w := by kernel_rfl
theorem fldE1 (b i : Nat) (w : World) : (Instr.fieldAt 47 (.pointer (some ⟨b, i, none⟩)) 1).run Try.prog w = .ok (.pointer (some ⟨b, i + 1, none⟩)) w := by kernel_rfl
theorem fldE2 (b i : Nat) (w : World) : (Instr.fieldAt 47 (.pointer (some ⟨b, i, none⟩)) 2).run Try.prog w = .ok (.pointer (some ⟨b, i + 2, none⟩)) w := by kernel_rfl
theorem fldE3 (b i : Nat) (w : World) : (Instr.fieldAt 47 (.pointer (some ⟨b, i, none⟩)) 3).run Try.prog w = .ok (.pointer (some ⟨b, i + 3, none⟩)) w := by kernel_rfl
theorem index_chg {w : World} {g n cap i : Nat} (h : i < n) : (Instr.indexAt 39 (.slice (some ⟨g, 0, none⟩) n cap) (.int .i64 (i : Int))).run Try.prog w = .ok (.pointer (some ⟨g, i * 4, none⟩)) w := by
  have hlt : (i : Int) < (n : Int) := by omega
  have hge : (0 : Int) ≤ (i : Int) := by omega
  go_simp
theorem index_rchg {w : World} {g n cap i : Nat} (h : i < n) : (Instr.indexAt 42 (.slice (some ⟨g, 0, none⟩) n cap) (.int .i64 (i : Int))).run Try.prog w = .ok (.pointer (some ⟨g, i * 4, none⟩)) w := by
  have hlt : (i : Int) < (n : Int) := by omega
  have hge : (0 : Int) ≤ (i : Int) := by omega
  go_simp
end Go.Proofs.Ytjopdejgijojmaa
