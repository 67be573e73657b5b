/- Facts on new disks and new bytes. -/
import Derived.Test.YtliboiajhhnajaaGrow
import Derived.Test.YtliboiajhhnajaaWrite
namespace Go.Proofs.Ytliboiajhhnajaa
open Go.RowKit Go.Extern

theorem errV_20 : errV 20 = .iface 40 (.int .i64 20) := rfl
theorem errV_21 : errV 21 = .iface 40 (.int .i64 21) := rfl
theorem errV_11 : errV 11 = .iface 40 (.int .i64 11) := rfl
theorem fresh_get {n i : Nat} (h : i < n) : (fresh n)[i]? = some zeroSec := by simp [fresh, h]
theorem fresh_wait {n : Nat} : ∀ s ∈ fresh n, s.wait = [] := fun s hs => by simp [fresh] at hs; rw [hs.2]; rfl
theorem run_mk (w : World) : (Instr.makeSlice 31 (.int .i64 128) (.int .i64 128)).run Try.prog w = .ok (.slice (some ⟨w.heap.size, 0, none⟩) 128 128) (w.alloc (.cells (cellsB (List.replicate 128 0)).toArray 5)) := by kernel_rfl
theorem made (w : World) : ∃ w1, (Instr.makeSlice 31 (.int .i64 128) (.int .i64 128)).run Try.prog w = .ok (.slice (some ⟨w.heap.size, 0, none⟩) 128 128) w1 ∧
    w1.heap[w.heap.size]? = some (.cells (cellsB (List.replicate 128 0)).toArray 5 (0, 0)) ∧ Below w.heap.size w w1 ∧ w1.heap.size = w.heap.size + 1 :=
  ⟨_, run_mk w, heap_alloc_new w _, (Below.refl _ _).alloc (Nat.le_refl _) _, by simp⟩
theorem cell_made (w1 : World) (g : Nat) (h : w1.heap[g]? = some (.cells (cellsB (List.replicate 128 0)).toArray 5 (0, 0))) (i : Nat) (hi : i < 128) : w1.cell? ⟨g, i, none⟩ = some (.int .u8 0) := by
  rw [cell_of_row w1 g i _ _ _ h]
  rw [List.getElem?_toArray, cellsB, List.getElem?_map, List.getElem?_replicate, if_pos hi]; rfl
theorem bytes_of_row {w : World} {g : Nat} {bs : List Nat} {t : TypeId} {fr : Nat × Nat} (h : w.heap[g]? = some (.cells (cellsB bs).toArray t fr)) (hl : bs.length = 128) (hb : ∀ b ∈ bs, b < 256) : Bytes w (.slice (some ⟨g, 0, none⟩) 128 128) bs :=
  bytes_of_con ⟨hl, hb⟩ h
/-- Noughts, but for a seven at the sixth place. -/
def sevens : List Nat := zeros.set 5 7
theorem sevens_con : Con sevens := ⟨by simp [sevens, zeros], fun b hb => by
  rcases List.mem_or_eq_of_mem_set hb with h | h
  · exact zeros_con.2 b h
  · omega⟩
theorem row_sevens {w1 : World} {g : Nat} (h : w1.heap[g]? = some (.cells (cellsB (List.replicate 128 0)).toArray 5 (0, 0))) : (w1.setCell ⟨g, 5, none⟩ (.int .u8 7)).heap[g]? = some (.cells (cellsB sevens).toArray 5 (0, 0)) := by
  rw [set_cell_row h (by simp [cellsB]) _]
  rfl

end Go.Proofs.Ytliboiajhhnajaa
