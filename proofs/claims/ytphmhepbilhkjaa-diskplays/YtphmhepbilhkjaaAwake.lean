/- The statements' fixed answer, by the contracts. -/
import Derived.Test.YtphmhepbilhkjaaGrow
import Derived.Test.YtphmhepbilhkjaaWrite
namespace Go.Proofs.Ytphmhepbilhkjaa
open Go.RowKit Go.Extern

theorem errV_20 : errV 20 = .iface 72 (.int .i64 20) := rfl
theorem errV_21 : errV 21 = .iface 72 (.int .i64 21) := rfl
theorem errV_11 : errV 11 = .iface 72 (.int .i64 11) := rfl
theorem fresh_get {n i : Nat} (h : i < n) : (fresh n)[i]? = some zeroSec := by simp [fresh, h]
theorem fresh_wait {n : Nat} : ∀ s ∈ fresh n, s.wait = [] := fun s hs => by simp [fresh] at hs; rw [hs.2]; rfl
theorem run_mk (w : World) : (Instr.makeSlice 32 (.int .i64 128) (.int .i64 128)).run Try.prog w = .ok (.slice (some ⟨w.heap.size, 0, none⟩) 128 128) (w.alloc (.cells (cellsB (List.replicate 128 0)).toArray 5)) := by kernel_rfl
theorem made (w : World) : ∃ w1, (Instr.makeSlice 32 (.int .i64 128) (.int .i64 128)).run Try.prog w = .ok (.slice (some ⟨w.heap.size, 0, none⟩) 128 128) w1 ∧
    w1.heap[w.heap.size]? = some (.cells (cellsB (List.replicate 128 0)).toArray 5 (0, 0)) ∧ Below w.heap.size w w1 ∧ w1.heap.size = w.heap.size + 1 :=
  ⟨_, run_mk w, heap_alloc_new w _, (Below.refl _ _).alloc (Nat.le_refl _) _, by simp⟩
theorem cell_made (w1 : World) (g : Nat) (h : w1.heap[g]? = some (.cells (cellsB (List.replicate 128 0)).toArray 5 (0, 0))) (i : Nat) (hi : i < 128) : w1.cell? ⟨g, i, none⟩ = some (.int .u8 0) := by
  rw [cell_of_row w1 g i _ _ _ h]
  rw [List.getElem?_toArray, cellsB, List.getElem?_map, List.getElem?_replicate, if_pos hi]; rfl
theorem bytes_of_row {w : World} {g : Nat} {bs : List Nat} {t : TypeId} {fr : Nat × Nat} (h : w.heap[g]? = some (.cells (cellsB bs).toArray t fr)) (hl : bs.length = 128) (hb : ∀ b ∈ bs, b < 256) : Bytes w (.slice (some ⟨g, 0, none⟩) 128 128) bs :=
  bytes_of_con ⟨hl, hb⟩ h
/-- Noughts, but for a seven at the sixth place. -/
def sevens : List Nat := zeros.set 5 7
theorem sevens_con : Con sevens := ⟨by simp [sevens, zeros], fun b hb => by
  rcases List.mem_or_eq_of_mem_set hb with h | h
  · exact zeros_con.2 b h
  · omega⟩
theorem row_sevens {w1 : World} {g : Nat} (h : w1.heap[g]? = some (.cells (cellsB (List.replicate 128 0)).toArray 5 (0, 0))) : (w1.setCell ⟨g, 5, none⟩ (.int .u8 7)).heap[g]? = some (.cells (cellsB sevens).toArray 5 (0, 0)) := by
  rw [set_cell_row h (by simp [cellsB]) _]
  rfl

set_option maxRecDepth 100000 in
set_option maxHeartbeats 2000000 in
theorem awake_any (w : World) : Calls Try.prog 12 #[] w fun e w' => e = .returned (.bool true) ∧ Below w.heap.size w w' := by
  have HN := hide (new_any w 3)
  go_enter Try.func12, Try.ntmps12
  go_wp2_with fail
  refine HN.out.mono ?_
  rintro e w1 ⟨hb1, hif⟩
  rw [if_pos (by rfl)] at hif
  obtain ⟨b, F, rfl, hdk, hF⟩ := hif
  rw [errV_zero]
  have HB1 := hide hb1
  have HDK := hide hdk
  have HF := hide hF
  have HSZ := hide (size_any hdk)
  rw [show (fresh (Int.toNat 3)).length = 3 from rfl] at HSZ
  obtain ⟨w2, m1, m2, m3, m4⟩ := made w1
  have k5 := cell_made w2 _ m2 5 (by decide)
  have f5 := row_frozen m2 5
  have hb3 : Below w1.heap.size w1 (w2.setCell ⟨w1.heap.size, 5, none⟩ (.int .u8 7)) := m3.setCell (Nat.le_refl _) _
  have HB3 := hide hb3
  have HW := hide (write_any (hdk.below hb3) 1 _ sevens (bytes_of_row (row_sevens m2) sevens_con.1 sevens_con.2) (fun s hs => by rw [fresh_wait s hs]; decide))
  rw [show wErr (fresh (Int.toNat 3)) 1 sevens = 0 by simp [wErr, hasB, fresh, sevens_con.1], show wSet (fresh (Int.toNat 3)) 1 sevens = [zeroSec, { zeroSec with wait := [sevens] }, zeroSec] by simp [wSet, hasB, fresh, sevens_con.1, zeroSec]] at HW
  clear hb1 hdk hF HN m2 m3 hb3
  go_wp2_with (go_at_call 17; refine HSZ.out.mono ?_; rintro e w' ⟨rfl, hww⟩; obtain rfl : w1 = w' := hww.symm)
  refine HW.out.mono ?_
  rintro e w3 ⟨rfl, hdk3, htn3⟩
  rw [errV_zero]
  have HT3 := hide htn3
  have hwl : ∀ s ∈ [zeroSec, { zeroSec with wait := [sevens] }, zeroSec], s.wait.length ≤ 1000000 := by
    intro s hs
    simp only [List.mem_cons, List.not_mem_nil, or_false] at hs
    rcases hs with rfl | rfl | rfl <;> simp [zeroSec]
  have HR := hide (read_any hdk3 1 (by unfold I64; omega) hwl)
  have HWT : Hid (∀ w4, Below w3.heap.size w3 w4 → Calls Try.prog 22 #[.pointer (some ⟨b, 0, none⟩), .int .i64 1] w4 fun e w' => e = .returned (.int .i64 1) ∧ w' = w4) := fun w4 hb4 => waiting_any (hdk3.below hb4) (by unfold I64; omega)
  clear hdk3 htn3 hwl HW HSZ k5 f5 m1 m4
  go_wp2_with fail
  refine HR.out.mono ?_
  rintro e w4 ⟨u, rfl, ho, hb4⟩
  rw [show rErr [zeroSec, { zeroSec with wait := [sevens] }, zeroSec] 1 = 0 from rfl, errV_zero]
  rw [show rDat [zeroSec, { zeroSec with wait := [sevens] }, zeroSec] 1 = sevens from rfl] at ho
  have HBE : Hid (Below w.heap.size w w4) := by
    refine HB1.out.trans ?_
    refine (HB3.out.mono HB1.out.size).trans ?_
    refine Below.trans (HT3.out.below (B := w.heap.size) (Nat.le_trans HB1.out.size HB3.out.size) (fun k hk => (HF.out k hk).1)) ?_
    exact hb4.mono (Nat.le_trans (Nat.le_trans HB1.out.size HB3.out.size) HT3.out.size)
  have HWT4 := hide (HWT.out w4 hb4)
  obtain ⟨ao, cap, g, off, rfl, k2, k3, -⟩ := ho.bytes
  have hl : sevens.length = 128 := sevens_con.1
  rw [hl] at *
  obtain rfl := k2 (by decide)
  have c5 := k3 5 7 rfl
  clear ho hb4 HR k3 k2 HWT HT3 HB3 HB1 HDK HF
  go_wp2_with (go_at_call 22; refine HWT4.out.mono ?_; rintro e w' ⟨rfl, hww⟩; obtain rfl : w4 = w' := hww.symm)
  go_ret
  exact ⟨rfl, HBE.out⟩
end Go.Proofs.Ytphmhepbilhkjaa
