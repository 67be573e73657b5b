/- The statements' fixed answer by its contract. -/
import Derived.Test.YtlgmfiboekmhkabDoorPut
import Derived.Test.YtlgmfiboekmhkabDoorRd
import Derived.Lib.SlBytesConst
namespace Go.Proofs.YtlgmfiboekmhkabDoor
open Go.RowKit Go.Extern

/-- One part, laid in a new block. -/
theorem parts_one (w : World) (v : Value) (bs : List Nat) (hv : Bytes w v bs) : Parts (w.alloc (.cells #[v] 22)) (.slice (some ⟨w.heap.size, 0, none⟩) 1 1) [bs] := by
  refine ⟨_, 1, w.heap.size, 0, rfl, fun _ => rfl, fun i p hp => ?_, by simp⟩
  match i, hp with
  | 0, hp =>
    obtain rfl : bs = p := by simpa using hp
    exact ⟨v, by simp, hv.below ((Below.refl _ _).alloc (Nat.le_refl _) _)⟩

theorem const_bytes (w : World) : ∃ w2, (convert 22 22 (.slice (some ⟨w.heap.size, 0, none⟩) 9 9)).run Tryd.prog (w.alloc (.cells #[.int .u8 49, .int .u8 50, .int .u8 51, .int .u8 52, .int .u8 53, .int .u8 54, .int .u8 55, .int .u8 56, .int .u8 57] 5)) = .ok (.slice (some ⟨w.heap.size, 0, none⟩) 9 9) w2 ∧
    Hid (Bytes w2 (.slice (some ⟨w.heap.size, 0, none⟩) 9 9) [49, 50, 51, 52, 53, 54, 55, 56, 57]) ∧ Hid (Below w.heap.size w w2) := by
  refine ⟨_, Lib.run_convert_bytes_const w 22 5 (cellsB [49, 50, 51, 52, 53, 54, 55, 56, 57]).toArray 9 9 Tryd.underlying22 Tryd.underlying5, ?_, (Below.refl _ _).alloc (Nat.le_refl _) _⟩
  refine ⟨_, 9, w.heap.size, 0, rfl, fun _ => rfl, fun i b hb => ?_, by decide, by decide, by simp, by decide, by decide⟩
  rw [cell_of_row _ _ _ _ _ _ (heap_alloc_new w _), List.getElem?_toArray, Nat.zero_add]
  exact cellsB_get hb
theorem errV_eql : errV 0 = Value.nilIface := rfl

set_option maxRecDepth 100000 in
set_option maxHeartbeats 1000000 in
theorem awake_any (w : World) (hL : Laid w) : Calls Tryd.prog 5 #[] w fun ev w' => ev = .returned (.bool true) ∧ Below w.heap.size w w' := by
  have b0 : Below w.heap.size w (w.alloc (.cells (cellsB [1, 2]).toArray 5)) := (Below.refl _ _).alloc (Nat.le_refl _) _
  have HP := hide (put_any 3 (by decide) [1, 2] _ _ (hL.below b0) (lit_bytes w [1, 2] (by decide) (by decide)) (by decide))
  have HL := hide hL
  have HB0 := hide b0
  clear hL b0
  go_enter Tryd.func5, Tryd.ntmps5
  go_wp2_with fail
  refine HP.out.mono ?_
  rintro e w1 ⟨u, rfl, ho, hb⟩
  have HB1 := hide (HB0.out.trans (hb.mono HB0.out.size))
  obtain ⟨g, off, cap, rfl, h3, h7, h8⟩ := ho.bytes.at0 (by rw [frameOf_length (by decide)]; decide)
  have c0 : w1.cell? ⟨g, off, none⟩ = some (.int .u8 3) := h3 0 3 rfl
  have c1 : w1.cell? ⟨g, off + 1, none⟩ = some (.int .u8 2) := h3 1 2 rfl
  have hlen : (frameOf 3 [1, 2]).length = 128 := frameOf_length (by decide)
  rw [errV_eql, hlen]
  rw [hlen] at h7
  obtain ⟨w2, e1, HB2, HB3⟩ := const_bytes w1
  have HB4 := hide (HB1.out.trans (HB3.out.mono HB1.out.size))
  have HS := hide (sum_any [[49, 50, 51, 52, 53, 54, 55, 56, 57]] _ _ (HL.out.below (HB4.out.alloc HB4.out.size _)) (parts_one _ _ _ HB2.out))
  have hcc : crc [[49, 50, 51, 52, 53, 54, 55, 56, 57]].flatten = 3421780262 := crc_check
  rw [hcc] at HS
  clear hb ho h3 hlen hcc HP HB0
  go_wp2_with fail
  refine HS.out.mono ?_
  rintro e w' ⟨rfl, rfl⟩
  go_wp2
  go_ret
  exact ⟨rfl, HB4.out.alloc HB4.out.size _⟩
end Go.Proofs.YtlgmfiboekmhkabDoor
