/- The document's frames: Put and Get of the reference, by their contracts. -/
import Derived.Test.YtlgmfiboekmhkaaDoorRSum
import Derived.Test.YtlgmfiboekmhkaaDoorGet
import Derived.Deep.RegionHeld3
namespace Go.Proofs.YtlgmfiboekmhkaaDoor
open Go.RowKit Go.Extern

set_option maxRecDepth 100000 in
set_option maxHeartbeats 400000 in
theorem rput_any (kind : Nat) (hk : kind < 256) (bs : List Nat) (v : Value) (w : World) (hv : Bytes w v bs) (hl : bs.length ≤ 122) :
    Calls Tryd.prog 16 #[.int .u8 (kind : Int), v] w fun e w' => ∃ u, e = .returned u ∧ Own w' w.heap.size u (frameOf kind bs) ∧ Below w.heap.size w w' := by
  have HV := hide hv
  have HK := hide hk
  have HLT := hide hv.lt
  obtain ⟨ao, cap, g, off, rfl, -⟩ := hv
  have q1 : IntKind.u8.wrap (bs.length : Int) = (bs.length : Int) := by rw [IntKind.wrap_u8']; omega
  have hlit := Own.lit w w.heap.size (Nat.le_refl _) [kind, bs.length] (by simp; exact ⟨hk, by omega⟩) (by simp)
  have HG0 := hide (Grew.refl hlit)
  clear hlit hk
  go_enter Tryd.func16, Tryd.ntmps16
  go_wp2_with (at_builtin; refine wpList_append_grew rfl _ _ rfl w.heap.size _ _ _ bs rfl rfl HG0.out (HV.out.below ((Below.refl _ _).alloc (Nat.le_refl _) _)) (by simp; omega) (by simp) ?_)
  intro v1 w1 hg1
  have HB1 : Hid (Below w.heap.size w w1) := ((Below.refl _ _).alloc (Nat.le_refl _) _).trans (hg1.below (by simp) (by simp [Value.ownBlock]))
  have HO1 := hide hg1.own
  obtain ⟨ao1, n1, cap1, rfl, HN1⟩ := hg1.form'
  clear hg1 HG0
  go_wp2
  go_loopg [5] (122 - bs.length) (fun k u wr => ∃ j, j + k = 122 - bs.length ∧ Own wr w.heap.size u ([kind, bs.length] ++ bs ++ List.replicate j 0) ∧ Below w.heap.size w wr)
  case atStart => exact ⟨0, by omega, by simpa using HO1.out, HB1.out⟩
  case round =>
    obtain ⟨j, hj, hown, hb⟩ := hrel
    have HO := hide hown
    have HB := hide hb
    have hlen : ([kind, bs.length] ++ bs ++ List.replicate j 0).length = 2 + bs.length + j := by simp; omega
    obtain ⟨ao2, cap2, rfl⟩ := hown.form
    rw [hlen] at *
    clear hown hb
    cases gk with
    | zero =>
      have hj' : j = 122 - bs.length := by omega
      have hn : ((2 + bs.length + j : Nat) : Int) = 124 := by omega
      have HBD : Hid ([kind, bs.length] ++ bs ++ List.replicate j 0 = body kind bs) := by show _ = _; rw [hj']; simp [body]
      rw [HBD.out] at HO
      have h124 : 2 + bs.length + j = 124 := by omega
      rw [h124] at HO ⊢
      have HRS := hide (rsum_any _ _ _ HO.out.bytes)
      have HF : Hid (frameOf kind bs = body kind bs ++ be 4 (crc (body kind bs))) := rfl
      have hbl : (body kind bs).length = 124 := body_length hl
      have HBL := hide hbl
      have hc := crc_lt (body kind bs)
      have HNU := hide (number_any (crc (body kind bs)) 4 (by decide) (by omega) wr)
      generalize crc (body kind bs) = c at HRS HF HNU hc
      clear hbl hlen h124 hn hj hj'
      go_wp2_with (go_at_call 11; refine HRS.out.mono ?_; rintro e w' ⟨rfl, rfl⟩)
      refine HNU.out.mono ?_
      rintro e w2 ⟨u2, rfl, hou, hb2⟩
      have HOU := hide hou
      have HB2 := hide (HB.out.trans (hb2.mono HB.out.size))
      have HO2 := hide (HO.out.below hb2)
      obtain ⟨ao3, n3, cap3, rfl⟩ := hou.form'
      clear hou hb2
      go_wp2_with (at_builtin; refine wpList_append_bytes rfl _ _ rfl w.heap.size _ _ (body kind bs) (be 4 c) rfl rfl HO2.out HOU.out.bytes (by rw [HBL.out, be_length]; decide) HB2.out.size ?_)
      intro v' w' ho hg hat
      have HO3 := hide ho
      have HB3 := hide (HB2.out.grown hg HB2.out.size (fun k hk => (HO2.out.lt k hk).1))
      obtain ⟨ao4, n4, cap4, rfl⟩ := ho.form'
      clear ho hg hat
      go_wp2
      go_ret
      exact ⟨_, rfl, by rw [HF.out]; exact HO3.out, HB3.out⟩
    | succ m =>
      have hn : ((2 + bs.length + j : Nat) : Int) < 124 := by omega
      have HJ := hide hj
      generalize hN : 2 + bs.length + j = N at *
      have HNN := hide hN
      clear hlen hN
      go_wp2_with (at_builtin; refine wpList_append_bytes rfl _ _ rfl w.heap.size _ _ _ [0] rfl rfl (HO.out.below ((Below.refl _ _).alloc (Nat.le_refl _) _)) (lit_bytes wr [0] (by simp) (by simp)) (by have := HNN.out; simp; omega) (by have := HB.out.size; simp; omega) ?_)
      intro v' w' ho hg hat
      have HO3 := hide ho
      have HB3 := hide ((HB.out.alloc HB.out.size (.cells (cellsB [0]).toArray 5)).grown hg (by have := HB.out.size; simp; omega) (fun k hk => (HO.out.lt k hk).1))
      obtain ⟨ao4, n4, cap4, rfl⟩ := ho.form'
      clear ho hg hat
      go_wp2
      go_roundg m
      case measure => omega
      case rel => exact ⟨j + 1, by have := HJ.out; omega, by have := HO3.out; simpa [List.replicate_succ'] using this, HB3.out⟩
end Go.Proofs.YtlgmfiboekmhkaaDoor
