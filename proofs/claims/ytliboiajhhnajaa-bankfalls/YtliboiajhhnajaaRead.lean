/- Read by its contract. -/
import Derived.Test.YtliboiajhhnajaaChoose
import Derived.Test.YtliboiajhhnajaaErr
namespace Go.Proofs.Ytliboiajhhnajaa
open Go.RowKit Go.Extern

/-- What is read last: what was written last, or what lasts. -/
def Sec.top (s : Sec) : List Nat := s.pick (s.wait.length : Int)
theorem Sec.top_con {s : Sec} (h : GoodSec s) : Con s.top := s.pick_con h _

theorem bytes_of_con {w : World} {g : Nat} {c : List Nat} {t : TypeId} {fr : Nat × Nat} (hc : Con c) (h : w.heap[g]? = some (.cells (conC c) t fr)) : Bytes w (.slice (some ⟨g, 0, none⟩) 128 128) c := by
  refine ⟨some ⟨g, 0, none⟩, 128, g, 0, by rw [hc.1], fun _ => rfl, fun i b hb => ?_, hc.2, by rw [hc.1]; decide, by simp, by rw [hc.1]; exact Nat.le_refl _, by unfold maxLen; decide⟩
  rw [cell_of_row w g _ _ _ _ h, Nat.zero_add]
  unfold conC
  rw [List.getElem?_toArray]
  exact cellsB_get hb

def rErr (S : List Sec) (i : Int) : Int := if hasB S i then (match S[i.toNat]? with | some s => if s.bad then 21 else 0 | none => 0) else 20
def rDat (S : List Sec) (i : Int) : List Nat := if hasB S i then (match S[i.toNat]? with | some s => if s.bad then [] else s.top | none => []) else []
/-- What Read leaves. -/
def Readed (S : List Sec) (i : Int) (w : World) (e : Ending) (w' : World) : Prop := ∃ u, e = .returned (.tuple #[u, errV (rErr S i)]) ∧ Own w' w.heap.size u (rDat S i) ∧ Below w.heap.size w w'

set_option maxRecDepth 100000 in
set_option maxHeartbeats 1000000 in
theorem read_any {w : World} {F : Nat → Prop} {b : Nat} {S : List Sec} (h : Dk w F b S) (i : Int) (hi : I64 i) (hww : ∀ s ∈ S, s.wait.length ≤ 1000000) :
    Calls Try.prog 33 #[.pointer (some ⟨b, 0, none⟩), .int .i64 i] w (Readed S i w) := by
  have HH := hide (has_any h i)
  cases hh : hasB S i with
  | false =>
    rw [hh] at HH
    have HE : Hid (rErr S i = 20 ∧ rDat S i = []) := ⟨by simp [rErr, hh], by simp [rDat, hh]⟩
    clear h hww
    go_enter Try.func33, Try.ntmps33
    go_wp2_with (go_at_call 40; refine HH.out.mono ?_; rintro e w' ⟨rfl, rfl⟩)
    go_ret2
    exact ⟨_, by rw [HE.out.1]; rfl, by rw [HE.out.2]; exact Own.nil _ _, Below.refl _ _⟩
  | true =>
    rw [hh] at HH
    have hb : 0 ≤ i ∧ i < (S.length : Int) := by simpa [hasB] using hh
    obtain ⟨k, rfl⟩ : ∃ k : Nat, i = (k : Int) := ⟨i.toNat, by omega⟩
    obtain ⟨s, hs⟩ : ∃ s, S[k]? = some s := ⟨S[k]'(by omega), by simp⟩
    have HW := hide (waiting_any h hi)
    rw [wt_at hs] at HW
    have hgs := h.good.2 s (List.mem_of_getElem? hs)
    have hwl := hww s (List.mem_of_getElem? hs)
    have HC := hide (choose_any h hs (s.wait.length : Int) (by unfold I64; omega) hwl)
    obtain ⟨v, mb, D, hd⟩ := h
    have c0 := two_cell0 hd.blk
    obtain ⟨g, cap, cur, rfl, -⟩ := ownsRow_pos hd.secs (len_pos hs)
    have cb := cell_bad hd.secs hd.good hs
    have hlt : (k : Int) < (S.length : Int) := hb.2
    have hge : (0 : Int) ≤ (k : Int) := by omega
    cases hbad : s.bad with
    | true =>
      have HE : Hid (rErr S (k : Int) = 21 ∧ rDat S (k : Int) = []) := ⟨by simp [rErr, hh, hs, hbad], by simp [rDat, hh, hs, hbad]⟩
      rw [hbad] at cb
      clear hd hgs HC HW hww
      go_enter Try.func33, Try.ntmps33
      go_wp2_with (go_at_call 40; refine HH.out.mono ?_; rintro e w' ⟨rfl, rfl⟩)
      go_ret2
      exact ⟨_, by rw [HE.out.1]; rfl, by rw [HE.out.2]; exact Own.nil _ _, Below.refl _ _⟩
    | false =>
      have HE : Hid (rErr S (k : Int) = 0 ∧ rDat S (k : Int) = s.top) := ⟨by simp [rErr, hh, hs, hbad], by simp [rDat, hh, hs, hbad]⟩
      rw [hbad] at cb
      have hcon := s.top_con hgs
      have HC' : Hid (Calls Try.prog 42 #[.pointer (some ⟨b, 0, none⟩), .int .i64 (k : Int), .int .i64 (s.wait.length : Int)] w fun e w' => e = .returned (conV s.top) ∧ Below w.heap.size w w') := HC.out
      have HST : Hid (∀ w2 : World, (Instr.storeAt 75 (.pointer (some ⟨w2.heap.size, 0, none⟩)) (conV s.top)).run Try.prog (w2.alloc (.cells Try.zeroCells75 75)) = .ok () (w2.alloc (.cells (conC s.top) 75))) := fun w2 => by rw [zeroC]; exact run_storeC w2 zeros s.top zeros_con hcon
      have HCL : Hid (∀ w2 : World, Bytes (w2.alloc (.cells (conC s.top) 75)) (.slice (some ⟨w2.heap.size, 0, none⟩) 128 128) s.top) := fun w2 => bytes_of_con hcon (heap_alloc_new w2 _)
      have HAL : Hid (∀ w2 : World, Below w.heap.size w w2 → Below w.heap.size w (w2.alloc (.cells (conC s.top) 75)) ∧ w.heap.size ≤ (w2.alloc (.cells (conC s.top) 75)).heap.size) := fun w2 hb => ⟨hb.alloc hb.size _, Nat.le_trans hb.size (by simp)⟩
      generalize s.top = tp at *
      generalize conV tp = cv at *
      generalize conC tp = cc at *
      clear hd hgs HC hww hcon
      go_enter Try.func33, Try.ntmps33
      go_wp2_with (go_at_call 40; refine HH.out.mono ?_; rintro e w' ⟨rfl, rfl⟩)
      refine HW.out.mono ?_
      rintro e w' ⟨rfl, rfl⟩
      go_wp2_with fail
      refine HC'.out.mono ?_
      rintro e w2 ⟨rfl, hb2⟩
      have hst := HST.out w2
      have HB2 := hide (HAL.out w2 hb2)
      have HBY := hide (HCL.out w2)
      clear hb2 HAL HST
      go_wp2_with (first | ((with_reducible refine wpList_store_run rfl rfl hst ?_ ?_ ?_); rfl; rfl) | (go_at_call 44; refine (clone_any tp _ _ HBY.out).mono ?_; rintro e w4 ⟨u, rfl, ho, hb4⟩))
      have HO := hide (ho.base (base' := w'.heap.size) HB2.out.2)
      have HB4 := hide (HB2.out.1.trans (hb4.mono HB2.out.2))
      obtain ⟨ao4, cap4, rfl⟩ := ho.form
      clear ho hb4
      go_ret2
      exact ⟨_, by rw [HE.out.1]; rfl, by rw [HE.out.2]; exact HO.out, HB4.out⟩
end Go.Proofs.Ytliboiajhhnajaa
