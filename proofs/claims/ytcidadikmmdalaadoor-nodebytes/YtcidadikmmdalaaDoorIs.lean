/- Insert. -/
import Derived.Test.YtcidadikmmdalaaDoorRw
namespace Go.Proofs.YtcidadikmmdalaaDoor
open Go.RowKit Go.Extern

/-- What a call leaves that tells pairs. -/
def Gave (B : Nat) (w : World) (l : List En) (e : Ending) (w' : World) : Prop := ∃ v, e = .returned v ∧ Ents w' v l ∧ Below B w w'

theorem lay_app (a b ms : List En) : lay (a ++ b) a.length ms = a ++ ms ++ b.drop ms.length := by
  unfold lay
  rw [List.take_left, List.drop_append, List.drop_of_length_le (by omega), Nat.add_sub_cancel_left]; simp

set_option maxRecDepth 100000 in
set_option maxHeartbeats 1000000 in
theorem insert_any {w : World} {g n : Nat} {l : List En} (hr : RowE w g l) (hl : l.length = n) (hn : n ≤ 200) (hok : ∀ p ∈ l, enOk p) {gv : Nat} {p : En} (hv : RowE w gv [p]) (hp : enOk p) {i : Nat} (hi : i ≤ n) {B : Nat} (hB : B ≤ g) :
    Calls Tryd.prog 40 #[.slice (some ⟨g, 0, none⟩) n n, .int .i64 (i : Int), .slice (some ⟨gv, 0, none⟩) 1 1] w (Gave B w (l.take i ++ p :: l.drop i)) := by
  have HR := hide hr
  have HV := hide hv
  have HOK := hide hok
  have HP := hide hp
  have HL := hide hl
  by_cases he : i = n
  · subst he
    have e0 : l.take i ++ p :: l.drop i = l ++ [p] := by rw [List.take_of_length_le (by omega), List.drop_of_length_le (by omega)]
    have hO : OwnE 56 w B (.slice (some ⟨g, 0, none⟩) i i) l := by have := hr.own hB hok (by omega); rw [hl] at this; exact this
    have hX : Ents w (.slice (some ⟨gv, 0, none⟩) 1 1) [p] := by have := RowE.head (r := []) (l := [p]) (by simpa using hv) (by simpa using hp) (by simp) (n := 1) (C := 1) rfl (Nat.le_refl _) (by unfold maxLen; omega); exact this
    obtain ⟨v', w', hap, hg⟩ := append_e w 53 B _ _ l [p] hO hX (by simp; omega) (by have := hr.lt; omega)
    rw [e0]
    have HG := hide hg
    have HBW : Hid (Below B w w') := hide (hg.below (by have := hr.lt; omega) (fun k hk => (hO.lt k hk).1))
    obtain ⟨a2, n2, c2, rfl, -⟩ := hg.own.form
    clear hr hv hok hp hl hO hX hg e0
    go_enter Tryd.func40, Tryd.ntmps40
    go_wp2_with (at_builtin; refine wpList_append_eq rfl _ _ rfl rfl rfl hap ?_)
    go_ret
    exact ⟨_, rfl, HG.out.own.ents, HBW.out⟩
  · have hin : i < n := by omega
    obtain ⟨k, hk⟩ : ∃ k, n + 1 - i = k := ⟨_, rfl⟩
    obtain ⟨C, hC1, hC2, hap⟩ := run_growE hr hl hi hn (k := k) (by omega) (by omega) 53
    rw [show (k : Int) = (n : Int) + 1 - (i : Int) by omega] at hap
    have hr1 : RowE (w.drew.alloc (.cells (cellsE (l.take i ++ List.replicate (C - i) ((0, 0) : En))).toArray 56)) w.heap.size (l.take i ++ List.replicate (C - i) ((0, 0) : En)) := heap_alloc_new w.drew _
    have hb1 : Below w.heap.size w (w.drew.alloc (.cells (cellsE (l.take i ++ List.replicate (C - i) ((0, 0) : En))).toArray 56)) := (below_drew0 w).alloc (Nat.le_refl _) _
    obtain ⟨w1, hw1⟩ : ∃ w1, w.drew.alloc (.cells (cellsE (l.take i ++ List.replicate (C - i) ((0, 0) : En))).toArray 56) = w1 := ⟨_, rfl⟩
    rw [hw1] at hap hr1 hb1
    clear hw1
    have hgl := hr.lt
    have hvl := hv.lt
    have hvl1 : RowE w1 gv [p] := hv.below hb1
    have hgl1 : RowE w1 g l := hr.below hb1
    have hlt : (l.take i).length = i := by simp; omega
    have hcp1 := run_copyE hr1 (o := i) (dLen := k) (dCap := C - i) (sLen := 1) (sCap := 1) (a := ⟨gv, 0, none⟩) (ms := [p]) (by have := hvl1.src0 1; simpa using this) (by simp [Nat.min_def]; omega) (by simp; omega) 3
    have e1 : lay (l.take i ++ List.replicate (C - i) ((0, 0) : En)) i [p] = l.take i ++ p :: List.replicate (C - i - 1) (0, 0) := by
      have := lay_app (l.take i) (List.replicate (C - i) ((0, 0) : En)) [p]
      rw [hlt] at this
      rw [this]; simp
    rw [e1] at hcp1
    have hr2 : RowE (putE w1 w.heap.size (l.take i ++ p :: List.replicate (C - i - 1) ((0, 0) : En))) w.heap.size (l.take i ++ p :: List.replicate (C - i - 1) (0, 0)) := putE_row hr1 _
    have hgl2 : RowE (putE w1 w.heap.size (l.take i ++ p :: List.replicate (C - i - 1) ((0, 0) : En))) g l := by unfold RowE; rw [putE_other _ (by omega)]; exact hgl1
    have hb2 := putE_below hb1 (Nat.le_refl _) (l.take i ++ p :: List.replicate (C - i - 1) ((0, 0) : En))
    obtain ⟨w2, hw2⟩ : ∃ w2, putE w1 w.heap.size (l.take i ++ p :: List.replicate (C - i - 1) ((0, 0) : En)) = w2 := ⟨_, rfl⟩
    rw [hw2] at hcp1 hr2 hgl2 hb2
    clear hw2
    have hcp2 := run_copyE hr2.drew (o := i + 1) (dLen := i + k - (i + 1)) (dCap := C - (i + 1)) (sLen := n - i) (sCap := n - i) (a := ⟨g, i * 2, none⟩) (ms := l.drop i) (by have := hgl2.drew.src i (n - i); rwa [List.take_of_length_le (by simp; omega)] at this) (by rw [List.length_drop, hl]; exact (Nat.min_eq_left (by omega)).symm) (by simp; omega) 3
    have e2 : lay (l.take i ++ p :: List.replicate (C - i - 1) ((0, 0) : En)) (i + 1) (l.drop i) = l.take i ++ p :: l.drop i ++ List.replicate (C - n - 1) (0, 0) := by
      have := lay_app (l.take i ++ [p]) (List.replicate (C - i - 1) ((0, 0) : En)) (l.drop i)
      rw [show (l.take i ++ [p]).length = i + 1 by simp; omega] at this
      rw [show l.take i ++ p :: List.replicate (C - i - 1) ((0, 0) : En) = l.take i ++ [p] ++ List.replicate (C - i - 1) (0, 0) by simp, this]
      simp
      omega
    rw [e2] at hcp2
    have hr3 : RowE (putE w2.drew w.heap.size (l.take i ++ p :: l.drop i ++ List.replicate (C - n - 1) ((0, 0) : En))) w.heap.size (l.take i ++ p :: l.drop i ++ List.replicate (C - n - 1) (0, 0)) := putE_row hr2.drew _
    have hb3 := putE_below hb2.drew (Nat.le_refl _) (l.take i ++ p :: l.drop i ++ List.replicate (C - n - 1) ((0, 0) : En))
    have HE3 := hide (RowE.head hr3 (n := i + k) (C := C) (fun q hq => by
      rcases List.mem_append.1 hq with h | h
      · exact hok q (List.mem_of_mem_take h)
      · rcases List.mem_cons.1 h with rfl | h
        · exact hp
        · exact hok q (List.mem_of_mem_drop h)) (by simp; omega) (by simp; omega) hC1 hC2)
    have HB3 := hide hb3
    obtain ⟨w3, hw3⟩ : ∃ w3, putE w2.drew w.heap.size (l.take i ++ p :: l.drop i ++ List.replicate (C - n - 1) ((0, 0) : En)) = w3 := ⟨_, rfl⟩
    rw [hw3] at hcp2 HE3 HB3
    have hadd : (i : Int) + 1 = ((i + 1 : Nat) : Int) := by omega
    have hf1 : i + 1 ≤ i + k := by omega
    have hf2 : C ≠ i + 1 := by omega
    have hf3 : n ≠ i := by omega
    have hci : ¬ C = i := by omega
    have HADD := hide hadd
    have HF1 := hide hf1
    have HF2 := hide hf2
    have HF3 := hide hf3
    have HC2 := hide hcp2
    have HFK := hide hk
    clear hr hv hok hp hl hw3 hr3 hb3 e1 e2 hr1 hr2 hb1 hb2 hvl hvl1 hgl1 hgl2 hlt hadd hf1 hk hf2 hcp2
    go_enter Tryd.func40, Tryd.ntmps40
    go_wp2_with (first
      | (at_builtin; refine wpList_append2_eq rfl _ _ rfl rfl rfl hap ?_; clear hap)
      | (at_builtin; refine wpList_copy_eq rfl _ _ rfl rfl rfl hcp1 ?_; clear hcp1))
    have hadd := HADD.out
    have hf1 := HF1.out
    have hf2 := HF2.out
    have hcp2 := HC2.out
    refine wp_region_held_drew (S := fun _ => True) (by kernel_rfl) trivial (fun _ => ?_)
    refine take_want 0 (some 46) (.slice (some ⟨w.heap.size, 0, none⟩) (i + k) C) rfl rfl rfl (by kernel_rfl) (by kernel_rfl) (by kernel_rfl) (fun _ _ _ h => h) (fun wx hx => exec_move rfl rfl) trivial ?_
    simp only [Act.put, List.setIfInBounds_toArray, List.set_cons_zero, List.set_cons_succ]
    refine take_want 1 (some 47) (.int .i64 (i : Int)) rfl rfl rfl (by kernel_rfl) (by kernel_rfl) (by kernel_rfl) (fun _ _ _ h => h) (fun wx hx => exec_move rfl rfl) trivial ?_
    simp only [Act.put, List.setIfInBounds_toArray, List.set_cons_zero, List.set_cons_succ]
    refine take_want 2 (some 48) (.int .i64 1) rfl rfl rfl (by kernel_rfl) (by kernel_rfl) (by kernel_rfl) (fun _ _ _ h => h) (fun wx hx => exec_move rfl rfl) trivial ?_
    simp only [Act.put, List.setIfInBounds_toArray, List.set_cons_zero, List.set_cons_succ]
    refine take_want 3 (some 49) (.int .i64 ((i + 1 : Nat) : Int)) rfl rfl rfl (by kernel_rfl) (by kernel_rfl) (by kernel_rfl) (fun _ _ _ h => h) (fun wx hx => exec_addN rfl rfl rfl hadd (by omega) (by omega)) trivial ?_
    simp only [Act.put, List.setIfInBounds_toArray, List.set_cons_zero, List.set_cons_succ]
    refine take_want 4 (some 50) (.slice (some ⟨w.heap.size, (i + 1) * 2, none⟩) (i + k - (i + 1)) (C - (i + 1))) rfl rfl rfl (by kernel_rfl) (by kernel_rfl) (by kernel_rfl) (fun _ _ _ h => h) (fun wx hx => exec_slice_l rfl ((run_sliceAt_slice wx _ _ _ _ _ underP).trans (slice_from0 hf1 hf2 wx)) rfl rfl) trivial ?_
    simp only [Act.put, List.setIfInBounds_toArray, List.set_cons_zero, List.set_cons_succ]
    refine take_want 5 (some 51) (.slice (some ⟨g, 0, none⟩) n n) rfl rfl rfl (by kernel_rfl) (by kernel_rfl) (by kernel_rfl) (fun _ _ _ h => h) (fun wx hx => exec_move rfl rfl) trivial ?_
    simp only [Act.put, List.setIfInBounds_toArray, List.set_cons_zero, List.set_cons_succ]
    refine take_want 6 (some 52) (.int .i64 (i : Int)) rfl rfl rfl (by kernel_rfl) (by kernel_rfl) (by kernel_rfl) (fun _ _ _ h => h) (fun wx hx => exec_move rfl rfl) trivial ?_
    simp only [Act.put, List.setIfInBounds_toArray, List.set_cons_zero, List.set_cons_succ]
    refine take_want 7 (some 53) (.slice (some ⟨g, i * 2, none⟩) (n - i) (n - i)) rfl rfl rfl (by kernel_rfl) (by kernel_rfl) (by kernel_rfl) (fun _ _ _ h => h) (fun wx hx => exec_slice_l rfl ((run_sliceAt_slice wx _ _ _ _ _ underP).trans (slice_from0 hi hf3 wx)) rfl rfl) trivial ?_
    simp only [Act.put, List.setIfInBounds_toArray, List.set_cons_zero, List.set_cons_succ]
    refine only_value 8 (some 54) rfl rfl rfl (by kernel_rfl) (exec_copy rfl hcp2 rfl rfl) trivial ?_
    simp only [Act.put, List.setIfInBounds_toArray, List.set_cons_zero, List.set_cons_succ]
    refine wpAnyH_done (by kernel_rfl) ?_ _
    go_wp2_with fail
    go_ret
    exact ⟨_, rfl, HE3.out, HB3.out.mono (by omega)⟩
end Go.Proofs.YtcidadikmmdalaaDoor
