/- Replace. -/
import Derived.Test.YtcidadikmmdalaaRe0
namespace Go.Proofs.Ytcidadikmmdalaa
open Go.RowKit Go.Extern

set_option maxRecDepth 100000 in
set_option maxHeartbeats 1000000 in
theorem replace_B2 {w : World} {g n : Nat} {l : List En} (hr : RowE w g l) (hl : l.length = n) (hn : n ≤ 200) (hok : ∀ p ∈ l, enOk p) {i j : Nat} (hj : i + 1 = j) (hjn0 : j < n) {a : Addr} {cv : Nat} {ms : List En} (hs : SrcE w a ms) (hc : ms.length = 2) (hmo : ∀ p ∈ ms, enOk p) {B : Nat} (hB : B ≤ g) :
    Calls Try.prog 34 #[.slice (some ⟨g, 0, none⟩) n n, .int .i64 (i : Int), .int .i64 (j : Int), .slice (some a) 2 cv] w (Gave B w (l.take i ++ ms ++ l.drop j)) := by
  obtain ⟨tot, htot⟩ : ∃ t, n + 1 = t := ⟨_, rfl⟩
  have hlt : (l.take i).length = i := by simp; omega
  have hii : ¬ ((i : Int) = (j : Int)) := by omega
  have hii2 : ¬ (i = j) := by omega
  have hle : (i : Int) ≤ (j : Int) := by omega
  have hjn : (j : Int) ≤ (n : Int) := by omega
  obtain ⟨k, hk⟩ : ∃ k, n + 1 - i = k := ⟨_, rfl⟩
  obtain ⟨C, hC1, hC2, hap⟩ := run_growE hr.drew hl (i := i) (by omega) hn (k := k) (by omega) (by omega) 47
  rw [show (k : Int) = (tot : Int) - (i : Int) by omega] at hap
  have hr1 : RowE (w.drew.drew.alloc (.cells (cellsE (l.take i ++ List.replicate (C - i) ((0, 0) : En))).toArray 50)) w.heap.size (l.take i ++ List.replicate (C - i) ((0, 0) : En)) := heap_alloc_new w.drew.drew _
  have hb1 : Below w.heap.size w (w.drew.drew.alloc (.cells (cellsE (l.take i ++ List.replicate (C - i) ((0, 0) : En))).toArray 50)) := ((below_drew0 w).drew).alloc (Nat.le_refl _) _
  have hap' : (Builtin.append_ #[47, 3] 47 #[.slice (some ⟨g, 0, none⟩) i n, .int .i64 ((tot : Int) - (i : Int))]).run Try.prog w.drew = .ok (.slice (some ⟨w.heap.size, 0, none⟩) (i + k) C) (w.drew.drew.alloc (.cells (cellsE (l.take i ++ List.replicate (C - i) ((0, 0) : En))).toArray 50)) := hap
  obtain ⟨w1, hw1⟩ : ∃ w1, w.drew.drew.alloc (.cells (cellsE (l.take i ++ List.replicate (C - i) ((0, 0) : En))).toArray 50) = w1 := ⟨_, rfl⟩
  rw [hw1] at hap' hr1 hb1
  have hgl := hr.lt
  have hgl1 : RowE w1 g l := hr.below hb1
  have hs1 : SrcE w1 a ms := hs.below hb1
  have hcp1 := run_copyE hr1 (o := i) (dLen := k) (dCap := C - i) (sLen := 2) (sCap := cv) hs1 (by rw [hc]; exact (Nat.min_eq_left (by omega)).symm) (by simp [hc]; omega) 3
  have e1 : lay (l.take i ++ List.replicate (C - i) ((0, 0) : En)) i ms = l.take i ++ ms ++ List.replicate (C - i - 2) (0, 0) := by
    have := lay_app (l.take i) (List.replicate (C - i) ((0, 0) : En)) ms
    rw [hlt] at this
    rw [this, hc]; simp
  rw [e1] at hcp1
  have hr2 : RowE (putE w1 w.heap.size (l.take i ++ ms ++ List.replicate (C - i - 2) ((0, 0) : En))) w.heap.size (l.take i ++ ms ++ List.replicate (C - i - 2) (0, 0)) := putE_row hr1 _
  have hgl2 : RowE (putE w1 w.heap.size (l.take i ++ ms ++ List.replicate (C - i - 2) ((0, 0) : En))) g l := by unfold RowE; rw [putE_other _ (by omega)]; exact hgl1
  have hb2 := putE_below hb1 (Nat.le_refl _) (l.take i ++ ms ++ List.replicate (C - i - 2) ((0, 0) : En))
  obtain ⟨w2, hw2⟩ : ∃ w2, putE w1 w.heap.size (l.take i ++ ms ++ List.replicate (C - i - 2) ((0, 0) : En)) = w2 := ⟨_, rfl⟩
  rw [hw2] at hcp1 hr2 hgl2 hb2
  have hsr2 : SrcE w2.drew ⟨g, j * 2, none⟩ (l.drop j) := by
    have := hgl2.drew.src j (n - j)
    rwa [List.take_of_length_le (by simp; omega)] at this
  have hcp2 := run_copyE hr2.drew (o := i + 2) (dLen := i + k - (i + 2)) (dCap := C - (i + 2)) (sLen := n - j) (sCap := n - j) hsr2 (by rw [List.length_drop, hl]; exact (Nat.min_eq_left (by omega)).symm) (by simp [hc]; omega) 3
  have e2 : lay (l.take i ++ ms ++ List.replicate (C - i - 2) ((0, 0) : En)) (i + 2) (l.drop j) = l.take i ++ ms ++ l.drop j ++ List.replicate (C - i - 2 - (n - j)) (0, 0) := by
    have := lay_app (l.take i ++ ms) (List.replicate (C - i - 2) ((0, 0) : En)) (l.drop j)
    rw [show (l.take i ++ ms).length = i + 2 by simp [hc]; omega] at this
    rw [this, List.length_drop, hl]; simp
  rw [e2] at hcp2
  have hr3 := putE_row hr2.drew (l.take i ++ ms ++ l.drop j ++ List.replicate (C - i - 2 - (n - j)) ((0, 0) : En))
  have hb3 := putE_below hb2.drew (Nat.le_refl _) (l.take i ++ ms ++ l.drop j ++ List.replicate (C - i - 2 - (n - j)) ((0, 0) : En))
  have HE3 := hide (RowE.head hr3 (n := i + k) (C := C) (ok_join hok hmo) (by simp [hc]; omega) (by simp [hc]; omega) hC1 hC2)
  have HB3 := hide hb3
  obtain ⟨w3, hw3⟩ : ∃ w3, putE w2.drew w.heap.size (l.take i ++ ms ++ l.drop j ++ List.replicate (C - i - 2 - (n - j)) ((0, 0) : En)) = w3 := ⟨_, rfl⟩
  rw [hw3] at hcp2 HE3 HB3
  have hj1 : ¬ ((j : Int) = (n : Int)) := by omega
  have hj2 : ¬ (j = n) := by omega
  have ht1 : (n : Int) < (tot : Int) := by omega
  have hci : ¬ C = i := by omega
  have HCP2 := hide hcp2
  have HJ := hide hj
  have HT := hide (And.intro htot hk)
  have HGL := hide hgl
  clear hr hok hs hc hmo hw1 hw2 hw3 hr1 hr2 hr3 hb1 hb2 hb3 e1 e2 hgl1 hgl2 hs1 hsr2 hlt hcp2 htot hj hap hl hk hgl
  go_enter Try.func34, Try.ntmps34
  go_wp2_with fail
  have hj := HJ.out
  obtain ⟨htot, hk⟩ := HT.out
  refine wp_region_held_drew (S := fun _ => True) (by kernel_rfl) trivial (fun _ => ?_)
  refine take_want 0 (some 45) (.slice (some ⟨g, 0, none⟩) n n) rfl rfl rfl (by kernel_rfl) (by kernel_rfl) (by kernel_rfl) (fun _ _ _ h => h) (fun wx hx => exec_move rfl rfl) trivial ?_
  simp only [Act.put, List.setIfInBounds_toArray, List.set_cons_zero, List.set_cons_succ]
  refine take_want 1 (some 46) (.int .i64 (i : Int)) rfl rfl rfl (by kernel_rfl) (by kernel_rfl) (by kernel_rfl) (fun _ _ _ h => h) (fun wx hx => exec_move rfl rfl) trivial ?_
  simp only [Act.put, List.setIfInBounds_toArray, List.set_cons_zero, List.set_cons_succ]
  refine take_want 2 (some 47) (.slice (some ⟨g, 0, none⟩) i n) rfl rfl rfl (by kernel_rfl) (by kernel_rfl) (by kernel_rfl) (fun _ _ _ h => h) (fun wx hx => exec_slice_h rfl ((run_sliceAt_slice wx _ _ _ _ _ underP).trans (slice_to (by omega) wx)) rfl rfl) trivial ?_
  simp only [Act.put, List.setIfInBounds_toArray, List.set_cons_zero, List.set_cons_succ]
  refine take_want 3 (some 48) (.int .i64 (i : Int)) rfl rfl rfl (by kernel_rfl) (by kernel_rfl) (by kernel_rfl) (fun _ _ _ h => h) (fun wx hx => exec_len rfl (len_pairs _ _ _ _) rfl) trivial ?_
  simp only [Act.put, List.setIfInBounds_toArray, List.set_cons_zero, List.set_cons_succ]
  refine take_want 4 (some 49) (.slice (some a) 2 cv) rfl rfl rfl (by kernel_rfl) (by kernel_rfl) (by kernel_rfl) (fun _ _ _ h => h) (fun wx hx => exec_move rfl rfl) trivial ?_
  simp only [Act.put, List.setIfInBounds_toArray, List.set_cons_zero, List.set_cons_succ]
  refine take_want 5 (some 50) (.int .i64 ((2 : Nat) : Int)) rfl rfl rfl (by kernel_rfl) (by kernel_rfl) (by kernel_rfl) (fun _ _ _ h => h) (fun wx hx => exec_len rfl (len_pairs _ _ _ _) rfl) trivial ?_
  simp only [Act.put, List.setIfInBounds_toArray, List.set_cons_zero, List.set_cons_succ]
  refine take_want 6 (some 51) (.int .i64 ((i + 2 : Nat) : Int)) rfl rfl rfl (by kernel_rfl) (by kernel_rfl) (by kernel_rfl) (fun _ _ _ h => h) (fun wx hx => exec_addN rfl rfl rfl (by omega) (by omega) (by omega)) trivial ?_
  simp only [Act.put, List.setIfInBounds_toArray, List.set_cons_zero, List.set_cons_succ]
  refine take_want 7 (some 52) (.slice (some ⟨g, 0, none⟩) n n) rfl rfl rfl (by kernel_rfl) (by kernel_rfl) (by kernel_rfl) (fun _ _ _ h => h) (fun wx hx => exec_move rfl rfl) trivial ?_
  simp only [Act.put, List.setIfInBounds_toArray, List.set_cons_zero, List.set_cons_succ]
  refine take_want 8 (some 53) (.int .i64 (j : Int)) rfl rfl rfl (by kernel_rfl) (by kernel_rfl) (by kernel_rfl) (fun _ _ _ h => h) (fun wx hx => exec_move rfl rfl) trivial ?_
  simp only [Act.put, List.setIfInBounds_toArray, List.set_cons_zero, List.set_cons_succ]
  refine take_want 9 (some 54) (.slice (some ⟨g, j * 2, none⟩) (n - j) (n - j)) rfl rfl rfl (by kernel_rfl) (by kernel_rfl) (by kernel_rfl) (fun _ _ _ h => h) (fun wx hx => exec_slice_l rfl ((run_sliceAt_slice wx _ _ _ _ _ underP).trans (slice_from0 (by omega) (by omega) wx)) rfl rfl) trivial ?_
  simp only [Act.put, List.setIfInBounds_toArray, List.set_cons_zero, List.set_cons_succ]
  refine take_want 10 (some 55) (.int .i64 ((n - j : Nat) : Int)) rfl rfl rfl (by kernel_rfl) (by kernel_rfl) (by kernel_rfl) (fun _ _ _ h => h) (fun wx hx => exec_len rfl (len_pairs _ _ _ _) rfl) trivial ?_
  simp only [Act.put, List.setIfInBounds_toArray, List.set_cons_zero, List.set_cons_succ]
  refine take_want 11 (some 56) (.int .i64 (tot : Int)) rfl rfl rfl (by kernel_rfl) (by kernel_rfl) (by kernel_rfl) (fun _ _ _ h => h) (fun wx hx => exec_addN rfl rfl rfl (by omega) (by omega) (by omega)) trivial ?_
  simp only [Act.put, List.setIfInBounds_toArray, List.set_cons_zero, List.set_cons_succ]
  refine take_want 12 (some 10) (.int .i64 (tot : Int)) rfl rfl rfl (by kernel_rfl) (by kernel_rfl) (by kernel_rfl) (fun _ _ _ h => h) (fun wx hx => exec_assign rfl rfl) trivial ?_
  simp only [Act.put, List.setIfInBounds_toArray, List.set_cons_zero, List.set_cons_succ]
  refine wpAnyH_done (by kernel_rfl) ?_ _
  have e5 : IntKind.i64.wrap ((tot : Int) - (i : Int)) = (tot : Int) - (i : Int) := IntWalk.i64_in _ ⟨by omega, by omega⟩
  clear hj htot hk
  go_wp2_with (first
    | (at_builtin; refine wpList_append2_eq rfl _ _ rfl rfl rfl hap' ?_; clear hap')
    | (at_builtin; refine wpList_copy_eq rfl _ _ rfl rfl rfl hcp1 ?_; clear hcp1))
  have hj := HJ.out
  obtain ⟨htot, hk⟩ := HT.out
  have hcp2 := HCP2.out
  refine wp_region_held_drew (S := fun _ => True) (by kernel_rfl) trivial (fun _ => ?_)
  refine take_want 0 (some 73) (.slice (some ⟨w.heap.size, 0, none⟩) (i + k) C) rfl rfl rfl (by kernel_rfl) (by kernel_rfl) (by kernel_rfl) (fun _ _ _ h => h) (fun wx hx => exec_move rfl rfl) trivial ?_
  simp only [Act.put, List.setIfInBounds_toArray, List.set_cons_zero, List.set_cons_succ]
  refine take_want 1 (some 74) (.int .i64 (i : Int)) rfl rfl rfl (by kernel_rfl) (by kernel_rfl) (by kernel_rfl) (fun _ _ _ h => h) (fun wx hx => exec_move rfl rfl) trivial ?_
  simp only [Act.put, List.setIfInBounds_toArray, List.set_cons_zero, List.set_cons_succ]
  refine take_want 2 (some 75) (.slice (some a) 2 cv) rfl rfl rfl (by kernel_rfl) (by kernel_rfl) (by kernel_rfl) (fun _ _ _ h => h) (fun wx hx => exec_move rfl rfl) trivial ?_
  simp only [Act.put, List.setIfInBounds_toArray, List.set_cons_zero, List.set_cons_succ]
  refine take_want 3 (some 76) (.int .i64 ((2 : Nat) : Int)) rfl rfl rfl (by kernel_rfl) (by kernel_rfl) (by kernel_rfl) (fun _ _ _ h => h) (fun wx hx => exec_len rfl (len_pairs _ _ _ _) rfl) trivial ?_
  simp only [Act.put, List.setIfInBounds_toArray, List.set_cons_zero, List.set_cons_succ]
  refine take_want 4 (some 77) (.int .i64 ((i + 2 : Nat) : Int)) rfl rfl rfl (by kernel_rfl) (by kernel_rfl) (by kernel_rfl) (fun _ _ _ h => h) (fun wx hx => exec_addN rfl rfl rfl (by omega) (by omega) (by omega)) trivial ?_
  simp only [Act.put, List.setIfInBounds_toArray, List.set_cons_zero, List.set_cons_succ]
  refine take_want 5 (some 78) (.slice (some ⟨w.heap.size, (i + 2) * 2, none⟩) (i + k - (i + 2)) (C - (i + 2))) rfl rfl rfl (by kernel_rfl) (by kernel_rfl) (by kernel_rfl) (fun _ _ _ h => h) (fun wx hx => exec_slice_l rfl ((run_sliceAt_slice wx _ _ _ _ _ underP).trans (slice_from0 (by omega) (by omega) wx)) rfl rfl) trivial ?_
  simp only [Act.put, List.setIfInBounds_toArray, List.set_cons_zero, List.set_cons_succ]
  refine take_want 6 (some 79) (.slice (some ⟨g, 0, none⟩) n n) rfl rfl rfl (by kernel_rfl) (by kernel_rfl) (by kernel_rfl) (fun _ _ _ h => h) (fun wx hx => exec_move rfl rfl) trivial ?_
  simp only [Act.put, List.setIfInBounds_toArray, List.set_cons_zero, List.set_cons_succ]
  refine take_want 7 (some 80) (.int .i64 (j : Int)) rfl rfl rfl (by kernel_rfl) (by kernel_rfl) (by kernel_rfl) (fun _ _ _ h => h) (fun wx hx => exec_move rfl rfl) trivial ?_
  simp only [Act.put, List.setIfInBounds_toArray, List.set_cons_zero, List.set_cons_succ]
  refine take_want 8 (some 81) (.slice (some ⟨g, j * 2, none⟩) (n - j) (n - j)) rfl rfl rfl (by kernel_rfl) (by kernel_rfl) (by kernel_rfl) (fun _ _ _ h => h) (fun wx hx => exec_slice_l rfl ((run_sliceAt_slice wx _ _ _ _ _ underP).trans (slice_from0 (by omega) (by omega) wx)) rfl rfl) trivial ?_
  simp only [Act.put, List.setIfInBounds_toArray, List.set_cons_zero, List.set_cons_succ]
  refine only_value 9 (some 82) rfl rfl rfl (by kernel_rfl) (exec_copy rfl hcp2 rfl rfl) trivial ?_
  simp only [Act.put, List.setIfInBounds_toArray, List.set_cons_zero, List.set_cons_succ]
  refine wpAnyH_done (by kernel_rfl) ?_ _
  clear hcp2 hj htot hk
  go_wp2_with fail
  go_ret
  exact ⟨_, rfl, by first | exact HE3.out | simpa only [List.append_assoc] using HE3.out, HB3.out.mono (by have := HGL.out; omega)⟩
end Go.Proofs.Ytcidadikmmdalaa
