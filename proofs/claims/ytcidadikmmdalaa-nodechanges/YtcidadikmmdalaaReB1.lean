/- Replace. -/
import Derived.Test.YtcidadikmmdalaaRe0
namespace Go.Proofs.Ytcidadikmmdalaa
open Go.RowKit Go.Extern

set_option maxRecDepth 100000 in
set_option maxHeartbeats 1000000 in
theorem replace_B1 {w : World} {g n : Nat} {l : List En} (hr : RowE w g l) (hl : l.length = n) (hn : n ≤ 200) (hok : ∀ p ∈ l, enOk p) {i j : Nat} (hj : i + 1 = j) (hjn0 : j < n) {a : Addr} {cv : Nat} {ms : List En} (hs : SrcE w a ms) (hc : ms.length = 1) (hmo : ∀ p ∈ ms, enOk p) {B : Nat} (hB : B ≤ g) :
    Calls Try.prog 34 #[.slice (some ⟨g, 0, none⟩) n n, .int .i64 (i : Int), .int .i64 (j : Int), .slice (some a) 1 cv] w (Gave B w (l.take i ++ ms ++ l.drop j)) := by
  obtain ⟨tot, htot⟩ : ∃ t, n - 1 + 1 = t := ⟨_, rfl⟩
  have hlt : (l.take i).length = i := by simp; omega
  have hii : ¬ ((i : Int) = (j : Int)) := by omega
  have hii2 : ¬ (i = j) := by omega
  have hle : (i : Int) ≤ (j : Int) := by omega
  have hjn : (j : Int) ≤ (n : Int) := by omega
  have hcp1 := run_copyE hr.drew (o := i) (dLen := tot - i) (dCap := n - i) (sLen := 1) (sCap := cv) hs.drew (by rw [hc]; exact (Nat.min_eq_left (by omega)).symm) (by rw [hc, hl]; omega) 3
  have hll : (lay l i ms).length = n := by rw [lay_length (by rw [hc, hl]; omega), hl]
  have hr2 : RowE (putE w.drew g (lay l i ms)) g (lay l i ms) := putE_row hr.drew _
  have hb2 : Below B w (putE w.drew g (lay l i ms)) := putE_below ((Below.refl B w).drew) hB _
  have hdr : (lay l i ms).drop j = l.drop j := lay_drop (by omega) (by omega)
  obtain ⟨w2, hw2⟩ : ∃ x, putE w.drew g (lay l i ms) = x := ⟨_, rfl⟩
  rw [hw2] at hcp1 hr2 hb2
  have hsr2 : SrcE w2.drew ⟨g, j * 2, none⟩ (l.drop j) := by
    have := hr2.drew.src j (n - j)
    rwa [hdr, List.take_of_length_le (by simp; omega)] at this
  have hcp2 := run_copyE hr2.drew (o := i + 1) (dLen := tot - (i + 1)) (dCap := n - (i + 1)) (sLen := n - j) (sCap := n - j) hsr2 (by rw [List.length_drop, hl]; exact (Nat.min_eq_left (by omega)).symm) (by rw [hll, List.length_drop, hl]; omega) 3
  have htl : (l.take i ++ ms ++ l.drop j).length = tot := by simp [hc]; omega
  have e2 : lay (lay l i ms) (i + 1) (l.drop j) = (l.take i ++ ms ++ l.drop j) ++ l.drop tot := by
    have h1 := lay_app (l.take i ++ ms) (l.drop (i + ms.length)) (l.drop j)
    rw [show (l.take i ++ ms).length = i + 1 by simp [hc]; omega] at h1
    rw [show lay l i ms = l.take i ++ ms ++ l.drop (i + ms.length) from rfl, h1, List.drop_drop]
    congr 2
    rw [List.length_drop, hc, hl]; omega
  rw [e2] at hcp2
  have hr3 := putE_row hr2.drew ((l.take i ++ ms ++ l.drop j) ++ l.drop tot)
  have hb3 := putE_below hb2.drew hB ((l.take i ++ ms ++ l.drop j) ++ l.drop tot)
  obtain ⟨w3, hw3⟩ : ∃ x, putE w2.drew g ((l.take i ++ ms ++ l.drop j) ++ l.drop tot) = x := ⟨_, rfl⟩
  rw [hw3] at hcp2 hr3 hb3
  have hcl := run_clear0 (w := w3) (a := ⟨g, 0, none⟩) (c := 0) 0
  have HE := hide (RowE.head hr3 (n := tot) (C := n) (ok_join hok hmo) (by omega) htl.symm (by omega) (by unfold maxLen; omega))
  have HB4 := hide hb3
  have hj1 : ¬ ((j : Int) = (n : Int)) := by omega
  have hj2 : ¬ (j = n) := by omega
  have ht1 : ¬ (n : Int) < (tot : Int) := by omega
  have ht2 : (tot : Int) ≤ (n : Int) := by omega
  have hil : (i : Int) ≤ (tot : Int) := by omega
  have hni : ¬ n = i := by omega
  have htn : n = tot := by omega
  have HCP2 := hide hcp2
  have HJ := hide hj
  have HJN := hide hjn0
  have HT := hide htot
  clear hr hl hok hs hc hmo hw2 hw3 hr2 hb2 hr3 hb3 hdr hsr2 htl e2 hll hlt hcp2 htot hj
  have HTN := hide htn
  clear htn
  go_enter Try.func34, Try.ntmps34
  go_wp2_with fail
  have hj := HJ.out
  have htot := HT.out
  refine wp_region_held_drew (S := fun _ => True) (by kernel_rfl) trivial (fun _ => ?_)
  refine take_want 0 (some 45) (.slice (some ⟨g, 0, none⟩) n n) rfl rfl rfl (by kernel_rfl) (by kernel_rfl) (by kernel_rfl) (fun _ _ _ h => h) (fun wx hx => exec_move rfl rfl) trivial ?_
  simp only [Act.put, List.setIfInBounds_toArray, List.set_cons_zero, List.set_cons_succ]
  refine take_want 1 (some 46) (.int .i64 (i : Int)) rfl rfl rfl (by kernel_rfl) (by kernel_rfl) (by kernel_rfl) (fun _ _ _ h => h) (fun wx hx => exec_move rfl rfl) trivial ?_
  simp only [Act.put, List.setIfInBounds_toArray, List.set_cons_zero, List.set_cons_succ]
  refine take_want 2 (some 47) (.slice (some ⟨g, 0, none⟩) i n) rfl rfl rfl (by kernel_rfl) (by kernel_rfl) (by kernel_rfl) (fun _ _ _ h => h) (fun wx hx => exec_slice_h rfl ((run_sliceAt_slice wx _ _ _ _ _ underP).trans (slice_to (by omega) wx)) rfl rfl) trivial ?_
  simp only [Act.put, List.setIfInBounds_toArray, List.set_cons_zero, List.set_cons_succ]
  refine take_want 3 (some 48) (.int .i64 (i : Int)) rfl rfl rfl (by kernel_rfl) (by kernel_rfl) (by kernel_rfl) (fun _ _ _ h => h) (fun wx hx => exec_len rfl (len_pairs _ _ _ _) rfl) trivial ?_
  simp only [Act.put, List.setIfInBounds_toArray, List.set_cons_zero, List.set_cons_succ]
  refine take_want 4 (some 49) (.slice (some a) 1 cv) rfl rfl rfl (by kernel_rfl) (by kernel_rfl) (by kernel_rfl) (fun _ _ _ h => h) (fun wx hx => exec_move rfl rfl) trivial ?_
  simp only [Act.put, List.setIfInBounds_toArray, List.set_cons_zero, List.set_cons_succ]
  refine take_want 5 (some 50) (.int .i64 ((1 : Nat) : Int)) rfl rfl rfl (by kernel_rfl) (by kernel_rfl) (by kernel_rfl) (fun _ _ _ h => h) (fun wx hx => exec_len rfl (len_pairs _ _ _ _) rfl) trivial ?_
  simp only [Act.put, List.setIfInBounds_toArray, List.set_cons_zero, List.set_cons_succ]
  refine take_want 6 (some 51) (.int .i64 ((i + 1 : Nat) : Int)) rfl rfl rfl (by kernel_rfl) (by kernel_rfl) (by kernel_rfl) (fun _ _ _ h => h) (fun wx hx => exec_addN rfl rfl rfl (by omega) (by omega) (by omega)) trivial ?_
  simp only [Act.put, List.setIfInBounds_toArray, List.set_cons_zero, List.set_cons_succ]
  refine take_want 7 (some 52) (.slice (some ⟨g, 0, none⟩) n n) rfl rfl rfl (by kernel_rfl) (by kernel_rfl) (by kernel_rfl) (fun _ _ _ h => h) (fun wx hx => exec_move rfl rfl) trivial ?_
  simp only [Act.put, List.setIfInBounds_toArray, List.set_cons_zero, List.set_cons_succ]
  refine take_want 8 (some 53) (.int .i64 (j : Int)) rfl rfl rfl (by kernel_rfl) (by kernel_rfl) (by kernel_rfl) (fun _ _ _ h => h) (fun wx hx => exec_move rfl rfl) trivial ?_
  simp only [Act.put, List.setIfInBounds_toArray, List.set_cons_zero, List.set_cons_succ]
  refine take_want 9 (some 54) (.slice (some ⟨g, j * 2, none⟩) (n - j) (n - j)) rfl rfl rfl (by kernel_rfl) (by kernel_rfl) (by kernel_rfl) (fun _ _ _ h => h) (fun wx hx => exec_slice_l rfl ((run_sliceAt_slice wx _ _ _ _ _ underP).trans (slice_from0 (by omega) (by omega) wx)) rfl rfl) trivial ?_
  simp only [Act.put, List.setIfInBounds_toArray, List.set_cons_zero, List.set_cons_succ]
  refine take_want 10 (some 55) (.int .i64 ((n - j : Nat) : Int)) rfl rfl rfl (by kernel_rfl) (by kernel_rfl) (by kernel_rfl) (fun _ _ _ h => h) (fun wx hx => exec_len rfl (len_pairs _ _ _ _) rfl) trivial ?_
  simp only [Act.put, List.setIfInBounds_toArray, List.set_cons_zero, List.set_cons_succ]
  refine take_want 11 (some 56) (.int .i64 (tot : Int)) rfl rfl rfl (by kernel_rfl) (by kernel_rfl) (by kernel_rfl) (fun _ _ _ h => h) (fun wx hx => exec_addN rfl rfl rfl (by omega) (by omega) (by omega)) trivial ?_
  simp only [Act.put, List.setIfInBounds_toArray, List.set_cons_zero, List.set_cons_succ]
  refine take_want 12 (some 10) (.int .i64 (tot : Int)) rfl rfl rfl (by kernel_rfl) (by kernel_rfl) (by kernel_rfl) (fun _ _ _ h => h) (fun wx hx => exec_assign rfl rfl) trivial ?_
  simp only [Act.put, List.setIfInBounds_toArray, List.set_cons_zero, List.set_cons_succ]
  refine wpAnyH_done (by kernel_rfl) ?_ _
  clear hj htot
  go_wp2_with (at_builtin; refine wpList_copy_eq rfl _ _ rfl rfl rfl hcp1 ?_; clear hcp1)
  have hj := HJ.out
  have htot := HT.out
  have hcp2 := HCP2.out
  refine wp_region_held_drew (S := fun _ => True) (by kernel_rfl) trivial (fun _ => ?_)
  refine take_want 0 (some 98) (.slice (some ⟨g, 0, none⟩) tot n) rfl rfl rfl (by kernel_rfl) (by kernel_rfl) (by kernel_rfl) (fun _ _ _ h => h) (fun wx hx => exec_move rfl rfl) trivial ?_
  simp only [Act.put, List.setIfInBounds_toArray, List.set_cons_zero, List.set_cons_succ]
  refine take_want 1 (some 99) (.int .i64 (i : Int)) rfl rfl rfl (by kernel_rfl) (by kernel_rfl) (by kernel_rfl) (fun _ _ _ h => h) (fun wx hx => exec_move rfl rfl) trivial ?_
  simp only [Act.put, List.setIfInBounds_toArray, List.set_cons_zero, List.set_cons_succ]
  refine take_want 2 (some 100) (.slice (some a) 1 cv) rfl rfl rfl (by kernel_rfl) (by kernel_rfl) (by kernel_rfl) (fun _ _ _ h => h) (fun wx hx => exec_move rfl rfl) trivial ?_
  simp only [Act.put, List.setIfInBounds_toArray, List.set_cons_zero, List.set_cons_succ]
  refine take_want 3 (some 101) (.int .i64 ((1 : Nat) : Int)) rfl rfl rfl (by kernel_rfl) (by kernel_rfl) (by kernel_rfl) (fun _ _ _ h => h) (fun wx hx => exec_len rfl (len_pairs _ _ _ _) rfl) trivial ?_
  simp only [Act.put, List.setIfInBounds_toArray, List.set_cons_zero, List.set_cons_succ]
  refine take_want 4 (some 102) (.int .i64 ((i + 1 : Nat) : Int)) rfl rfl rfl (by kernel_rfl) (by kernel_rfl) (by kernel_rfl) (fun _ _ _ h => h) (fun wx hx => exec_addN rfl rfl rfl (by omega) (by omega) (by omega)) trivial ?_
  simp only [Act.put, List.setIfInBounds_toArray, List.set_cons_zero, List.set_cons_succ]
  refine take_want 5 (some 103) (.slice (some ⟨g, (i + 1) * 2, none⟩) (tot - (i + 1)) (n - (i + 1))) rfl rfl rfl (by kernel_rfl) (by kernel_rfl) (by kernel_rfl) (fun _ _ _ h => h) (fun wx hx => exec_slice_l rfl ((run_sliceAt_slice wx _ _ _ _ _ underP).trans (slice_from0 (by omega) (by omega) wx)) rfl rfl) trivial ?_
  simp only [Act.put, List.setIfInBounds_toArray, List.set_cons_zero, List.set_cons_succ]
  refine take_want 6 (some 104) (.slice (some ⟨g, 0, none⟩) n n) rfl rfl rfl (by kernel_rfl) (by kernel_rfl) (by kernel_rfl) (fun _ _ _ h => h) (fun wx hx => exec_move rfl rfl) trivial ?_
  simp only [Act.put, List.setIfInBounds_toArray, List.set_cons_zero, List.set_cons_succ]
  refine take_want 7 (some 105) (.int .i64 (j : Int)) rfl rfl rfl (by kernel_rfl) (by kernel_rfl) (by kernel_rfl) (fun _ _ _ h => h) (fun wx hx => exec_move rfl rfl) trivial ?_
  simp only [Act.put, List.setIfInBounds_toArray, List.set_cons_zero, List.set_cons_succ]
  refine take_want 8 (some 106) (.slice (some ⟨g, j * 2, none⟩) (n - j) (n - j)) rfl rfl rfl (by kernel_rfl) (by kernel_rfl) (by kernel_rfl) (fun _ _ _ h => h) (fun wx hx => exec_slice_l rfl ((run_sliceAt_slice wx _ _ _ _ _ underP).trans (slice_from0 (by omega) (by omega) wx)) rfl rfl) trivial ?_
  simp only [Act.put, List.setIfInBounds_toArray, List.set_cons_zero, List.set_cons_succ]
  refine only_value 9 (some 107) rfl rfl rfl (by kernel_rfl) (exec_copy rfl hcp2 rfl rfl) trivial ?_
  simp only [Act.put, List.setIfInBounds_toArray, List.set_cons_zero, List.set_cons_succ]
  refine wpAnyH_done (by kernel_rfl) ?_ _
  clear hcp2 hj htot
  obtain rfl := HTN.out
  go_wp2_with (at_builtin; refine wpList_clear_eq rfl _ rfl rfl hcl ?_; clear hcl)
  go_ret
  exact ⟨_, rfl, by first | exact HE.out | (have h := HE.out; simp only [List.append_assoc] at h; exact h), HB4.out⟩
end Go.Proofs.Ytcidadikmmdalaa
