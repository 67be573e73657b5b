/- Delete. -/
import Derived.Test.YtcidadikmmdalaaIs
namespace Go.Proofs.Ytcidadikmmdalaa
open Go.RowKit Go.Extern

theorem cut_back {w : World} {g n j : Nat} {l : List En} (hr : RowE w g l) (hl : l.length = n) (hj : j ≤ n) : ∃ a c, (∀ w2, (Instr.slice 47 (.slice (some ⟨g, 0, none⟩) n n) (some (.int .i64 (j : Int))) none none).run Try.prog w2 = .ok (.slice (some a) (n - j) c) w2) ∧ SrcE w a (l.drop j) := by
  by_cases h : j = n
  · subst h
    refine ⟨⟨g, 0, none⟩, 0, fun w2 => ?_, ?_⟩
    · rw [Nat.sub_self]; exact slice_end rfl w2
    · rw [List.drop_of_length_le (by omega)]; exact SrcE.nil _ _
  · refine ⟨⟨g, j * 2, none⟩, n - j, fun w2 => slice_from0 hj (by omega) w2, ?_⟩
    have := hr.src j (n - j)
    rwa [List.take_of_length_le (by simp; omega)] at this
theorem SrcE.drew {w : World} {a : Addr} {ms : List En} (h : SrcE w a ms) : SrcE w.drew a ms := h
theorem SrcE.below {w w' : World} {a : Addr} {ms : List En} (h : SrcE w a ms) (hb : Below w.heap.size w w') : SrcE w' a ms := fun j v hv => cell_bel hb (h j v hv)
theorem ok_join {l ms : List En} {i j : Nat} (hok : ∀ p ∈ l, enOk p) (hm : ∀ p ∈ ms, enOk p) : ∀ p ∈ l.take i ++ ms ++ l.drop j, enOk p := fun q hq => by
  rcases List.mem_append.1 hq with h | h
  · rcases List.mem_append.1 h with h | h
    · exact hok q (List.mem_of_mem_take h)
    · exact hm q h
  · exact hok q (List.mem_of_mem_drop h)

set_option maxRecDepth 100000 in
set_option maxHeartbeats 1000000 in
theorem delete_any {w : World} {g n : Nat} {l : List En} (hr : RowE w g l) (hl : l.length = n) (hn : n ≤ 200) (hok : ∀ p ∈ l, enOk p) {i j : Nat} (hi : i < n) (hj : i + 1 = j) {B : Nat} (hB : B ≤ g) :
    Calls Try.prog 30 #[.slice (some ⟨g, 0, none⟩) n n, .int .i64 (i : Int), .int .i64 (j : Int)] w (Gave B w (l.take i ++ l.drop j)) := by
  obtain ⟨m, hm⟩ : ∃ m, i + (n - j) = m := ⟨_, rfl⟩
  obtain ⟨a, c, hsl, hsrc⟩ := cut_back hr hl (j := j) (by omega)
  have hap := run_roomE hr.drew (i := i) (n := n) (sLen := n - j) (sCap := c) hsrc.drew (by simp; omega) (by omega) (by omega) 47
  rw [hm] at hap
  have e1 : lay l i (l.drop j) = (l.take i ++ l.drop j) ++ l.drop m := by
    unfold lay; rw [show i + (l.drop j).length = m by simp; omega]
  rw [e1] at hap
  have hr1 := putE_row hr.drew ((l.take i ++ l.drop j) ++ l.drop m)
  have hb1 : Below B w (putE w.drew g ((l.take i ++ l.drop j) ++ l.drop m)) := putE_below ((Below.refl B w).drew) hB _
  obtain ⟨w1, hw1⟩ : ∃ w1, putE w.drew g ((l.take i ++ l.drop j) ++ l.drop m) = w1 := ⟨_, rfl⟩
  rw [hw1] at hap hr1 hb1
  clear hw1
  have hml : (l.take i ++ l.drop j).length = m := by simp; omega
  have hcl := run_clearE hr1 (o := m) (n := n - m) (c := n - m) (by omega) (by simp; omega) 0
  have e2 := lay_app (l.take i ++ l.drop j) (l.drop m) (List.replicate (n - m) ((0, 0) : En))
  rw [hml] at e2
  rw [e2] at hcl
  have hr2 := putE_row hr1 (l.take i ++ l.drop j ++ List.replicate (n - m) ((0, 0) : En) ++ (l.drop m).drop (List.replicate (n - m) ((0, 0) : En)).length)
  have hb2 := putE_below hb1 hB (l.take i ++ l.drop j ++ List.replicate (n - m) ((0, 0) : En) ++ (l.drop m).drop (List.replicate (n - m) ((0, 0) : En)).length)
  rw [List.append_assoc (l.take i ++ l.drop j)] at hr2
  have HE := hide (RowE.head hr2 (n := m) (C := n) (by have := ok_join (ms := []) (i := i) (j := j) hok (by simp); simpa using this) (by omega) hml.symm (by omega) (by unfold maxLen; omega))
  have HB2 := hide hb2
  rw [List.append_assoc (l.take i ++ l.drop j)] at hcl HB2
  obtain ⟨w2, hw2⟩ : ∃ w2, putE w1 g (l.take i ++ l.drop j ++ (List.replicate (n - m) ((0, 0) : En) ++ (l.drop m).drop (List.replicate (n - m) ((0, 0) : En)).length)) = w2 := ⟨_, rfl⟩
  rw [hw2] at hcl HE HB2
  have hij : ¬ ((i : Int) = (j : Int)) := by omega
  have hij2 : ¬ (i = j) := by omega
  have hle : (i : Int) ≤ (j : Int) := by omega
  have hjn : (j : Int) ≤ (n : Int) := by omega
  have hmn : ¬ (n = m) := by omega
  have hmn2 : (m : Int) ≤ (n : Int) := by omega
  clear hr hok hw2 hr1 hr2 hb1 hb2 e1 e2 hml
  have HAP := hide hap
  have HSL := hide hsl
  have HM := hide hm
  have HJ := hide hj
  have HI := hide hi
  clear hap hsl hm hj hsrc
  go_enter Try.func30, Try.ntmps30
  go_wp2_with fail
  have hap := HAP.out
  have hsl := HSL.out
  refine wp_region_held_drew (S := fun _ => True) (by kernel_rfl) trivial (fun _ => ?_)
  refine take_want 0 (some 20) (.slice (some ⟨g, 0, none⟩) n n) rfl rfl rfl (by kernel_rfl) (by kernel_rfl) (by kernel_rfl) (fun _ _ _ h => h) (fun wx hx => exec_move rfl rfl) trivial ?_
  simp only [Act.put, List.setIfInBounds_toArray, List.set_cons_zero, List.set_cons_succ]
  refine take_want 1 (some 21) (.int .i64 (i : Int)) rfl rfl rfl (by kernel_rfl) (by kernel_rfl) (by kernel_rfl) (fun _ _ _ h => h) (fun wx hx => exec_move rfl rfl) trivial ?_
  simp only [Act.put, List.setIfInBounds_toArray, List.set_cons_zero, List.set_cons_succ]
  refine take_want 2 (some 22) (.slice (some ⟨g, 0, none⟩) i n) rfl rfl rfl (by kernel_rfl) (by kernel_rfl) (by kernel_rfl) (fun _ _ _ h => h) (fun wx hx => exec_slice_h rfl ((run_sliceAt_slice wx _ _ _ _ _ underP).trans (slice_to (by omega) wx)) rfl rfl) trivial ?_
  simp only [Act.put, List.setIfInBounds_toArray, List.set_cons_zero, List.set_cons_succ]
  refine take_want 3 (some 23) (.slice (some ⟨g, 0, none⟩) n n) rfl rfl rfl (by kernel_rfl) (by kernel_rfl) (by kernel_rfl) (fun _ _ _ h => h) (fun wx hx => exec_move rfl rfl) trivial ?_
  simp only [Act.put, List.setIfInBounds_toArray, List.set_cons_zero, List.set_cons_succ]
  refine take_want 4 (some 24) (.int .i64 (j : Int)) rfl rfl rfl (by kernel_rfl) (by kernel_rfl) (by kernel_rfl) (fun _ _ _ h => h) (fun wx hx => exec_move rfl rfl) trivial ?_
  simp only [Act.put, List.setIfInBounds_toArray, List.set_cons_zero, List.set_cons_succ]
  refine take_want 5 (some 25) (.slice (some a) (n - j) c) rfl rfl rfl (by kernel_rfl) (by kernel_rfl) (by kernel_rfl) (fun _ _ _ h => h) (fun wx hx => exec_slice_l rfl ((run_sliceAt_slice wx _ _ _ _ _ underP).trans (hsl wx)) rfl rfl) trivial ?_
  simp only [Act.put, List.setIfInBounds_toArray, List.set_cons_zero, List.set_cons_succ]
  refine only_value 6 (some 26) rfl rfl rfl (by kernel_rfl) (exec_append rfl hap rfl rfl) trivial ?_
  simp only [Act.put, List.setIfInBounds_toArray, List.set_cons_zero, List.set_cons_succ]
  refine take_want 7 (some 0) (.slice (some ⟨g, 0, none⟩) m n) rfl rfl rfl (by kernel_rfl) (by kernel_rfl) (by kernel_rfl) (fun _ _ _ h => h) (fun wx hx => exec_assign rfl rfl) trivial ?_
  simp only [Act.put, List.setIfInBounds_toArray, List.set_cons_zero]
  refine wpAnyH_done (by kernel_rfl) ?_ _
  clear hap hsl
  go_wp2_with (at_builtin; refine wpList_clear_eq rfl _ rfl rfl hcl ?_)
  go_ret
  exact ⟨_, rfl, HE.out, HB2.out⟩
end Go.Proofs.Ytcidadikmmdalaa
