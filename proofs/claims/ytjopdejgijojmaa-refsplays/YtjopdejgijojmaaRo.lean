/- The document's own Of. -/
import Derived.Test.YtjopdejgijojmaaCh0
namespace Go.Proofs.Ytjopdejgijojmaa
open Go.RowKit Go.Extern

set_option maxRecDepth 100000 in
set_option maxHeartbeats 4000000 in
theorem rof_any {F : Nat → Prop} {w : World} {ao : Option Addr} {g off : Nat} {l : List Ref} (hR : RefsAt F w ao g off l) (hl : l.length ≤ 100000) (cap : Nat) (r : Ref) :
    Calls Try.prog 24 #[.slice ao l.length cap, encR r] w fun e w' => e = .returned (.int .i64 (ofS l r.1)) ∧ Below w.heap.size w w' := by
  have HRA := hide hR
  obtain ⟨nl, hnl⟩ : ∃ nl, l.length = nl := ⟨_, rfl⟩
  rw [hnl]
  have ea : encR r = .agg #[.int .i64 r.1.1, .int .i64 r.1.2, .int .i64 r.2] := rfl
  rw [ea]
  obtain ⟨x, hx⟩ : ∃ x, w.heap.size = x := ⟨_, rfl⟩
  obtain ⟨w1, hw1⟩ : ∃ w1, w.alloc (.cells #[.int .i64 r.1.1, .int .i64 r.1.2, .int .i64 r.2] 28) = w1 := ⟨_, rfl⟩
  have HX0 : Hid (BoxR w1 x r) := hide (by rw [← hw1, ← hx]; exact boxR_new _ _ _)
  have HB0 : Hid (Below w.heap.size w w1) := hide (by rw [← hw1]; exact below_box _ _)
  clear hR
  go_enter Try.func24, Try.ntmps24
  go_wp2_with fail
  go_loopg [5] nl (fun k i wr => ∃ (j : Nat), j + k = nl ∧ i = .int .i64 (j : Int) ∧ Hid (∀ q ∈ l.take j, q.1 ≠ r.1) ∧ Hid (Below w1.heap.size w1 wr))
  case atStart => exact ⟨0, by omega, rfl, hide (by simp), hide (Below.refl _ _)⟩
  case round =>
    obtain ⟨j, hj, rfl, HN, HBw⟩ := hrel
    cases gk with
    | zero =>
      have hje : j = nl := by omega
      subst hje
      have hnlt : ¬ ((j : Nat) : Int) < (j : Int) := by omega
      have HZ : Hid (ofS l r.1 = 0) := hide (ofS_out (by
        have := HN.out
        rw [List.take_of_length_le (by omega)] at this
        exact this))
      go_wp2_with fail
      go_ret
      exact ⟨by rw [HZ.out]; rfl, by rw [← hx]; exact below_next HB0.out HBw.out⟩
    | succ m =>
      have hjl : j < nl := by omega
      have hlti : (j : Int) < (nl : Int) := by omega
      have hge : (0 : Int) ≤ (j : Int) := by omega
      obtain ⟨y, hy⟩ : ∃ y, l[j]? = some y := ⟨l[j]'(by omega), by rw [List.getElem?_eq_getElem]⟩
      obtain rfl := HRA.out.ad (by omega)
      have HY := hide hy
      have e7 : IntKind.i64.wrap ((j : Int) + 1) = (j : Int) + 1 := IntWalk.i64_in _ ⟨by omega, by omega⟩
      clear hy
      by_cases hsm0 : y.1 = r.1
      · have hsm : decide (y.1 = r.1) = true := by simpa using hsm0
        have HBX : Hid (BoxR wr x r) := hide (HX0.out.below HBw.out)
        have HRW : Hid (RefsAt F wr (some ⟨g, off, none⟩) g off l) := hide (HRA.out.below (below_next HB0.out HBw.out))
        go_wp2_with fail
        refine wp_region_held_drew (S := Below wr.heap.size wr) (by kernel_rfl) (below_drew0 wr) (fun hS => ?_)
        refine take_want 0 (some 12) (.slice (some ⟨g, off, none⟩) nl cap) rfl rfl rfl (by kernel_rfl) (by kernel_rfl) (by kernel_rfl) (fun _ _ _ h => h) (fun wx hx => exec_move rfl rfl) hS ?_
        simp only [Act.put, List.setIfInBounds_toArray, List.set_cons_zero, List.set_cons_succ]
        refine take_want 1 (some 13) (.int .i64 (j : Int)) rfl rfl rfl (by kernel_rfl) (by kernel_rfl) (by kernel_rfl) (fun _ _ _ h => h) (fun wx hx => exec_move rfl rfl) hS ?_
        simp only [Act.put, List.setIfInBounds_toArray, List.set_cons_zero, List.set_cons_succ]
        refine take_want 2 (some 14) (.pointer (some ⟨g, off + j * 3, none⟩)) rfl rfl rfl (by kernel_rfl) (by kernel_rfl) (by kernel_rfl) (fun _ _ _ h => h) (fun wx hx => exec_index rfl (index_refs hjl) rfl rfl) hS ?_
        simp only [Act.put, List.setIfInBounds_toArray, List.set_cons_zero, List.set_cons_succ]
        refine take_want 3 (some 15) (encR y) rfl rfl rfl (by kernel_rfl) (by kernel_rfl) (by kernel_rfl) (fun _ _ _ h => h) (fun wx hx => exec_load rfl (load_refAt ((HRW.out.below hx).cells j y HY.out)) rfl) hS ?_
        simp only [Act.put, List.setIfInBounds_toArray, List.set_cons_zero, List.set_cons_succ]
        refine take_want 4 (some 16) (encR r) rfl rfl rfl (by kernel_rfl) (by kernel_rfl) (by kernel_rfl) (fun _ _ _ h => h) (fun wx hx => exec_load rfl (HBX.out.below hx).load rfl) hS ?_
        simp only [Act.put, List.setIfInBounds_toArray, List.set_cons_zero, List.set_cons_succ]
        refine call_want 5 (some 17) rfl rfl rfl (by kernel_rfl) (exec_call2 rfl enterOne rfl rfl rfl) ((one_any y r _).mono ?_)
        rintro e' w9 ⟨rfl, hbw⟩
        have hS9 := below_next hS hbw
        clear hbw
        rw [hsm]
        refine ⟨_, rfl, hS9, ?_⟩
        simp only [Act.put, List.setIfInBounds_toArray, List.set_cons_zero, List.set_cons_succ]
        refine wpAnyH_done (by kernel_rfl) ?_ _
        have HBc : Hid (Below w1.heap.size w1 w9) := hide (below_next HBw.out hS9)
        obtain ⟨c1, c2, c3⟩ := (HRA.out.below (below_next HB0.out HBc.out)).cells j y HY.out
        have HOF := hide (ofS_first HY.out HN.out hsm0)
        clear hsm0
        go_wp2_with fail
        go_ret
        exact ⟨by rw [HOF.out]; rfl, below_next HB0.out HBc.out⟩
      · have hsm : decide (y.1 = r.1) = false := by simpa using hsm0
        have HBX : Hid (BoxR wr x r) := hide (HX0.out.below HBw.out)
        have HRW : Hid (RefsAt F wr (some ⟨g, off, none⟩) g off l) := hide (HRA.out.below (below_next HB0.out HBw.out))
        go_wp2_with fail
        refine wp_region_held_drew (S := Below wr.heap.size wr) (by kernel_rfl) (below_drew0 wr) (fun hS => ?_)
        refine take_want 0 (some 12) (.slice (some ⟨g, off, none⟩) nl cap) rfl rfl rfl (by kernel_rfl) (by kernel_rfl) (by kernel_rfl) (fun _ _ _ h => h) (fun wx hx => exec_move rfl rfl) hS ?_
        simp only [Act.put, List.setIfInBounds_toArray, List.set_cons_zero, List.set_cons_succ]
        refine take_want 1 (some 13) (.int .i64 (j : Int)) rfl rfl rfl (by kernel_rfl) (by kernel_rfl) (by kernel_rfl) (fun _ _ _ h => h) (fun wx hx => exec_move rfl rfl) hS ?_
        simp only [Act.put, List.setIfInBounds_toArray, List.set_cons_zero, List.set_cons_succ]
        refine take_want 2 (some 14) (.pointer (some ⟨g, off + j * 3, none⟩)) rfl rfl rfl (by kernel_rfl) (by kernel_rfl) (by kernel_rfl) (fun _ _ _ h => h) (fun wx hx => exec_index rfl (index_refs hjl) rfl rfl) hS ?_
        simp only [Act.put, List.setIfInBounds_toArray, List.set_cons_zero, List.set_cons_succ]
        refine take_want 3 (some 15) (encR y) rfl rfl rfl (by kernel_rfl) (by kernel_rfl) (by kernel_rfl) (fun _ _ _ h => h) (fun wx hx => exec_load rfl (load_refAt ((HRW.out.below hx).cells j y HY.out)) rfl) hS ?_
        simp only [Act.put, List.setIfInBounds_toArray, List.set_cons_zero, List.set_cons_succ]
        refine take_want 4 (some 16) (encR r) rfl rfl rfl (by kernel_rfl) (by kernel_rfl) (by kernel_rfl) (fun _ _ _ h => h) (fun wx hx => exec_load rfl (HBX.out.below hx).load rfl) hS ?_
        simp only [Act.put, List.setIfInBounds_toArray, List.set_cons_zero, List.set_cons_succ]
        refine call_want 5 (some 17) rfl rfl rfl (by kernel_rfl) (exec_call2 rfl enterOne rfl rfl rfl) ((one_any y r _).mono ?_)
        rintro e' w9 ⟨rfl, hbw⟩
        have hS9 := below_next hS hbw
        clear hbw
        rw [hsm]
        refine ⟨_, rfl, hS9, ?_⟩
        simp only [Act.put, List.setIfInBounds_toArray, List.set_cons_zero, List.set_cons_succ]
        refine wpAnyH_done (by kernel_rfl) ?_ _
        have HBc : Hid (Below w1.heap.size w1 w9) := hide (below_next HBw.out hS9)
        have HN2 : Hid (∀ q ∈ l.take (j + 1), q.1 ≠ r.1) := hide (by
          intro q hq
          rw [take_snoc HY.out] at hq
          rcases List.mem_append.1 hq with hq | hq
          · exact HN.out q hq
          · rw [List.mem_singleton.1 hq]; exact hsm0)
        clear hsm0
        go_wp2_with fail
        go_roundg m
        case measure => omega
        case rel => exact ⟨j + 1, by omega, by go_num, HN2, HBc⟩
end Go.Proofs.Ytjopdejgijojmaa
