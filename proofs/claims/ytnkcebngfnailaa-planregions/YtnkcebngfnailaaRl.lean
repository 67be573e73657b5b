/- deviceOf, regionLength. -/
import Derived.Test.YtnkcebngfnailaaLs
import Derived.Test.YtnkcebngfnailaaXe
namespace Go.Proofs.Ytnkcebngfnailaa
open Go.RowKit Go.Extern

theorem dev_any {n : Int} (h : 0 ≤ n ∧ n < 32768) (w : World) : Calls Try.prog 22 #[.int .i64 n] w fun e w' => e = .returned (.int .i64 (n / 4096)) ∧ w' = w := by
  have e1 : n.tdiv 4096 = n / 4096 := Int.tdiv_eq_ediv_of_nonneg h.1
  have e2 : IntKind.i64.wrap (n / 4096) = n / 4096 := by rw [IntKind.wrap_i64]; omega
  clear h
  go_enter Try.func22, Try.ntmps22
  go_wp2
  go_ret
  exact ⟨rfl, rfl⟩
theorem rl_head {s : List Int} {a : Int} (h : s[0]? = some a) : rl s = 1 + rlFrom (a / 4096) (4 - 1) (s.drop 1) := by
  cases s with
  | nil => simp at h
  | cons b t => obtain rfl : b = a := by simpa using h
                rfl
theorem rlFrom_end {d : Int} {j : Nat} {s : List Int} (h : ¬ j < min s.length 4) : rlFrom d (4 - j) (s.drop j) = 0 := by
  have := rlFrom_le d (4 - j) (s.drop j)
  simp at this
  omega
theorem rlFrom_next {d p : Int} {j : Nat} {s : List Int} (h : j < 4) (hp : s[j]? = some p) : rlFrom d (4 - j) (s.drop j) = if p / 4096 = d then 1 + rlFrom d (4 - (j + 1)) (s.drop (j + 1)) else 0 := by
  have e1 : s.drop j = p :: s.drop (j + 1) := by
    obtain ⟨hj, rfl⟩ := List.getElem?_eq_some_iff.1 hp
    exact List.drop_eq_getElem_cons hj
  have e2 : 4 - j = (4 - (j + 1)) + 1 := by omega
  rw [e1, e2, rlFrom]
/-- What regionLength leaves. -/
def Lend (w : World) (n : Nat) (e : Ending) (w' : World) : Prop := e = .returned (.int .i64 (n : Int)) ∧ Below w.heap.size w w'
set_option maxRecDepth 100000 in
set_option maxHeartbeats 4000000 in
theorem regLen_any {w : World} {v : Value} {s : List Int} {a : Int} (hv : Ints w v s) (ha : s[0]? = some a) (hr : ∀ b ∈ s, 1 ≤ b ∧ b < 32768) : Calls Try.prog 21 #[v] w (Lend w (rl s)) := by
  have h5 := hv.len
  obtain ⟨ao, cap, g, off, rfl, h2, h3⟩ := hv.at_
  have hpos : 0 < s.length := (List.getElem?_eq_some_iff.1 ha).1
  obtain rfl := h2 hpos
  have kA := h3 0 a ha
  have HDA := hide (dev_any (n := a) (by have := hr a (List.mem_of_getElem? ha); omega))
  have HA0 := hide (rl_head ha)
  have H3 := hide h3
  have HR := hide hr
  obtain ⟨n, hn⟩ : ∃ n, s.length = n := ⟨_, rfl⟩
  rw [hn] at h5 hpos ⊢
  have HN := hide hn
  obtain ⟨dv, hdv⟩ : ∃ d, a / 4096 = d := ⟨_, rfl⟩
  simp only [hdv] at HDA HA0
  clear hv h2 h3 hn hr ha hdv
  go_enter Try.func21, Try.ntmps21
  go_wp2_with fail
  go_loopg [3] 3 (fun k i wr => ∃ j : Nat, j + k = 4 ∧ 1 ≤ j ∧ j ≤ n ∧ i = .int .i64 (j : Int) ∧ Hid (rl s = j + rlFrom dv (4 - j) (s.drop j)) ∧ Hid (Below w.heap.size w wr))
  case atStart => exact ⟨1, by omega, by omega, by omega, by simp, HA0, hide (Below.refl _ _)⟩
  case round =>
    clear HA0
    obtain ⟨j, hj, hj1, hjn, rfl, HI, HB⟩ := hrel
    have kA2 := cell_bel HB.out kA
    by_cases hc : j < min n 4
    · have hjm : j < n := by omega
      obtain ⟨p, he⟩ : ∃ e, s[j]? = some e := ⟨s[j]'(by rw [HN.out]; omega), by rw [List.getElem?_eq_getElem]⟩
      have k0 := cell_bel HB.out (H3.out j p he)
      have HDP := hide (dev_any (n := p) (by have := HR.out p (List.mem_of_getElem? he); omega))
      have HX := hide (rlFrom_next (d := dv) (show j < 4 by omega) he)
      have c1 : decide ((j : Int) < ((min n 4 : Nat) : Int)) = true := by simp; omega
      clear he
      go_wp2_with fail
      refine wp_region_held_drew (S := fun wx => wx.cell? ⟨g, off + j, none⟩ = some (.int .i64 p) ∧ wx.cell? ⟨g, off + 0, none⟩ = some (.int .i64 a)) (by kernel_rfl) ⟨k0, kA2⟩ (fun hS => ?_)
      refine take_want 0 (some 4) (.int .i64 (j : Int)) rfl rfl rfl (by kernel_rfl) (by kernel_rfl) (by kernel_rfl) (fun _ _ _ h => h) (fun wx hx => exec_move rfl rfl) hS ?_
      simp only [Act.put, List.setIfInBounds_toArray, List.set_cons_zero, List.set_cons_succ]
      refine take_want 1 (some 5) (.slice (some ⟨g, off, none⟩) n cap) rfl rfl rfl (by kernel_rfl) (by kernel_rfl) (by kernel_rfl) (fun _ _ _ h => h) (fun wx hx => exec_move rfl rfl) hS ?_
      simp only [Act.put, List.setIfInBounds_toArray, List.set_cons_zero, List.set_cons_succ]
      refine take_want 2 (some 6) (.int .i64 (n : Int)) rfl rfl rfl (by kernel_rfl) (by kernel_rfl) (by kernel_rfl) (fun _ _ _ h => h) (fun wx hx => exec_len rfl (len_ints wx _ _ _) rfl) hS ?_
      simp only [Act.put, List.setIfInBounds_toArray, List.set_cons_zero, List.set_cons_succ]
      refine take_want 3 (some 7) (.int .i64 ((min n 4 : Nat) : Int)) rfl rfl rfl (by kernel_rfl) (by kernel_rfl) (by kernel_rfl) (fun _ _ _ h => h) (fun wx hx => exec_min rfl rfl rfl rfl rfl) hS ?_
      simp only [Act.put, List.setIfInBounds_toArray, List.set_cons_zero, List.set_cons_succ]
      refine take_want 4 (some 8) (.bool true) rfl rfl rfl (by kernel_rfl) (by kernel_rfl) (by kernel_rfl) (fun _ _ _ h => h) (fun wx hx => exec_lss rfl rfl rfl c1) hS ?_
      simp only [Act.put, List.setIfInBounds_toArray, List.set_cons_zero, List.set_cons_succ]
      refine take_want 5 (some 9) (.bool true) rfl rfl rfl (by kernel_rfl) (by kernel_rfl) (by kernel_rfl) (fun _ _ _ h => h) (fun wx hx => exec_move rfl rfl) hS ?_
      simp only [Act.put, List.setIfInBounds_toArray, List.set_cons_zero, List.set_cons_succ]
      refine take_want 6 (some 10) (.slice (some ⟨g, off, none⟩) n cap) rfl rfl rfl (by kernel_rfl) (by kernel_rfl) (by kernel_rfl) (fun _ _ _ h => h) (fun wx hx => exec_move rfl rfl) hS ?_
      simp only [Act.put, List.setIfInBounds_toArray, List.set_cons_zero, List.set_cons_succ]
      refine take_want 7 (some 11) (.int .i64 (j : Int)) rfl rfl rfl (by kernel_rfl) (by kernel_rfl) (by kernel_rfl) (fun _ _ _ h => h) (fun wx hx => exec_move rfl rfl) hS ?_
      simp only [Act.put, List.setIfInBounds_toArray, List.set_cons_zero, List.set_cons_succ]
      refine take_want 8 (some 12) (.pointer (some ⟨g, off + j, none⟩)) rfl rfl rfl (by kernel_rfl) (by kernel_rfl) (by kernel_rfl) (fun _ _ _ h => h) (fun wx hx => exec_index rfl (index_intsN hjm) rfl rfl) hS ?_
      simp only [Act.put, List.setIfInBounds_toArray, List.set_cons_zero, List.set_cons_succ]
      refine take_want 9 (some 13) (.int .i64 p) rfl rfl rfl (by kernel_rfl) (by kernel_rfl) (by kernel_rfl) (fun _ _ _ h => h) (fun wx hx => exec_load rfl (load_intV hx.1) rfl) hS ?_
      simp only [Act.put, List.setIfInBounds_toArray, List.set_cons_zero, List.set_cons_succ]
      refine take_want 11 (some 15) (.slice (some ⟨g, off, none⟩) n cap) rfl rfl rfl (by kernel_rfl) (by kernel_rfl) (by kernel_rfl) (fun _ _ _ h => h) (fun wx hx => exec_move rfl rfl) hS ?_
      simp only [Act.put, List.setIfInBounds_toArray, List.set_cons_zero, List.set_cons_succ]
      refine take_want 12 (some 16) (.pointer (some ⟨g, off + 0, none⟩)) rfl rfl rfl (by kernel_rfl) (by kernel_rfl) (by kernel_rfl) (fun _ _ _ h => h) (fun wx hx => exec_index rfl (index_ints0 hpos) rfl rfl) hS ?_
      simp only [Act.put, List.setIfInBounds_toArray, List.set_cons_zero, List.set_cons_succ]
      refine take_want 13 (some 17) (.int .i64 a) rfl rfl rfl (by kernel_rfl) (by kernel_rfl) (by kernel_rfl) (fun _ _ _ h => h) (fun wx hx => exec_load rfl (load_intV hx.2) rfl) hS ?_
      simp only [Act.put, List.setIfInBounds_toArray, List.set_cons_zero, List.set_cons_succ]
      refine call_want 10 (some 14) rfl rfl rfl (by kernel_rfl) (exec_call1 rfl enterDev rfl rfl) ((HDP.out _).mono ?_)
      rintro e w1 ⟨rfl, rfl⟩
      refine ⟨_, rfl, hS, ?_⟩
      simp only [Act.put, List.setIfInBounds_toArray, List.set_cons_zero, List.set_cons_succ]
      refine call_want 14 (some 18) rfl rfl rfl (by kernel_rfl) (exec_call1 rfl enterDev rfl rfl) ((HDA.out _).mono ?_)
      rintro e w1 ⟨rfl, rfl⟩
      refine ⟨_, rfl, hS, ?_⟩
      simp only [Act.put, List.setIfInBounds_toArray, List.set_cons_zero, List.set_cons_succ]
      refine take_want 15 (some 19) (.bool (decide (p / 4096 = dv))) rfl rfl rfl (by kernel_rfl) (by kernel_rfl) (by kernel_rfl) (fun _ _ _ h => h) (fun wx hx => exec_eql rfl rfl rfl rfl) hS ?_
      simp only [Act.put, List.setIfInBounds_toArray, List.set_cons_zero, List.set_cons_succ]
      refine take_want 16 (some 20) (.bool (decide (p / 4096 = dv))) rfl rfl rfl (by kernel_rfl) (by kernel_rfl) (by kernel_rfl) (fun _ _ _ h => h) (fun wx hx => exec_pickT rfl rfl rfl) hS ?_
      simp only [Act.put, List.setIfInBounds_toArray, List.set_cons_zero, List.set_cons_succ]
      refine wpAnyH_done (by kernel_rfl) ?_ _
      have HBD := hide (nextB HB.out (below_drew0 wr))
      clear hS k0 kA2 c1
      by_cases hc2 : p / 4096 = dv
      · have e2 : decide (p / 4096 = dv) = true := by simpa using hc2
        have hj63 : IntKind.i64.wrap ((j : Int) + 1) = (j : Int) + 1 := IntWalk.i64_in _ ⟨by omega, by omega⟩
        rw [e2]
        have HX2 := HX.out
        rw [if_pos hc2] at HX2
        have HX3 := hide HX2
        clear e2 hc2 HX2 HX
        go_wp2_with fail
        go_roundg (gk - 1)
        case measure => omega
        case rel => exact ⟨j + 1, by omega, by omega, by omega, by simp, hide (by rw [HI.out, HX3.out]; omega), HBD⟩
      · have e2 : decide (p / 4096 = dv) = false := by simpa using hc2
        rw [e2]
        have HX2 := HX.out
        rw [if_neg hc2] at HX2
        have HX3 := hide HX2
        clear e2 hc2 HX2 HX
        go_wp2_with fail
        go_ret
        exact ⟨by rw [HI.out, HX3.out]; rfl, HBD.out⟩
    · have c1 : decide ((j : Int) < ((min n 4 : Nat) : Int)) = false := by simp; omega
      have HX := hide (rlFrom_end (d := dv) (j := j) (s := s) (by rw [HN.out]; exact hc))
      go_wp2_with fail
      refine wp_region_held_drew (S := fun _ => True) (by kernel_rfl) trivial (fun hS => ?_)
      refine take_want 0 (some 4) (.int .i64 (j : Int)) rfl rfl rfl (by kernel_rfl) (by kernel_rfl) (by kernel_rfl) (fun _ _ _ h => h) (fun wx hx => exec_move rfl rfl) hS ?_
      simp only [Act.put, List.setIfInBounds_toArray, List.set_cons_zero, List.set_cons_succ]
      refine take_want 1 (some 5) (.slice (some ⟨g, off, none⟩) n cap) rfl rfl rfl (by kernel_rfl) (by kernel_rfl) (by kernel_rfl) (fun _ _ _ h => h) (fun wx hx => exec_move rfl rfl) hS ?_
      simp only [Act.put, List.setIfInBounds_toArray, List.set_cons_zero, List.set_cons_succ]
      refine take_want 2 (some 6) (.int .i64 (n : Int)) rfl rfl rfl (by kernel_rfl) (by kernel_rfl) (by kernel_rfl) (fun _ _ _ h => h) (fun wx hx => exec_len rfl (len_ints wx _ _ _) rfl) hS ?_
      simp only [Act.put, List.setIfInBounds_toArray, List.set_cons_zero, List.set_cons_succ]
      refine take_want 3 (some 7) (.int .i64 ((min n 4 : Nat) : Int)) rfl rfl rfl (by kernel_rfl) (by kernel_rfl) (by kernel_rfl) (fun _ _ _ h => h) (fun wx hx => exec_min rfl rfl rfl rfl rfl) hS ?_
      simp only [Act.put, List.setIfInBounds_toArray, List.set_cons_zero, List.set_cons_succ]
      refine take_want 4 (some 8) (.bool false) rfl rfl rfl (by kernel_rfl) (by kernel_rfl) (by kernel_rfl) (fun _ _ _ h => h) (fun wx hx => exec_lss rfl rfl rfl c1) hS ?_
      simp only [Act.put, List.setIfInBounds_toArray, List.set_cons_zero, List.set_cons_succ]
      refine take_want 5 (some 9) (.bool false) rfl rfl rfl (by kernel_rfl) (by kernel_rfl) (by kernel_rfl) (fun _ _ _ h => h) (fun wx hx => exec_move rfl rfl) hS ?_
      simp only [Act.put, List.setIfInBounds_toArray, List.set_cons_zero, List.set_cons_succ]
      refine skip_want 6 (some 10) rfl rfl rfl (by kernel_rfl) (by kernel_rfl) (by kernel_rfl) (fun _ _ _ h => h) hS ?_
      simp only [Act.put, List.setIfInBounds_toArray, List.set_cons_zero, List.set_cons_succ]
      refine skip_want 7 (some 11) rfl rfl rfl (by kernel_rfl) (by kernel_rfl) (by kernel_rfl) (fun _ _ _ h => h) hS ?_
      simp only [Act.put, List.setIfInBounds_toArray, List.set_cons_zero, List.set_cons_succ]
      refine skip_want 8 (some 12) rfl rfl rfl (by kernel_rfl) (by kernel_rfl) (by kernel_rfl) (fun _ _ _ h => h) hS ?_
      simp only [Act.put, List.setIfInBounds_toArray, List.set_cons_zero, List.set_cons_succ]
      refine skip_want 9 (some 13) rfl rfl rfl (by kernel_rfl) (by kernel_rfl) (by kernel_rfl) (fun _ _ _ h => h) hS ?_
      simp only [Act.put, List.setIfInBounds_toArray, List.set_cons_zero, List.set_cons_succ]
      refine skip_want 10 (some 14) rfl rfl rfl (by kernel_rfl) (by kernel_rfl) (by kernel_rfl) (fun _ _ _ h => h) hS ?_
      simp only [Act.put, List.setIfInBounds_toArray, List.set_cons_zero, List.set_cons_succ]
      refine skip_want 11 (some 15) rfl rfl rfl (by kernel_rfl) (by kernel_rfl) (by kernel_rfl) (fun _ _ _ h => h) hS ?_
      simp only [Act.put, List.setIfInBounds_toArray, List.set_cons_zero, List.set_cons_succ]
      refine skip_want 12 (some 16) rfl rfl rfl (by kernel_rfl) (by kernel_rfl) (by kernel_rfl) (fun _ _ _ h => h) hS ?_
      simp only [Act.put, List.setIfInBounds_toArray, List.set_cons_zero, List.set_cons_succ]
      refine skip_want 13 (some 17) rfl rfl rfl (by kernel_rfl) (by kernel_rfl) (by kernel_rfl) (fun _ _ _ h => h) hS ?_
      simp only [Act.put, List.setIfInBounds_toArray, List.set_cons_zero, List.set_cons_succ]
      refine skip_want 14 (some 18) rfl rfl rfl (by kernel_rfl) (by kernel_rfl) (by kernel_rfl) (fun _ _ _ h => h) hS ?_
      simp only [Act.put, List.setIfInBounds_toArray, List.set_cons_zero, List.set_cons_succ]
      refine skip_want 15 (some 19) rfl rfl rfl (by kernel_rfl) (by kernel_rfl) (by kernel_rfl) (fun _ _ _ h => h) hS ?_
      simp only [Act.put, List.setIfInBounds_toArray, List.set_cons_zero, List.set_cons_succ]
      refine take_want 16 (some 20) (.bool false) rfl rfl rfl (by kernel_rfl) (by kernel_rfl) (by kernel_rfl) (fun _ _ _ h => h) (fun wx hx => exec_pickF rfl rfl rfl) hS ?_
      simp only [Act.put, List.setIfInBounds_toArray, List.set_cons_zero, List.set_cons_succ]
      refine wpAnyH_done (by kernel_rfl) ?_ _
      have HBD := hide (nextB HB.out (below_drew0 wr))
      clear hS kA2 c1 hc
      go_wp2_with fail
      go_ret
      exact ⟨by rw [HI.out, HX.out]; rfl, HBD.out⟩
end Go.Proofs.Ytnkcebngfnailaa
