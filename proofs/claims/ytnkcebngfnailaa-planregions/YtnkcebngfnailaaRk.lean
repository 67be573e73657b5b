/- The document's Rank and Region. -/
import Derived.Test.YtnkcebngfnailaaRk0
import Derived.Test.YtnkcebngfnailaaIe
namespace Go.Proofs.Ytnkcebngfnailaa
open Go.RowKit Go.Extern

theorem filt_no {P : Int → Bool} {l : List Int} {j : Nat} {p : Int} (h : l[j]? = some p) (hc : P p = false) : (l.take (j + 1)).filter P = (l.take j).filter P := by
  rw [take_snoc h, List.filter_append]; simp [hc]
theorem filt_yes {P : Int → Bool} {l : List Int} {j : Nat} {p : Int} (h : l[j]? = some p) (hc : P p = true) : (l.take (j + 1)).filter P = (l.take j).filter P ++ [p] := by
  rw [take_snoc h, List.filter_append]; simp [hc]
/-- What Rank leaves. -/
def Rankd (w : World) (n : Nat) (e : Ending) (w' : World) : Prop := e = .returned (.int .i64 (n : Int)) ∧ Below w.heap.size w w'
set_option maxRecDepth 100000 in
set_option maxHeartbeats 4000000 in
theorem rank_any {w : World} {v : Value} {l : List Int} (hv : Ints w v l) (hr : ∀ b ∈ l, 1 ≤ b ∧ b < 32768) (hl : l.length ≤ 1000) {i : Nat} {a : Int} (ha : l[i]? = some a) : Calls Try.prog 25 #[v, .int .i64 (i : Int)] w (Rankd w (rankS l a)) := by
  obtain ⟨ao, cap, g, off, rfl, h2, h3⟩ := hv.at_
  have hin : i < l.length := (List.getElem?_eq_some_iff.1 ha).1
  obtain rfl := h2 (by omega)
  have H3 := hide h3
  have HR := hide hr
  have har := hr a (List.mem_of_getElem? ha)
  have HA := hide ha
  obtain ⟨n, hn⟩ : ∃ n, l.length = n := ⟨_, rfl⟩
  rw [hn] at hl hin ⊢
  have HN := hide hn
  clear h2 h3 hn hv hr ha
  go_enter Try.func25, Try.ntmps25
  go_wp2_with fail
  go_loopg [5, 6] n (fun k c i2 wr => ∃ j : Nat, j + k = n ∧ c = .int .i64 ((((l.take j).filter (ltB a)).length : Nat) : Int) ∧ i2 = .int .i64 (j : Int) ∧ Hid (Below w.heap.size w wr))
  case atStart => exact ⟨0, by omega, by simp, by simp, hide (Below.refl _ _)⟩
  case round =>
    obtain ⟨j, hj, rfl, rfl, HB⟩ := hrel
    cases gk with
    | zero =>
      have hnl : ¬ (j : Int) < (n : Int) := by omega
      have hend : l.take j = l := List.take_of_length_le (by rw [HN.out]; omega)
      rw [hend]
      clear hend
      go_wp2_with fail
      go_ret
      exact ⟨rfl, HB.out⟩
    | succ m =>
      have hlt : (j : Int) < (n : Int) := by omega
      have hb0 : (0 : Int) ≤ (j : Int) := by omega
      have hjn : j < n := by omega
      obtain ⟨p, he⟩ : ∃ e, l[j]? = some e := ⟨l[j]'(by rw [HN.out]; omega), by rw [List.getElem?_eq_getElem]⟩
      have k1 := cell_bel HB.out (H3.out j p he)
      have k2 := cell_bel HB.out (H3.out i a HA.out)
      have hpr := HR.out p (List.mem_of_getElem? he)
      have hj63 : IntKind.i64.wrap ((j : Int) + 1) = (j : Int) + 1 := IntWalk.i64_in _ ⟨by omega, by omega⟩
      have HE := hide he
      obtain ⟨c, hc⟩ : ∃ c, ((l.take j).filter (ltB a)).length = c := ⟨_, rfl⟩
      have HC := hide hc
      have hcl : c ≤ j := by rw [← hc]; exact Nat.le_trans (List.length_filter_le _ _) (by simp; omega)
      have hc63 : IntKind.i64.wrap ((c : Int) + 1) = (c : Int) + 1 := IntWalk.i64_in _ ⟨by omega, by omega⟩
      rw [hc]
      clear he hc
      have hp2 : 0 ≤ p ∧ p < 32768 := by omega
      have ha2 : 0 ≤ a ∧ a < 32768 := by omega
      go_wp2_with fail
      by_cases c1 : p / 4096 = a / 4096
      · have cd : decide (p / 4096 = a / 4096) = true := by simpa using c1
        by_cases c2 : p < a
        · have cl : decide (p < a) = true := by simpa using c2
          have HF := hide (filt_yes HE.out (P := ltB a) (by simp [ltB, c1, c2]))
          refine wp_region_held_drew (S := fun wx => Below wr.heap.size wr wx) (by kernel_rfl) (below_drew0 wr) (fun hS => ?_)
          refine take_want 0 (some 13) (.slice (some ⟨g, off, none⟩) n cap) rfl rfl rfl (by kernel_rfl) (by kernel_rfl) (by kernel_rfl) (fun _ _ _ h => h) (fun wx hx => exec_move rfl rfl) hS ?_
          simp only [Act.put, List.setIfInBounds_toArray, List.set_cons_zero, List.set_cons_succ]
          refine take_want 1 (some 14) (.int .i64 (j : Int)) rfl rfl rfl (by kernel_rfl) (by kernel_rfl) (by kernel_rfl) (fun _ _ _ h => h) (fun wx hx => exec_move rfl rfl) hS ?_
          simp only [Act.put, List.setIfInBounds_toArray, List.set_cons_zero, List.set_cons_succ]
          refine take_want 2 (some 15) (.pointer (some ⟨g, off + j, none⟩)) rfl rfl rfl (by kernel_rfl) (by kernel_rfl) (by kernel_rfl) (fun _ _ _ h => h) (fun wx hx => exec_index rfl (index_intsN hjn) rfl rfl) hS ?_
          simp only [Act.put, List.setIfInBounds_toArray, List.set_cons_zero, List.set_cons_succ]
          refine take_want 3 (some 16) (.int .i64 p) rfl rfl rfl (by kernel_rfl) (by kernel_rfl) (by kernel_rfl) (fun _ _ _ h => h) (fun wx hx => exec_load rfl (load_intV (cell_bel hx k1)) rfl) hS ?_
          simp only [Act.put, List.setIfInBounds_toArray, List.set_cons_zero, List.set_cons_succ]
          refine take_want 4 (some 17) (.int .i64 (p / 4096)) rfl rfl rfl (by kernel_rfl) (by kernel_rfl) (by kernel_rfl) (fun _ _ _ h => h) (fun wx hx => exec_quo rfl rfl rfl hp2 rfl) hS ?_
          simp only [Act.put, List.setIfInBounds_toArray, List.set_cons_zero, List.set_cons_succ]
          refine take_want 5 (some 18) (.slice (some ⟨g, off, none⟩) n cap) rfl rfl rfl (by kernel_rfl) (by kernel_rfl) (by kernel_rfl) (fun _ _ _ h => h) (fun wx hx => exec_move rfl rfl) hS ?_
          simp only [Act.put, List.setIfInBounds_toArray, List.set_cons_zero, List.set_cons_succ]
          refine take_want 6 (some 19) (.int .i64 (i : Int)) rfl rfl rfl (by kernel_rfl) (by kernel_rfl) (by kernel_rfl) (fun _ _ _ h => h) (fun wx hx => exec_move rfl rfl) hS ?_
          simp only [Act.put, List.setIfInBounds_toArray, List.set_cons_zero, List.set_cons_succ]
          refine take_want 7 (some 20) (.pointer (some ⟨g, off + i, none⟩)) rfl rfl rfl (by kernel_rfl) (by kernel_rfl) (by kernel_rfl) (fun _ _ _ h => h) (fun wx hx => exec_index rfl (index_intsN hin) rfl rfl) hS ?_
          simp only [Act.put, List.setIfInBounds_toArray, List.set_cons_zero, List.set_cons_succ]
          refine take_want 8 (some 21) (.int .i64 a) rfl rfl rfl (by kernel_rfl) (by kernel_rfl) (by kernel_rfl) (fun _ _ _ h => h) (fun wx hx => exec_load rfl (load_intV (cell_bel hx k2)) rfl) hS ?_
          simp only [Act.put, List.setIfInBounds_toArray, List.set_cons_zero, List.set_cons_succ]
          refine take_want 9 (some 22) (.int .i64 (a / 4096)) rfl rfl rfl (by kernel_rfl) (by kernel_rfl) (by kernel_rfl) (fun _ _ _ h => h) (fun wx hx => exec_quo rfl rfl rfl ha2 rfl) hS ?_
          simp only [Act.put, List.setIfInBounds_toArray, List.set_cons_zero, List.set_cons_succ]
          refine take_want 10 (some 23) (.bool true) rfl rfl rfl (by kernel_rfl) (by kernel_rfl) (by kernel_rfl) (fun _ _ _ h => h) (fun wx hx => exec_eql rfl rfl rfl cd) hS ?_
          simp only [Act.put, List.setIfInBounds_toArray, List.set_cons_zero, List.set_cons_succ]
          refine take_want 11 (some 24) (.bool true) rfl rfl rfl (by kernel_rfl) (by kernel_rfl) (by kernel_rfl) (fun _ _ _ h => h) (fun wx hx => exec_move rfl rfl) hS ?_
          simp only [Act.put, List.setIfInBounds_toArray, List.set_cons_zero, List.set_cons_succ]
          refine take_want 12 (some 25) (.slice (some ⟨g, off, none⟩) n cap) rfl rfl rfl (by kernel_rfl) (by kernel_rfl) (by kernel_rfl) (fun _ _ _ h => h) (fun wx hx => exec_move rfl rfl) hS ?_
          simp only [Act.put, List.setIfInBounds_toArray, List.set_cons_zero, List.set_cons_succ]
          refine take_want 13 (some 26) (.int .i64 (j : Int)) rfl rfl rfl (by kernel_rfl) (by kernel_rfl) (by kernel_rfl) (fun _ _ _ h => h) (fun wx hx => exec_move rfl rfl) hS ?_
          simp only [Act.put, List.setIfInBounds_toArray, List.set_cons_zero, List.set_cons_succ]
          refine take_want 14 (some 27) (.pointer (some ⟨g, off + j, none⟩)) rfl rfl rfl (by kernel_rfl) (by kernel_rfl) (by kernel_rfl) (fun _ _ _ h => h) (fun wx hx => exec_index rfl (index_intsN hjn) rfl rfl) hS ?_
          simp only [Act.put, List.setIfInBounds_toArray, List.set_cons_zero, List.set_cons_succ]
          refine take_want 15 (some 28) (.int .i64 p) rfl rfl rfl (by kernel_rfl) (by kernel_rfl) (by kernel_rfl) (fun _ _ _ h => h) (fun wx hx => exec_load rfl (load_intV (cell_bel hx k1)) rfl) hS ?_
          simp only [Act.put, List.setIfInBounds_toArray, List.set_cons_zero, List.set_cons_succ]
          refine take_want 16 (some 29) (.slice (some ⟨g, off, none⟩) n cap) rfl rfl rfl (by kernel_rfl) (by kernel_rfl) (by kernel_rfl) (fun _ _ _ h => h) (fun wx hx => exec_move rfl rfl) hS ?_
          simp only [Act.put, List.setIfInBounds_toArray, List.set_cons_zero, List.set_cons_succ]
          refine take_want 17 (some 30) (.int .i64 (i : Int)) rfl rfl rfl (by kernel_rfl) (by kernel_rfl) (by kernel_rfl) (fun _ _ _ h => h) (fun wx hx => exec_move rfl rfl) hS ?_
          simp only [Act.put, List.setIfInBounds_toArray, List.set_cons_zero, List.set_cons_succ]
          refine take_want 18 (some 31) (.pointer (some ⟨g, off + i, none⟩)) rfl rfl rfl (by kernel_rfl) (by kernel_rfl) (by kernel_rfl) (fun _ _ _ h => h) (fun wx hx => exec_index rfl (index_intsN hin) rfl rfl) hS ?_
          simp only [Act.put, List.setIfInBounds_toArray, List.set_cons_zero, List.set_cons_succ]
          refine take_want 19 (some 32) (.int .i64 a) rfl rfl rfl (by kernel_rfl) (by kernel_rfl) (by kernel_rfl) (fun _ _ _ h => h) (fun wx hx => exec_load rfl (load_intV (cell_bel hx k2)) rfl) hS ?_
          simp only [Act.put, List.setIfInBounds_toArray, List.set_cons_zero, List.set_cons_succ]
          refine take_want 20 (some 33) (.bool true) rfl rfl rfl (by kernel_rfl) (by kernel_rfl) (by kernel_rfl) (fun _ _ _ h => h) (fun wx hx => exec_lss rfl rfl rfl cl) hS ?_
          simp only [Act.put, List.setIfInBounds_toArray, List.set_cons_zero, List.set_cons_succ]
          refine take_want 21 (some 34) (.bool true) rfl rfl rfl (by kernel_rfl) (by kernel_rfl) (by kernel_rfl) (fun _ _ _ h => h) (fun wx hx => exec_pickT rfl rfl rfl) hS ?_
          simp only [Act.put, List.setIfInBounds_toArray, List.set_cons_zero, List.set_cons_succ]
          refine wpAnyH_done (by kernel_rfl) ?_ _
          have HB1 := hide (nextB HB.out hS)
          clear hS k1 k2 cd cl
          go_wp2_with fail
          go_roundg m
          case measure => omega
          case rel => exact ⟨j + 1, by omega, by rw [HF.out, List.length_append, HC.out]; simp, by simp, HB1⟩
        · have cl : decide (p < a) = false := by simpa using c2
          have HF := hide (filt_no HE.out (P := ltB a) (by simp [ltB, c1, c2]))
          refine wp_region_held_drew (S := fun wx => Below wr.heap.size wr wx) (by kernel_rfl) (below_drew0 wr) (fun hS => ?_)
          refine take_want 0 (some 13) (.slice (some ⟨g, off, none⟩) n cap) rfl rfl rfl (by kernel_rfl) (by kernel_rfl) (by kernel_rfl) (fun _ _ _ h => h) (fun wx hx => exec_move rfl rfl) hS ?_
          simp only [Act.put, List.setIfInBounds_toArray, List.set_cons_zero, List.set_cons_succ]
          refine take_want 1 (some 14) (.int .i64 (j : Int)) rfl rfl rfl (by kernel_rfl) (by kernel_rfl) (by kernel_rfl) (fun _ _ _ h => h) (fun wx hx => exec_move rfl rfl) hS ?_
          simp only [Act.put, List.setIfInBounds_toArray, List.set_cons_zero, List.set_cons_succ]
          refine take_want 2 (some 15) (.pointer (some ⟨g, off + j, none⟩)) rfl rfl rfl (by kernel_rfl) (by kernel_rfl) (by kernel_rfl) (fun _ _ _ h => h) (fun wx hx => exec_index rfl (index_intsN hjn) rfl rfl) hS ?_
          simp only [Act.put, List.setIfInBounds_toArray, List.set_cons_zero, List.set_cons_succ]
          refine take_want 3 (some 16) (.int .i64 p) rfl rfl rfl (by kernel_rfl) (by kernel_rfl) (by kernel_rfl) (fun _ _ _ h => h) (fun wx hx => exec_load rfl (load_intV (cell_bel hx k1)) rfl) hS ?_
          simp only [Act.put, List.setIfInBounds_toArray, List.set_cons_zero, List.set_cons_succ]
          refine take_want 4 (some 17) (.int .i64 (p / 4096)) rfl rfl rfl (by kernel_rfl) (by kernel_rfl) (by kernel_rfl) (fun _ _ _ h => h) (fun wx hx => exec_quo rfl rfl rfl hp2 rfl) hS ?_
          simp only [Act.put, List.setIfInBounds_toArray, List.set_cons_zero, List.set_cons_succ]
          refine take_want 5 (some 18) (.slice (some ⟨g, off, none⟩) n cap) rfl rfl rfl (by kernel_rfl) (by kernel_rfl) (by kernel_rfl) (fun _ _ _ h => h) (fun wx hx => exec_move rfl rfl) hS ?_
          simp only [Act.put, List.setIfInBounds_toArray, List.set_cons_zero, List.set_cons_succ]
          refine take_want 6 (some 19) (.int .i64 (i : Int)) rfl rfl rfl (by kernel_rfl) (by kernel_rfl) (by kernel_rfl) (fun _ _ _ h => h) (fun wx hx => exec_move rfl rfl) hS ?_
          simp only [Act.put, List.setIfInBounds_toArray, List.set_cons_zero, List.set_cons_succ]
          refine take_want 7 (some 20) (.pointer (some ⟨g, off + i, none⟩)) rfl rfl rfl (by kernel_rfl) (by kernel_rfl) (by kernel_rfl) (fun _ _ _ h => h) (fun wx hx => exec_index rfl (index_intsN hin) rfl rfl) hS ?_
          simp only [Act.put, List.setIfInBounds_toArray, List.set_cons_zero, List.set_cons_succ]
          refine take_want 8 (some 21) (.int .i64 a) rfl rfl rfl (by kernel_rfl) (by kernel_rfl) (by kernel_rfl) (fun _ _ _ h => h) (fun wx hx => exec_load rfl (load_intV (cell_bel hx k2)) rfl) hS ?_
          simp only [Act.put, List.setIfInBounds_toArray, List.set_cons_zero, List.set_cons_succ]
          refine take_want 9 (some 22) (.int .i64 (a / 4096)) rfl rfl rfl (by kernel_rfl) (by kernel_rfl) (by kernel_rfl) (fun _ _ _ h => h) (fun wx hx => exec_quo rfl rfl rfl ha2 rfl) hS ?_
          simp only [Act.put, List.setIfInBounds_toArray, List.set_cons_zero, List.set_cons_succ]
          refine take_want 10 (some 23) (.bool true) rfl rfl rfl (by kernel_rfl) (by kernel_rfl) (by kernel_rfl) (fun _ _ _ h => h) (fun wx hx => exec_eql rfl rfl rfl cd) hS ?_
          simp only [Act.put, List.setIfInBounds_toArray, List.set_cons_zero, List.set_cons_succ]
          refine take_want 11 (some 24) (.bool true) rfl rfl rfl (by kernel_rfl) (by kernel_rfl) (by kernel_rfl) (fun _ _ _ h => h) (fun wx hx => exec_move rfl rfl) hS ?_
          simp only [Act.put, List.setIfInBounds_toArray, List.set_cons_zero, List.set_cons_succ]
          refine take_want 12 (some 25) (.slice (some ⟨g, off, none⟩) n cap) rfl rfl rfl (by kernel_rfl) (by kernel_rfl) (by kernel_rfl) (fun _ _ _ h => h) (fun wx hx => exec_move rfl rfl) hS ?_
          simp only [Act.put, List.setIfInBounds_toArray, List.set_cons_zero, List.set_cons_succ]
          refine take_want 13 (some 26) (.int .i64 (j : Int)) rfl rfl rfl (by kernel_rfl) (by kernel_rfl) (by kernel_rfl) (fun _ _ _ h => h) (fun wx hx => exec_move rfl rfl) hS ?_
          simp only [Act.put, List.setIfInBounds_toArray, List.set_cons_zero, List.set_cons_succ]
          refine take_want 14 (some 27) (.pointer (some ⟨g, off + j, none⟩)) rfl rfl rfl (by kernel_rfl) (by kernel_rfl) (by kernel_rfl) (fun _ _ _ h => h) (fun wx hx => exec_index rfl (index_intsN hjn) rfl rfl) hS ?_
          simp only [Act.put, List.setIfInBounds_toArray, List.set_cons_zero, List.set_cons_succ]
          refine take_want 15 (some 28) (.int .i64 p) rfl rfl rfl (by kernel_rfl) (by kernel_rfl) (by kernel_rfl) (fun _ _ _ h => h) (fun wx hx => exec_load rfl (load_intV (cell_bel hx k1)) rfl) hS ?_
          simp only [Act.put, List.setIfInBounds_toArray, List.set_cons_zero, List.set_cons_succ]
          refine take_want 16 (some 29) (.slice (some ⟨g, off, none⟩) n cap) rfl rfl rfl (by kernel_rfl) (by kernel_rfl) (by kernel_rfl) (fun _ _ _ h => h) (fun wx hx => exec_move rfl rfl) hS ?_
          simp only [Act.put, List.setIfInBounds_toArray, List.set_cons_zero, List.set_cons_succ]
          refine take_want 17 (some 30) (.int .i64 (i : Int)) rfl rfl rfl (by kernel_rfl) (by kernel_rfl) (by kernel_rfl) (fun _ _ _ h => h) (fun wx hx => exec_move rfl rfl) hS ?_
          simp only [Act.put, List.setIfInBounds_toArray, List.set_cons_zero, List.set_cons_succ]
          refine take_want 18 (some 31) (.pointer (some ⟨g, off + i, none⟩)) rfl rfl rfl (by kernel_rfl) (by kernel_rfl) (by kernel_rfl) (fun _ _ _ h => h) (fun wx hx => exec_index rfl (index_intsN hin) rfl rfl) hS ?_
          simp only [Act.put, List.setIfInBounds_toArray, List.set_cons_zero, List.set_cons_succ]
          refine take_want 19 (some 32) (.int .i64 a) rfl rfl rfl (by kernel_rfl) (by kernel_rfl) (by kernel_rfl) (fun _ _ _ h => h) (fun wx hx => exec_load rfl (load_intV (cell_bel hx k2)) rfl) hS ?_
          simp only [Act.put, List.setIfInBounds_toArray, List.set_cons_zero, List.set_cons_succ]
          refine take_want 20 (some 33) (.bool false) rfl rfl rfl (by kernel_rfl) (by kernel_rfl) (by kernel_rfl) (fun _ _ _ h => h) (fun wx hx => exec_lss rfl rfl rfl cl) hS ?_
          simp only [Act.put, List.setIfInBounds_toArray, List.set_cons_zero, List.set_cons_succ]
          refine take_want 21 (some 34) (.bool false) rfl rfl rfl (by kernel_rfl) (by kernel_rfl) (by kernel_rfl) (fun _ _ _ h => h) (fun wx hx => exec_pickT rfl rfl rfl) hS ?_
          simp only [Act.put, List.setIfInBounds_toArray, List.set_cons_zero, List.set_cons_succ]
          refine wpAnyH_done (by kernel_rfl) ?_ _
          have HB1 := hide (nextB HB.out hS)
          clear hS k1 k2 cd cl
          go_wp2_with fail
          go_roundg m
          case measure => omega
          case rel => exact ⟨j + 1, by omega, by rw [HF.out, HC.out], by simp, HB1⟩
      · have cd : decide (p / 4096 = a / 4096) = false := by simpa using c1
        have cl := cd
        have HF := hide (filt_no HE.out (P := ltB a) (by simp [ltB, c1]))
        refine wp_region_held_drew (S := fun wx => Below wr.heap.size wr wx) (by kernel_rfl) (below_drew0 wr) (fun hS => ?_)
        refine take_want 0 (some 13) (.slice (some ⟨g, off, none⟩) n cap) rfl rfl rfl (by kernel_rfl) (by kernel_rfl) (by kernel_rfl) (fun _ _ _ h => h) (fun wx hx => exec_move rfl rfl) hS ?_
        simp only [Act.put, List.setIfInBounds_toArray, List.set_cons_zero, List.set_cons_succ]
        refine take_want 1 (some 14) (.int .i64 (j : Int)) rfl rfl rfl (by kernel_rfl) (by kernel_rfl) (by kernel_rfl) (fun _ _ _ h => h) (fun wx hx => exec_move rfl rfl) hS ?_
        simp only [Act.put, List.setIfInBounds_toArray, List.set_cons_zero, List.set_cons_succ]
        refine take_want 2 (some 15) (.pointer (some ⟨g, off + j, none⟩)) rfl rfl rfl (by kernel_rfl) (by kernel_rfl) (by kernel_rfl) (fun _ _ _ h => h) (fun wx hx => exec_index rfl (index_intsN hjn) rfl rfl) hS ?_
        simp only [Act.put, List.setIfInBounds_toArray, List.set_cons_zero, List.set_cons_succ]
        refine take_want 3 (some 16) (.int .i64 p) rfl rfl rfl (by kernel_rfl) (by kernel_rfl) (by kernel_rfl) (fun _ _ _ h => h) (fun wx hx => exec_load rfl (load_intV (cell_bel hx k1)) rfl) hS ?_
        simp only [Act.put, List.setIfInBounds_toArray, List.set_cons_zero, List.set_cons_succ]
        refine take_want 4 (some 17) (.int .i64 (p / 4096)) rfl rfl rfl (by kernel_rfl) (by kernel_rfl) (by kernel_rfl) (fun _ _ _ h => h) (fun wx hx => exec_quo rfl rfl rfl hp2 rfl) hS ?_
        simp only [Act.put, List.setIfInBounds_toArray, List.set_cons_zero, List.set_cons_succ]
        refine take_want 5 (some 18) (.slice (some ⟨g, off, none⟩) n cap) rfl rfl rfl (by kernel_rfl) (by kernel_rfl) (by kernel_rfl) (fun _ _ _ h => h) (fun wx hx => exec_move rfl rfl) hS ?_
        simp only [Act.put, List.setIfInBounds_toArray, List.set_cons_zero, List.set_cons_succ]
        refine take_want 6 (some 19) (.int .i64 (i : Int)) rfl rfl rfl (by kernel_rfl) (by kernel_rfl) (by kernel_rfl) (fun _ _ _ h => h) (fun wx hx => exec_move rfl rfl) hS ?_
        simp only [Act.put, List.setIfInBounds_toArray, List.set_cons_zero, List.set_cons_succ]
        refine take_want 7 (some 20) (.pointer (some ⟨g, off + i, none⟩)) rfl rfl rfl (by kernel_rfl) (by kernel_rfl) (by kernel_rfl) (fun _ _ _ h => h) (fun wx hx => exec_index rfl (index_intsN hin) rfl rfl) hS ?_
        simp only [Act.put, List.setIfInBounds_toArray, List.set_cons_zero, List.set_cons_succ]
        refine take_want 8 (some 21) (.int .i64 a) rfl rfl rfl (by kernel_rfl) (by kernel_rfl) (by kernel_rfl) (fun _ _ _ h => h) (fun wx hx => exec_load rfl (load_intV (cell_bel hx k2)) rfl) hS ?_
        simp only [Act.put, List.setIfInBounds_toArray, List.set_cons_zero, List.set_cons_succ]
        refine take_want 9 (some 22) (.int .i64 (a / 4096)) rfl rfl rfl (by kernel_rfl) (by kernel_rfl) (by kernel_rfl) (fun _ _ _ h => h) (fun wx hx => exec_quo rfl rfl rfl ha2 rfl) hS ?_
        simp only [Act.put, List.setIfInBounds_toArray, List.set_cons_zero, List.set_cons_succ]
        refine take_want 10 (some 23) (.bool false) rfl rfl rfl (by kernel_rfl) (by kernel_rfl) (by kernel_rfl) (fun _ _ _ h => h) (fun wx hx => exec_eql rfl rfl rfl cd) hS ?_
        simp only [Act.put, List.setIfInBounds_toArray, List.set_cons_zero, List.set_cons_succ]
        refine take_want 11 (some 24) (.bool false) rfl rfl rfl (by kernel_rfl) (by kernel_rfl) (by kernel_rfl) (fun _ _ _ h => h) (fun wx hx => exec_move rfl rfl) hS ?_
        simp only [Act.put, List.setIfInBounds_toArray, List.set_cons_zero, List.set_cons_succ]
        refine skip_want 12 (some 25) rfl rfl rfl (by kernel_rfl) (by kernel_rfl) (by kernel_rfl) (fun _ _ _ h => h) hS ?_
        simp only [Act.put, List.setIfInBounds_toArray, List.set_cons_zero, List.set_cons_succ]
        refine skip_want 13 (some 26) rfl rfl rfl (by kernel_rfl) (by kernel_rfl) (by kernel_rfl) (fun _ _ _ h => h) hS ?_
        simp only [Act.put, List.setIfInBounds_toArray, List.set_cons_zero, List.set_cons_succ]
        refine skip_want 14 (some 27) rfl rfl rfl (by kernel_rfl) (by kernel_rfl) (by kernel_rfl) (fun _ _ _ h => h) hS ?_
        simp only [Act.put, List.setIfInBounds_toArray, List.set_cons_zero, List.set_cons_succ]
        refine skip_want 15 (some 28) rfl rfl rfl (by kernel_rfl) (by kernel_rfl) (by kernel_rfl) (fun _ _ _ h => h) hS ?_
        simp only [Act.put, List.setIfInBounds_toArray, List.set_cons_zero, List.set_cons_succ]
        refine skip_want 16 (some 29) rfl rfl rfl (by kernel_rfl) (by kernel_rfl) (by kernel_rfl) (fun _ _ _ h => h) hS ?_
        simp only [Act.put, List.setIfInBounds_toArray, List.set_cons_zero, List.set_cons_succ]
        refine skip_want 17 (some 30) rfl rfl rfl (by kernel_rfl) (by kernel_rfl) (by kernel_rfl) (fun _ _ _ h => h) hS ?_
        simp only [Act.put, List.setIfInBounds_toArray, List.set_cons_zero, List.set_cons_succ]
        refine skip_want 18 (some 31) rfl rfl rfl (by kernel_rfl) (by kernel_rfl) (by kernel_rfl) (fun _ _ _ h => h) hS ?_
        simp only [Act.put, List.setIfInBounds_toArray, List.set_cons_zero, List.set_cons_succ]
        refine skip_want 19 (some 32) rfl rfl rfl (by kernel_rfl) (by kernel_rfl) (by kernel_rfl) (fun _ _ _ h => h) hS ?_
        simp only [Act.put, List.setIfInBounds_toArray, List.set_cons_zero, List.set_cons_succ]
        refine skip_want 20 (some 33) rfl rfl rfl (by kernel_rfl) (by kernel_rfl) (by kernel_rfl) (fun _ _ _ h => h) hS ?_
        simp only [Act.put, List.setIfInBounds_toArray, List.set_cons_zero, List.set_cons_succ]
        refine take_want 21 (some 34) (.bool false) rfl rfl rfl (by kernel_rfl) (by kernel_rfl) (by kernel_rfl) (fun _ _ _ h => h) (fun wx hx => exec_pickF rfl rfl rfl) hS ?_
        simp only [Act.put, List.setIfInBounds_toArray, List.set_cons_zero, List.set_cons_succ]
        refine wpAnyH_done (by kernel_rfl) ?_ _
        have HB1 := hide (nextB HB.out hS)
        clear hS k1 k2 cd cl
        go_wp2_with fail
        go_roundg m
        case measure => omega
        case rel => exact ⟨j + 1, by omega, by rw [HF.out, HC.out], by simp, HB1⟩
/-- What Region leaves. -/
def Regiond (w : World) (l : List Int) (e : Ending) (w' : World) : Prop := ∃ v, e = .returned v ∧ Ints w' v l ∧ Below w.heap.size w w'
set_option maxRecDepth 100000 in
set_option maxHeartbeats 4000000 in
theorem region_any {w : World} {v : Value} {l : List Int} (hv : Ints w v l) (hr : Rt l) (hl : l.length ≤ 1000) (d : Int) {n : Nat} (hn : n ≤ 1000) : Calls Try.prog 14 #[v, .int .i64 d, .int .i64 (n : Int)] w (Regiond w (chunk (onDev (sortS l) d) n)) := by
  have HV := hide hv
  have HRT := hide hr
  have HLL := hide hl
  obtain ⟨ao, cap, g, off, rfl, h2, h3⟩ := hv.at_
  have H2 := hide h2
  have H3 := hide h3
  obtain ⟨N, hN⟩ : ∃ n, l.length = n := ⟨_, rfl⟩
  rw [hN] at hl ⊢
  have HN := hide hN
  obtain ⟨X, hX⟩ : ∃ X, onDev (sortS l) d = X := ⟨_, rfl⟩
  have HX := hide hX
  rw [hX]
  rw [hN] at HV
  have e1 : IntKind.i64.wrap (4 * (n : Int)) = 4 * (n : Int) := by rw [IntKind.wrap_i64]; omega
  have e2 : IntKind.i64.wrap (4 * (n : Int) + 4) = 4 * (n : Int) + 4 := by rw [IntKind.wrap_i64]; omega
  clear h2 h3 hN hv hr hX
  go_enter Try.func14, Try.ntmps14
  go_wp2_with fail
  go_loopg [7, 8] 4 (fun k o rk wr => ∃ t : Nat, t + k = 4 ∧ rk = .int .i64 (4 * (n : Int) + (t : Int)) ∧ Hid (OwnI wr w.heap.size o ((X.drop (4 * n)).take t)) ∧ Hid (Below w.heap.size w wr))
  case atStart => exact ⟨0, by omega, by simp, hide (by rw [List.take_zero]; exact OwnI.nil _ _), hide (Below.refl _ _)⟩
  case round =>
    obtain ⟨t, ht, rfl, HO, HB⟩ := hrel
    have hx := HO.out
    obtain ⟨oa, on, oc, rfl, -⟩ := hx.form
    clear hx
    cases gk with
    | zero =>
      have ht4 : t = 4 := by omega
      subst ht4
      have hnl : ¬ (4 * (n : Int) + ((4 : Nat) : Int)) < 4 * (n : Int) + 4 := by omega
      clear ht
      go_wp2_with fail
      go_ret
      exact ⟨_, rfl, HO.out.ints, HB.out⟩
    | succ m =>
      obtain ⟨K, hK⟩ : ∃ K, 4 * (n : Int) + (t : Int) = K := ⟨_, rfl⟩
      have hKlt : K < 4 * (n : Int) + 4 := by omega
      have hK63 : IntKind.i64.wrap (K + 1) = K + 1 := by rw [IntKind.wrap_i64]; omega
      have HK := hide hK
      have HTT := hide ht
      rw [hK]
      clear hK ht
      go_wp2_with fail
      go_loopg [7, 9] N (fun k o i wt => ∃ j : Nat, j + k = N ∧ i = .int .i64 (j : Int) ∧ Hid (OwnI wt w.heap.size o ((X.drop (4 * n)).take t ++ (l.take j).filter (fun b => decide (X[4 * n + t]? = some b)))) ∧ Hid (Below w.heap.size w wt))
      case atStart => exact ⟨0, by omega, rfl, hide (by simpa using HO.out), HB⟩
      case round =>
        clear HO HB
        obtain ⟨j, hj, rfl, HO, HB⟩ := hrel
        have hx := HO.out
        obtain ⟨oa, on, oc, rfl, -⟩ := hx.form
        clear hx
        cases gk with
        | zero =>
          have hnl : ¬ (j : Int) < (N : Int) := by omega
          have hend : l.take j = l := List.take_of_length_le (by rw [HN.out]; omega)
          rw [hend, ← HX.out, rank_all HRT.out, HX.out, ← chunk_step] at HO
          clear hend
          go_wp2_with fail
          go_roundg m
          case measure => omega
          case rel => exact ⟨t + 1, by have := HTT.out; omega, by rw [← HK.out]; simp; omega, HO, HB⟩
        | succ m2 =>
          have hlt : (j : Int) < (N : Int) := by omega
          have hb0 : (0 : Int) ≤ (j : Int) := by omega
          have hjn : j < N := by omega
          obtain ⟨p, he⟩ : ∃ e, l[j]? = some e := ⟨l[j]'(by rw [HN.out]; omega), by rw [List.getElem?_eq_getElem]⟩
          obtain rfl := H2.out (by rw [HN.out]; omega)
          have k1 := cell_bel HB.out (H3.out j p he)
          have hpr := HRT.out.1 p (List.mem_of_getElem? he)
          have hj63 : IntKind.i64.wrap ((j : Int) + 1) = (j : Int) + 1 := IntWalk.i64_in _ ⟨by omega, by omega⟩
          have q1 : p.tdiv 4096 = p / 4096 := Int.tdiv_eq_ediv_of_nonneg (by omega)
          have q2 : IntKind.i64.wrap (p / 4096) = p / 4096 := by rw [IntKind.wrap_i64]; omega
          have HIFF := hide (rank_iff HRT.out (List.mem_of_getElem? he) d (4 * n + t))
          rw [HX.out] at HIFF
          have HRK := hide (fun wx (hx : Below w.heap.size w wx) => rank_any (HV.out.below hx) HRT.out.1 HLL.out he)
          have HE := hide he
          have HPI : Hid (I64 p) := hide (by unfold I64; omega)
          have HJ := hide hj
          clear he hpr hj
          by_cases c1 : p / 4096 = d
          · have cd : (p / 4096 == d) = true := by simpa using c1
            have HC1 := hide c1
            clear c1
            go_wp2_with fail
            refine (HRK.out _ HB.out).mono ?_
            rintro e w1 ⟨rfl, hb1⟩
            have HB1 := hide (nextB HB.out hb1)
            have HO1 := hide (HO.out.below hb1)
            replace k1 := cell_bel hb1 k1
            obtain ⟨c, hc⟩ : ∃ c, rankS l p = c := ⟨_, rfl⟩
            rw [hc]
            have HC := hide hc
            clear hb1 hc HB HO HRK
            by_cases c2 : (c : Int) = K
            · have cr : ((c : Int) == K) = true := by simpa using c2
              have HF := hide (filt_yes HE.out (P := fun b => decide (X[4 * n + t]? = some b)) (by
                rw [decide_eq_true_eq, ← HIFF.out]
                exact ⟨HC1.out, by rw [HC.out]; have := HK.out; omega⟩))
              have hA := bel_alloc w1 (.cells #[.int .i64 p] 3)
              have hlen : ((X.drop (4 * n)).take t ++ (l.take j).filter (fun b => decide (X[4 * n + t]? = some b))).length + 1 ≤ 10000 := by
                have h1 := List.length_filter_le (fun b => decide (X[4 * n + t]? = some b)) (l.take j)
                have h2 : (l.take j).length ≤ 1000 := by rw [List.length_take]; omega
                have h3 : ((X.drop (4 * n)).take t).length ≤ t := by rw [List.length_take]; omega
                have h4 := HTT.out
                rw [List.length_append]; omega
              obtain ⟨v', w2, hap, hg⟩ := append_i (w1.alloc (.cells #[.int .i64 p] 3)) 22 w.heap.size _ _ _ [p] (HO1.out.below hA) (ints_lit w1 p HPI.out) (by simpa using hlen) (by have := HB1.out.size; simp; omega)
              have HG := hide hg.own
              have HB2 := hide ((nextB HB1.out hA).trans (hg.below (B := w.heap.size) (by have := HB1.out.size; simp; omega) (fun k hk => (HO1.out.lt k hk).1)))
              obtain ⟨pa, pn, pc, rfl, -⟩ := hg.own.form
              have HC2 := hide c2
              clear c2 hA hlen hg HC2
              go_wp2_with (at_builtin; refine wpList_append_eq rfl _ _ rfl rfl rfl hap ?_)
              go_roundg m2
              case measure => omega
              case rel => exact ⟨j + 1, by have := HJ.out; omega, by simp, hide (by rw [HF.out, ← List.append_assoc]; exact HG.out), HB2⟩
            · have cr : ((c : Int) == K) = false := by simpa using c2
              have HF := hide (filt_no HE.out (P := fun b => decide (X[4 * n + t]? = some b)) (by
                rw [decide_eq_false_iff_not, ← HIFF.out]
                exact fun h => c2 (by have := h.2; rw [HC.out] at this; have := HK.out; omega)))
              clear c2
              go_wp2_with fail
              go_roundg m2
              case measure => omega
              case rel => exact ⟨j + 1, by have := HJ.out; omega, by simp, hide (by rw [HF.out]; exact HO1.out), HB1⟩
          · have cd : (p / 4096 == d) = false := by simpa using c1
            have HF := hide (filt_no HE.out (P := fun b => decide (X[4 * n + t]? = some b)) (by
              rw [decide_eq_false_iff_not, ← HIFF.out]
              exact fun h => c1 h.1))
            clear c1
            go_wp2_with fail
            go_roundg m2
            case measure => omega
            case rel => exact ⟨j + 1, by have := HJ.out; omega, by simp, hide (by rw [HF.out]; exact HO.out), HB⟩
end Go.Proofs.Ytnkcebngfnailaa
