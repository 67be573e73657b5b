/- allRight. -/
import Derived.Test.YtcidadikmmdalaaDoorEx
namespace Go.Proofs.YtcidadikmmdalaaDoor
open Go.RowKit Go.Extern

set_option maxRecDepth 100000 in
set_option maxHeartbeats 2000000 in
theorem allRight_any {w : World} {v0 : Value} {l : List En} (hv : Ents w v0 l) :
    Calls Tryd.prog 26 #[v0] w fun e w' => e = .returned (.bool (risB l)) ∧ Below w.heap.size w w' := by
  obtain ⟨ao, cap, g, off, rfl, h2, h3, -, h5, -⟩ := hv
  have H2 := hide h2
  have H3 := hide h3
  obtain ⟨n, hn⟩ : ∃ n, l.length = n := ⟨_, rfl⟩
  rw [hn] at h5 ⊢
  have HN := hide hn
  clear h2 h3 hn
  go_enter Tryd.func26, Tryd.ntmps26
  go_wp2_with fail
  go_loopg [7] n (fun k i wr => ∃ j : Nat, j + k = n ∧ i = .int .i64 (j : Int) ∧ Hid (Ris (l.take j)) ∧ Hid (Below w.heap.size w wr))
  case atStart => exact ⟨0, by omega, rfl, hide Ris.nil, hide (Below.refl _ _)⟩
  case round =>
    obtain ⟨j, hj, rfl, HA, HB⟩ := hrel
    cases gk with
    | zero =>
      have hnl : ¬ (j : Int) < (n : Int) := by omega
      have hend : l.take j = l := List.take_of_length_le (by rw [HN.out]; omega)
      rw [hend] at HA
      clear hend
      go_wp2_with fail
      go_ret
      exact ⟨by rw [risB_iff.2 HA.out]; rfl, HB.out⟩
    | succ m =>
      have hlt : (j : Int) < (n : Int) := by omega
      have hb0 : (0 : Int) ≤ (j : Int) := by omega
      obtain ⟨p, he⟩ : ∃ e, l[j]? = some e := ⟨l[j]'(by rw [HN.out]; omega), by rw [List.getElem?_eq_getElem]⟩
      obtain ⟨k, v⟩ := p
      obtain rfl := H2.out (by rw [HN.out]; omega)
      obtain ⟨k1, k2⟩ := H3.out j (k, v) he
      simp only at k1 k2
      have HE := hide he
      obtain ⟨bx, hbx⟩ : ∃ bx, wr.heap.size = bx := ⟨_, rfl⟩
      have HX := hide hbx
      have HBB := nextB HB.out (bel_alloc wr (.cells #[.int .i64 k, .int .i64 v] 56))
      have B0 : (wr.alloc (.cells #[.int .i64 k, .int .i64 v] 56)).cell? ⟨bx, 0, none⟩ = some (.int .i64 k) := by subst hbx; simp
      have B1 : (wr.alloc (.cells #[.int .i64 k, .int .i64 v] 56)).cell? ⟨bx, 0 + 1, none⟩ = some (.int .i64 v) := by subst hbx; simp
      have Q1 : ∀ (i : Nat) (q : En), l[i]? = some q → (wr.alloc (.cells #[.int .i64 k, .int .i64 v] 56)).cell? ⟨g, off + i * 2, none⟩ = some (.int .i64 q.1) := fun i q hq => cell_bel HBB (H3.out i q hq).1
      have HSB := hide (below_drew0 (wr.alloc (.cells #[.int .i64 k, .int .i64 v] 56)))
      have HB0 := hide B0
      have HB1 := hide B1
      have HQ1 := hide Q1
      have HBN := hide HBB
      replace k1 := cell_bel HB.out k1
      replace k2 := cell_bel HB.out k2
      have hj63 : (j : Int) + 1 < 140737488355328 + 1 := by omega
      clear he HBB B0 B1 Q1 hbx
      go_wp2_with fail
      clear k1 k2
      obtain ⟨wB, hwB⟩ : ∃ wB, wr.alloc (.cells #[.int .i64 k, .int .i64 v] 56) = wB := ⟨_, rfl⟩
      rw [HX.out]
      simp only [hwB] at HB0 HB1 HQ1 HBN HSB ⊢
      clear hwB
      have B0 := HB0.out
      have B1 := HB1.out
      cases hfit : fitB k v with
      | false =>
        have HNR : Hid (¬ Ris l) := hide (fun hr => by
          have h1 := (ris_snoc HE.out).1 (hr.take (j + 1))
          exact fitB_false.1 hfit h1.2.1)
        refine wp_region_held_drew (S := Below wB.heap.size wB) (by kernel_rfl) HSB.out (fun hS => ?_)
        refine take_want 0 (some 12) (.agg #[.int .i64 k, .int .i64 v]) rfl rfl rfl (by kernel_rfl) (by kernel_rfl) (by kernel_rfl) (fun _ _ _ h => h) (fun wx hx => exec_load rfl (load_pairP ⟨cell_bel hx B0, cell_bel hx B1⟩) rfl) hS ?_
        simp only [Act.put, List.setIfInBounds_toArray, List.set_cons_zero, List.set_cons_succ]
        refine call_want 1 (some 13) rfl rfl rfl (by kernel_rfl) (exec_call1 rfl enterIsRight rfl rfl) ((isRight_any k v _).mono ?_)
        rintro e' w' ⟨rfl, hb'⟩
        rw [hfit]
        refine ⟨_, rfl, nextB hS hb', ?_⟩
        replace hS := nextB hS hb'
        clear hb'
        simp only [Act.put, List.setIfInBounds_toArray, List.set_cons_zero, List.set_cons_succ]
        refine take_want 2 (some 14) (.bool true) rfl rfl rfl (by kernel_rfl) (by kernel_rfl) (by kernel_rfl) (fun _ _ _ h => h) (fun wx hx => exec_not (b := false) rfl rfl) hS ?_
        simp only [Act.put, List.setIfInBounds_toArray, List.set_cons_zero, List.set_cons_succ]
        refine take_want 3 (some 15) (.bool true) rfl rfl rfl (by kernel_rfl) (by kernel_rfl) (by kernel_rfl) (fun _ _ _ h => h) (fun wx hx => exec_move rfl rfl) hS ?_
        simp only [Act.put, List.setIfInBounds_toArray, List.set_cons_zero, List.set_cons_succ]
        refine skip_want 4 (some 16) rfl rfl rfl (by kernel_rfl) (by kernel_rfl) (by kernel_rfl) (fun _ _ _ h => h) hS ?_
        simp only [Act.put, List.setIfInBounds_toArray, List.set_cons_zero, List.set_cons_succ]
        refine skip_want 5 (some 17) rfl rfl rfl (by kernel_rfl) (by kernel_rfl) (by kernel_rfl) (fun _ _ _ h => h) hS ?_
        simp only [Act.put, List.setIfInBounds_toArray, List.set_cons_zero, List.set_cons_succ]
        refine skip_want 6 (some 18) rfl rfl rfl (by kernel_rfl) (by kernel_rfl) (by kernel_rfl) (fun _ _ _ h => h) hS ?_
        simp only [Act.put, List.setIfInBounds_toArray, List.set_cons_zero, List.set_cons_succ]
        refine skip_want 7 (some 19) rfl rfl rfl (by kernel_rfl) (by kernel_rfl) (by kernel_rfl) (fun _ _ _ h => h) hS ?_
        simp only [Act.put, List.setIfInBounds_toArray, List.set_cons_zero, List.set_cons_succ]
        refine skip_want 8 (some 20) rfl rfl rfl (by kernel_rfl) (by kernel_rfl) (by kernel_rfl) (fun _ _ _ h => h) hS ?_
        simp only [Act.put, List.setIfInBounds_toArray, List.set_cons_zero, List.set_cons_succ]
        refine skip_want 9 (some 21) rfl rfl rfl (by kernel_rfl) (by kernel_rfl) (by kernel_rfl) (fun _ _ _ h => h) hS ?_
        simp only [Act.put, List.setIfInBounds_toArray, List.set_cons_zero, List.set_cons_succ]
        refine skip_want 10 (some 22) rfl rfl rfl (by kernel_rfl) (by kernel_rfl) (by kernel_rfl) (fun _ _ _ h => h) hS ?_
        simp only [Act.put, List.setIfInBounds_toArray, List.set_cons_zero, List.set_cons_succ]
        refine skip_want 11 (some 23) rfl rfl rfl (by kernel_rfl) (by kernel_rfl) (by kernel_rfl) (fun _ _ _ h => h) hS ?_
        simp only [Act.put, List.setIfInBounds_toArray, List.set_cons_zero, List.set_cons_succ]
        refine skip_want 12 (some 24) rfl rfl rfl (by kernel_rfl) (by kernel_rfl) (by kernel_rfl) (fun _ _ _ h => h) hS ?_
        simp only [Act.put, List.setIfInBounds_toArray, List.set_cons_zero, List.set_cons_succ]
        refine skip_want 13 (some 25) rfl rfl rfl (by kernel_rfl) (by kernel_rfl) (by kernel_rfl) (fun _ _ _ h => h) hS ?_
        simp only [Act.put, List.setIfInBounds_toArray, List.set_cons_zero, List.set_cons_succ]
        refine skip_want 14 (some 26) rfl rfl rfl (by kernel_rfl) (by kernel_rfl) (by kernel_rfl) (fun _ _ _ h => h) hS ?_
        simp only [Act.put, List.setIfInBounds_toArray, List.set_cons_zero, List.set_cons_succ]
        refine skip_want 15 (some 27) rfl rfl rfl (by kernel_rfl) (by kernel_rfl) (by kernel_rfl) (fun _ _ _ h => h) hS ?_
        simp only [Act.put, List.setIfInBounds_toArray, List.set_cons_zero, List.set_cons_succ]
        refine skip_want 16 (some 28) rfl rfl rfl (by kernel_rfl) (by kernel_rfl) (by kernel_rfl) (fun _ _ _ h => h) hS ?_
        simp only [Act.put, List.setIfInBounds_toArray, List.set_cons_zero, List.set_cons_succ]
        refine take_want 17 (some 29) (.bool true) rfl rfl rfl (by kernel_rfl) (by kernel_rfl) (by kernel_rfl) (fun _ _ _ h => h) (fun wx hx => exec_pickT rfl rfl rfl) hS ?_
        simp only [Act.put, List.setIfInBounds_toArray, List.set_cons_zero, List.set_cons_succ]
        refine wpAnyH_done (by kernel_rfl) ?_ _
        go_wp2_with fail
        go_ret
        exact ⟨by rw [risB_false.2 HNR.out]; rfl, nextB HBN.out hS⟩
      | true =>
        cases j with
        | zero =>
          have HR1 : Hid (Ris (l.take 1)) := hide ((ris_snoc HE.out).2 ⟨HA.out, fitB_iff.1 hfit, fun q h0 => by omega⟩)
          have hgt : decide ((0 : Int) < ((0 : Nat) : Int)) = false := by simp
          refine wp_region_held_drew (S := Below wB.heap.size wB) (by kernel_rfl) HSB.out (fun hS => ?_)
          refine take_want 0 (some 12) (.agg #[.int .i64 k, .int .i64 v]) rfl rfl rfl (by kernel_rfl) (by kernel_rfl) (by kernel_rfl) (fun _ _ _ h => h) (fun wx hx => exec_load rfl (load_pairP ⟨cell_bel hx B0, cell_bel hx B1⟩) rfl) hS ?_
          simp only [Act.put, List.setIfInBounds_toArray, List.set_cons_zero, List.set_cons_succ]
          refine call_want 1 (some 13) rfl rfl rfl (by kernel_rfl) (exec_call1 rfl enterIsRight rfl rfl) ((isRight_any k v _).mono ?_)
          rintro e' w' ⟨rfl, hb'⟩
          rw [hfit]
          refine ⟨_, rfl, nextB hS hb', ?_⟩
          replace hS := nextB hS hb'
          clear hb'
          simp only [Act.put, List.setIfInBounds_toArray, List.set_cons_zero, List.set_cons_succ]
          refine take_want 2 (some 14) (.bool false) rfl rfl rfl (by kernel_rfl) (by kernel_rfl) (by kernel_rfl) (fun _ _ _ h => h) (fun wx hx => exec_not (b := true) rfl rfl) hS ?_
          simp only [Act.put, List.setIfInBounds_toArray, List.set_cons_zero, List.set_cons_succ]
          refine take_want 3 (some 15) (.bool false) rfl rfl rfl (by kernel_rfl) (by kernel_rfl) (by kernel_rfl) (fun _ _ _ h => h) (fun wx hx => exec_move rfl rfl) hS ?_
          simp only [Act.put, List.setIfInBounds_toArray, List.set_cons_zero, List.set_cons_succ]
          refine take_want 4 (some 16) (.int .i64 ((0 : Nat) : Int)) rfl rfl rfl (by kernel_rfl) (by kernel_rfl) (by kernel_rfl) (fun _ _ _ h => h) (fun wx hx => exec_move rfl rfl) hS ?_
          simp only [Act.put, List.setIfInBounds_toArray, List.set_cons_zero, List.set_cons_succ]
          refine take_want 5 (some 17) (.bool false) rfl rfl rfl (by kernel_rfl) (by kernel_rfl) (by kernel_rfl) (fun _ _ _ h => h) (fun wx hx => exec_gtr rfl rfl rfl hgt) hS ?_
          simp only [Act.put, List.setIfInBounds_toArray, List.set_cons_zero, List.set_cons_succ]
          refine take_want 6 (some 18) (.bool false) rfl rfl rfl (by kernel_rfl) (by kernel_rfl) (by kernel_rfl) (fun _ _ _ h => h) (fun wx hx => exec_move rfl rfl) hS ?_
          simp only [Act.put, List.setIfInBounds_toArray, List.set_cons_zero, List.set_cons_succ]
          refine skip_want 7 (some 19) rfl rfl rfl (by kernel_rfl) (by kernel_rfl) (by kernel_rfl) (fun _ _ _ h => h) hS ?_
          simp only [Act.put, List.setIfInBounds_toArray, List.set_cons_zero, List.set_cons_succ]
          refine skip_want 8 (some 20) rfl rfl rfl (by kernel_rfl) (by kernel_rfl) (by kernel_rfl) (fun _ _ _ h => h) hS ?_
          simp only [Act.put, List.setIfInBounds_toArray, List.set_cons_zero, List.set_cons_succ]
          refine skip_want 9 (some 21) rfl rfl rfl (by kernel_rfl) (by kernel_rfl) (by kernel_rfl) (fun _ _ _ h => h) hS ?_
          simp only [Act.put, List.setIfInBounds_toArray, List.set_cons_zero, List.set_cons_succ]
          refine skip_want 10 (some 22) rfl rfl rfl (by kernel_rfl) (by kernel_rfl) (by kernel_rfl) (fun _ _ _ h => h) hS ?_
          simp only [Act.put, List.setIfInBounds_toArray, List.set_cons_zero, List.set_cons_succ]
          refine skip_want 11 (some 23) rfl rfl rfl (by kernel_rfl) (by kernel_rfl) (by kernel_rfl) (fun _ _ _ h => h) hS ?_
          simp only [Act.put, List.setIfInBounds_toArray, List.set_cons_zero, List.set_cons_succ]
          refine skip_want 12 (some 24) rfl rfl rfl (by kernel_rfl) (by kernel_rfl) (by kernel_rfl) (fun _ _ _ h => h) hS ?_
          simp only [Act.put, List.setIfInBounds_toArray, List.set_cons_zero, List.set_cons_succ]
          refine skip_want 13 (some 25) rfl rfl rfl (by kernel_rfl) (by kernel_rfl) (by kernel_rfl) (fun _ _ _ h => h) hS ?_
          simp only [Act.put, List.setIfInBounds_toArray, List.set_cons_zero, List.set_cons_succ]
          refine skip_want 14 (some 26) rfl rfl rfl (by kernel_rfl) (by kernel_rfl) (by kernel_rfl) (fun _ _ _ h => h) hS ?_
          simp only [Act.put, List.setIfInBounds_toArray, List.set_cons_zero, List.set_cons_succ]
          refine skip_want 15 (some 27) rfl rfl rfl (by kernel_rfl) (by kernel_rfl) (by kernel_rfl) (fun _ _ _ h => h) hS ?_
          simp only [Act.put, List.setIfInBounds_toArray, List.set_cons_zero, List.set_cons_succ]
          refine take_want 16 (some 28) (.bool false) rfl rfl rfl (by kernel_rfl) (by kernel_rfl) (by kernel_rfl) (fun _ _ _ h => h) (fun wx hx => exec_pickF rfl rfl rfl) hS ?_
          simp only [Act.put, List.setIfInBounds_toArray, List.set_cons_zero, List.set_cons_succ]
          refine take_want 17 (some 29) (.bool false) rfl rfl rfl (by kernel_rfl) (by kernel_rfl) (by kernel_rfl) (fun _ _ _ h => h) (fun wx hx => exec_pickF rfl rfl rfl) hS ?_
          simp only [Act.put, List.setIfInBounds_toArray, List.set_cons_zero, List.set_cons_succ]
          refine wpAnyH_done (by kernel_rfl) ?_ _
          go_wp2_with fail
          go_roundg m
          case measure => omega
          case rel => exact ⟨1, by omega, by go_num, HR1, hide (nextB HBN.out hS)⟩
        | succ i =>
          obtain ⟨⟨q, q2⟩, hq⟩ : ∃ q, l[i]? = some q := ⟨l[i]'(by rw [HN.out]; omega), by rw [List.getElem?_eq_getElem]⟩
          have Q0 := HQ1.out i _ hq
          simp only at Q0
          have hil : i < n := by omega
          have hgt : decide ((0 : Int) < ((i + 1 : Nat) : Int)) = true := decide_eq_true (by omega)
          have hsub : ((i + 1 : Nat) : Int) - 1 = (i : Int) := by omega
          have hs1 : (-9223372036854775808 : Int) ≤ (i : Int) := by omega
          have hs2 : (i : Int) < 9223372036854775808 := by omega
          have HQ := hide hq
          have HFT := hide (fitB_iff.1 hfit)
          clear hq
          by_cases hlt2 : q < k
          · have HR1 : Hid (Ris (l.take (i + 1 + 1))) := hide ((ris_snoc HE.out).2 ⟨HA.out, HFT.out, fun q' h0 hq' => by
              rw [show i + 1 - 1 = i by omega, HQ.out] at hq'
              cases hq'; exact hlt2⟩)
            have hle : decide (k ≤ q) = false := by simp; omega
            refine wp_region_held_drew (S := Below wB.heap.size wB) (by kernel_rfl) HSB.out (fun hS => ?_)
            refine take_want 0 (some 12) (.agg #[.int .i64 k, .int .i64 v]) rfl rfl rfl (by kernel_rfl) (by kernel_rfl) (by kernel_rfl) (fun _ _ _ h => h) (fun wx hx => exec_load rfl (load_pairP ⟨cell_bel hx B0, cell_bel hx B1⟩) rfl) hS ?_
            simp only [Act.put, List.setIfInBounds_toArray, List.set_cons_zero, List.set_cons_succ]
            refine call_want 1 (some 13) rfl rfl rfl (by kernel_rfl) (exec_call1 rfl enterIsRight rfl rfl) ((isRight_any k v _).mono ?_)
            rintro e' w' ⟨rfl, hb'⟩
            rw [hfit]
            refine ⟨_, rfl, nextB hS hb', ?_⟩
            replace hS := nextB hS hb'
            clear hb'
            simp only [Act.put, List.setIfInBounds_toArray, List.set_cons_zero, List.set_cons_succ]
            refine take_want 2 (some 14) (.bool false) rfl rfl rfl (by kernel_rfl) (by kernel_rfl) (by kernel_rfl) (fun _ _ _ h => h) (fun wx hx => exec_not (b := true) rfl rfl) hS ?_
            simp only [Act.put, List.setIfInBounds_toArray, List.set_cons_zero, List.set_cons_succ]
            refine take_want 3 (some 15) (.bool false) rfl rfl rfl (by kernel_rfl) (by kernel_rfl) (by kernel_rfl) (fun _ _ _ h => h) (fun wx hx => exec_move rfl rfl) hS ?_
            simp only [Act.put, List.setIfInBounds_toArray, List.set_cons_zero, List.set_cons_succ]
            refine take_want 4 (some 16) (.int .i64 ((i + 1 : Nat) : Int)) rfl rfl rfl (by kernel_rfl) (by kernel_rfl) (by kernel_rfl) (fun _ _ _ h => h) (fun wx hx => exec_move rfl rfl) hS ?_
            simp only [Act.put, List.setIfInBounds_toArray, List.set_cons_zero, List.set_cons_succ]
            refine take_want 5 (some 17) (.bool true) rfl rfl rfl (by kernel_rfl) (by kernel_rfl) (by kernel_rfl) (fun _ _ _ h => h) (fun wx hx => exec_gtr rfl rfl rfl hgt) hS ?_
            simp only [Act.put, List.setIfInBounds_toArray, List.set_cons_zero, List.set_cons_succ]
            refine take_want 6 (some 18) (.bool true) rfl rfl rfl (by kernel_rfl) (by kernel_rfl) (by kernel_rfl) (fun _ _ _ h => h) (fun wx hx => exec_move rfl rfl) hS ?_
            simp only [Act.put, List.setIfInBounds_toArray, List.set_cons_zero, List.set_cons_succ]
            refine take_want 7 (some 19) (.pointer (some ⟨bx, 0, none⟩)) rfl rfl rfl (by kernel_rfl) (by kernel_rfl) (by kernel_rfl) (fun _ _ _ h => h) (fun wx hx => exec_field rfl (fldP0 _ _ wx) rfl) hS ?_
            simp only [Act.put, List.setIfInBounds_toArray, List.set_cons_zero, List.set_cons_succ]
            refine take_want 8 (some 20) (.int .i64 k) rfl rfl rfl (by kernel_rfl) (by kernel_rfl) (by kernel_rfl) (fun _ _ _ h => h) (fun wx hx => exec_load rfl (load_intP (cell_bel hx B0)) rfl) hS ?_
            simp only [Act.put, List.setIfInBounds_toArray, List.set_cons_zero, List.set_cons_succ]
            refine take_want 9 (some 21) (.slice (some ⟨g, off, none⟩) n cap) rfl rfl rfl (by kernel_rfl) (by kernel_rfl) (by kernel_rfl) (fun _ _ _ h => h) (fun wx hx => exec_move rfl rfl) hS ?_
            simp only [Act.put, List.setIfInBounds_toArray, List.set_cons_zero, List.set_cons_succ]
            refine take_want 10 (some 22) (.int .i64 ((i + 1 : Nat) : Int)) rfl rfl rfl (by kernel_rfl) (by kernel_rfl) (by kernel_rfl) (fun _ _ _ h => h) (fun wx hx => exec_move rfl rfl) hS ?_
            simp only [Act.put, List.setIfInBounds_toArray, List.set_cons_zero, List.set_cons_succ]
            refine take_want 11 (some 23) (.int .i64 (i : Int)) rfl rfl rfl (by kernel_rfl) (by kernel_rfl) (by kernel_rfl) (fun _ _ _ h => h) (fun wx hx => exec_subN rfl rfl rfl hsub hs1 hs2) hS ?_
            simp only [Act.put, List.setIfInBounds_toArray, List.set_cons_zero, List.set_cons_succ]
            refine take_want 12 (some 24) (.pointer (some ⟨g, off + i * 2, none⟩)) rfl rfl rfl (by kernel_rfl) (by kernel_rfl) (by kernel_rfl) (fun _ _ _ h => h) (fun wx hx => exec_index rfl (index_pairs hil) rfl rfl) hS ?_
            simp only [Act.put, List.setIfInBounds_toArray, List.set_cons_zero, List.set_cons_succ]
            refine take_want 13 (some 25) (.pointer (some ⟨g, off + i * 2, none⟩)) rfl rfl rfl (by kernel_rfl) (by kernel_rfl) (by kernel_rfl) (fun _ _ _ h => h) (fun wx hx => exec_field rfl (fldP0 _ _ wx) rfl) hS ?_
            simp only [Act.put, List.setIfInBounds_toArray, List.set_cons_zero, List.set_cons_succ]
            refine take_want 14 (some 26) (.int .i64 q) rfl rfl rfl (by kernel_rfl) (by kernel_rfl) (by kernel_rfl) (fun _ _ _ h => h) (fun wx hx => exec_load rfl (load_intP (cell_bel hx Q0)) rfl) hS ?_
            simp only [Act.put, List.setIfInBounds_toArray, List.set_cons_zero, List.set_cons_succ]
            refine take_want 15 (some 27) (.bool false) rfl rfl rfl (by kernel_rfl) (by kernel_rfl) (by kernel_rfl) (fun _ _ _ h => h) (fun wx hx => exec_leq rfl rfl rfl hle) hS ?_
            simp only [Act.put, List.setIfInBounds_toArray, List.set_cons_zero, List.set_cons_succ]
            refine take_want 16 (some 28) (.bool false) rfl rfl rfl (by kernel_rfl) (by kernel_rfl) (by kernel_rfl) (fun _ _ _ h => h) (fun wx hx => exec_pickT rfl rfl rfl) hS ?_
            simp only [Act.put, List.setIfInBounds_toArray, List.set_cons_zero, List.set_cons_succ]
            refine take_want 17 (some 29) (.bool false) rfl rfl rfl (by kernel_rfl) (by kernel_rfl) (by kernel_rfl) (fun _ _ _ h => h) (fun wx hx => exec_pickF rfl rfl rfl) hS ?_
            simp only [Act.put, List.setIfInBounds_toArray, List.set_cons_zero, List.set_cons_succ]
            refine wpAnyH_done (by kernel_rfl) ?_ _
            go_wp2_with fail
            go_roundg m
            case measure => omega
            case rel => exact ⟨i + 1 + 1, by omega, by go_num, HR1, hide (nextB HBN.out hS)⟩
          · have HNR : Hid (¬ Ris l) := hide (fun hr => by
              have h1 := (ris_snoc HE.out).1 (hr.take (i + 1 + 1))
              have := h1.2.2 (q, q2) (by omega) (by rw [show i + 1 - 1 = i by omega]; exact HQ.out)
              simp only at this; omega)
            have hle : decide (k ≤ q) = true := by simp; omega
            refine wp_region_held_drew (S := Below wB.heap.size wB) (by kernel_rfl) HSB.out (fun hS => ?_)
            refine take_want 0 (some 12) (.agg #[.int .i64 k, .int .i64 v]) rfl rfl rfl (by kernel_rfl) (by kernel_rfl) (by kernel_rfl) (fun _ _ _ h => h) (fun wx hx => exec_load rfl (load_pairP ⟨cell_bel hx B0, cell_bel hx B1⟩) rfl) hS ?_
            simp only [Act.put, List.setIfInBounds_toArray, List.set_cons_zero, List.set_cons_succ]
            refine call_want 1 (some 13) rfl rfl rfl (by kernel_rfl) (exec_call1 rfl enterIsRight rfl rfl) ((isRight_any k v _).mono ?_)
            rintro e' w' ⟨rfl, hb'⟩
            rw [hfit]
            refine ⟨_, rfl, nextB hS hb', ?_⟩
            replace hS := nextB hS hb'
            clear hb'
            simp only [Act.put, List.setIfInBounds_toArray, List.set_cons_zero, List.set_cons_succ]
            refine take_want 2 (some 14) (.bool false) rfl rfl rfl (by kernel_rfl) (by kernel_rfl) (by kernel_rfl) (fun _ _ _ h => h) (fun wx hx => exec_not (b := true) rfl rfl) hS ?_
            simp only [Act.put, List.setIfInBounds_toArray, List.set_cons_zero, List.set_cons_succ]
            refine take_want 3 (some 15) (.bool false) rfl rfl rfl (by kernel_rfl) (by kernel_rfl) (by kernel_rfl) (fun _ _ _ h => h) (fun wx hx => exec_move rfl rfl) hS ?_
            simp only [Act.put, List.setIfInBounds_toArray, List.set_cons_zero, List.set_cons_succ]
            refine take_want 4 (some 16) (.int .i64 ((i + 1 : Nat) : Int)) rfl rfl rfl (by kernel_rfl) (by kernel_rfl) (by kernel_rfl) (fun _ _ _ h => h) (fun wx hx => exec_move rfl rfl) hS ?_
            simp only [Act.put, List.setIfInBounds_toArray, List.set_cons_zero, List.set_cons_succ]
            refine take_want 5 (some 17) (.bool true) rfl rfl rfl (by kernel_rfl) (by kernel_rfl) (by kernel_rfl) (fun _ _ _ h => h) (fun wx hx => exec_gtr rfl rfl rfl hgt) hS ?_
            simp only [Act.put, List.setIfInBounds_toArray, List.set_cons_zero, List.set_cons_succ]
            refine take_want 6 (some 18) (.bool true) rfl rfl rfl (by kernel_rfl) (by kernel_rfl) (by kernel_rfl) (fun _ _ _ h => h) (fun wx hx => exec_move rfl rfl) hS ?_
            simp only [Act.put, List.setIfInBounds_toArray, List.set_cons_zero, List.set_cons_succ]
            refine take_want 7 (some 19) (.pointer (some ⟨bx, 0, none⟩)) rfl rfl rfl (by kernel_rfl) (by kernel_rfl) (by kernel_rfl) (fun _ _ _ h => h) (fun wx hx => exec_field rfl (fldP0 _ _ wx) rfl) hS ?_
            simp only [Act.put, List.setIfInBounds_toArray, List.set_cons_zero, List.set_cons_succ]
            refine take_want 8 (some 20) (.int .i64 k) rfl rfl rfl (by kernel_rfl) (by kernel_rfl) (by kernel_rfl) (fun _ _ _ h => h) (fun wx hx => exec_load rfl (load_intP (cell_bel hx B0)) rfl) hS ?_
            simp only [Act.put, List.setIfInBounds_toArray, List.set_cons_zero, List.set_cons_succ]
            refine take_want 9 (some 21) (.slice (some ⟨g, off, none⟩) n cap) rfl rfl rfl (by kernel_rfl) (by kernel_rfl) (by kernel_rfl) (fun _ _ _ h => h) (fun wx hx => exec_move rfl rfl) hS ?_
            simp only [Act.put, List.setIfInBounds_toArray, List.set_cons_zero, List.set_cons_succ]
            refine take_want 10 (some 22) (.int .i64 ((i + 1 : Nat) : Int)) rfl rfl rfl (by kernel_rfl) (by kernel_rfl) (by kernel_rfl) (fun _ _ _ h => h) (fun wx hx => exec_move rfl rfl) hS ?_
            simp only [Act.put, List.setIfInBounds_toArray, List.set_cons_zero, List.set_cons_succ]
            refine take_want 11 (some 23) (.int .i64 (i : Int)) rfl rfl rfl (by kernel_rfl) (by kernel_rfl) (by kernel_rfl) (fun _ _ _ h => h) (fun wx hx => exec_subN rfl rfl rfl hsub hs1 hs2) hS ?_
            simp only [Act.put, List.setIfInBounds_toArray, List.set_cons_zero, List.set_cons_succ]
            refine take_want 12 (some 24) (.pointer (some ⟨g, off + i * 2, none⟩)) rfl rfl rfl (by kernel_rfl) (by kernel_rfl) (by kernel_rfl) (fun _ _ _ h => h) (fun wx hx => exec_index rfl (index_pairs hil) rfl rfl) hS ?_
            simp only [Act.put, List.setIfInBounds_toArray, List.set_cons_zero, List.set_cons_succ]
            refine take_want 13 (some 25) (.pointer (some ⟨g, off + i * 2, none⟩)) rfl rfl rfl (by kernel_rfl) (by kernel_rfl) (by kernel_rfl) (fun _ _ _ h => h) (fun wx hx => exec_field rfl (fldP0 _ _ wx) rfl) hS ?_
            simp only [Act.put, List.setIfInBounds_toArray, List.set_cons_zero, List.set_cons_succ]
            refine take_want 14 (some 26) (.int .i64 q) rfl rfl rfl (by kernel_rfl) (by kernel_rfl) (by kernel_rfl) (fun _ _ _ h => h) (fun wx hx => exec_load rfl (load_intP (cell_bel hx Q0)) rfl) hS ?_
            simp only [Act.put, List.setIfInBounds_toArray, List.set_cons_zero, List.set_cons_succ]
            refine take_want 15 (some 27) (.bool true) rfl rfl rfl (by kernel_rfl) (by kernel_rfl) (by kernel_rfl) (fun _ _ _ h => h) (fun wx hx => exec_leq rfl rfl rfl hle) hS ?_
            simp only [Act.put, List.setIfInBounds_toArray, List.set_cons_zero, List.set_cons_succ]
            refine take_want 16 (some 28) (.bool true) rfl rfl rfl (by kernel_rfl) (by kernel_rfl) (by kernel_rfl) (fun _ _ _ h => h) (fun wx hx => exec_pickT rfl rfl rfl) hS ?_
            simp only [Act.put, List.setIfInBounds_toArray, List.set_cons_zero, List.set_cons_succ]
            refine take_want 17 (some 29) (.bool true) rfl rfl rfl (by kernel_rfl) (by kernel_rfl) (by kernel_rfl) (fun _ _ _ h => h) (fun wx hx => exec_pickF rfl rfl rfl) hS ?_
            simp only [Act.put, List.setIfInBounds_toArray, List.set_cons_zero, List.set_cons_succ]
            refine wpAnyH_done (by kernel_rfl) ?_ _
            go_wp2_with fail
            go_ret
            exact ⟨by rw [risB_false.2 HNR.out]; rfl, nextB HBN.out hS⟩
end Go.Proofs.YtcidadikmmdalaaDoor
