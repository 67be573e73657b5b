/- The law NodeParts. -/
import Derived.Test.YtcidadikmmdalaaAw
import Derived.Test.YtcidadikmmdalaaRi
namespace Go.Proofs.Ytcidadikmmdalaa
open Go.RowKit Go.Extern

theorem enterAwake (args : Array Value) (w : World) : (callFunc 8 args).run Try.prog w = .ok (.enter 8 args) w := by kernel_rfl
theorem put_len {K V : List Int} {L : Int} (h : Rt L K V) (k v : Int) : 1 ≤ (putS (K.zip V) k v).length ∧ (putS (K.zip V) k v).length ≤ 8 := by
  have hu : Up ((K.zip V).map Prod.fst) := by rw [zip_fst h.same]; exact h.up
  have h1 := h.len
  have h2 := h.few
  have h3 := h.pos
  refine ⟨by unfold putS; simp only [List.length_append, List.length_cons]; omega, ?_⟩
  unfold putS loS hiS
  have : ∀ l : List En, (l.filter (fun p => decide (p.1 < k))).length + (l.filter (fun p => decide (k < p.1))).length ≤ l.length := fun l => by
    induction l with
    | nil => simp
    | cons a l ih =>
      by_cases ha : a.1 < k
      · have hb : ¬ k < a.1 := by omega
        simp only [List.filter_cons, ha, hb, decide_true, decide_false, if_true, List.length_cons]
        simp only [Bool.false_eq_true, if_false]
        omega
      · by_cases hb : k < a.1
        · simp only [List.filter_cons, ha, hb, decide_true, decide_false, if_true, List.length_cons]
          simp only [Bool.false_eq_true, if_false]
          omega
        · simp only [List.filter_cons, ha, hb, decide_false, List.length_cons]
          simp only [Bool.false_eq_true, if_false]
          omega
  have := this (K.zip V)
  simp only [List.length_append, List.length_cons]
  omega
theorem cutS_one {L : Int} {l : List En} (h1 : 1 ≤ l.length) (h2 : l.length ≤ 7) : cutS L l = [(L, l)] := by unfold cutS; rw [if_neg (by omega), if_pos h2]
theorem cutS_two {L : Int} {l : List En} (h2 : ¬ l.length ≤ 7) : cutS L l = [(L, l.take 4), (L, l.drop 4)] := by unfold cutS; rw [if_neg (by omega), if_neg h2]

set_option maxRecDepth 100000 in
set_option maxHeartbeats 2000000 in
theorem partsL_any {w : World} {kv vv : Value} {K V : List Int} (L : Int) (hk : Ints w kv K) (hv : Ints w vv V) (k v : Int) :
    Calls Try.prog 6 #[.agg #[.int .i64 L, kv, vv], .int .i64 k, .int .i64 v] w fun e w' => e = .returned (.bool true) ∧ Below w.heap.size w w' := by
  have HBA := hide (bel_alloc w (.cells #[.int .i64 L, kv, vv] 24))
  have HK := hide (hk.below HBA.out)
  have HV := hide (hv.below HBA.out)
  have HX := hide (BoxN.new 24 w L kv vv)
  obtain ⟨aK, nK, cK, hkf, -⟩ := hk.form
  obtain ⟨aV, nV, cV, hvf, -⟩ := hv.form
  clear hk hv
  subst hkf hvf
  by_cases hR : Rt L K V
  · have hrt := rtB_iff.2 hR
    cases hfit : fitB k v with
    | false =>
      clear hR
      go_enter Try.func6, Try.ntmps6
      go_wp2_with (first
        | (go_at_call 13; refine (right_any L HK.out HV.out).mono ?_; rintro e w1 ⟨rfl, hb1⟩; rw [hrt]; have HB1 := hide (nextB HBA.out hb1); clear hb1)
        | (go_at_call 17; refine (fits_any k v _).mono ?_; rintro e w2 ⟨rfl, rfl⟩; rw [hfit])
        | (go_at_call 8; refine (awake_any _).mono ?_; rintro e w3 ⟨rfl, hb3⟩; have HB3 := hide (nextB HB1.out hb3); clear hb3))
      go_ret
      exact ⟨rfl, HB3.out⟩
    | true =>
      have HR := hide hR
      clear hR
      go_enter Try.func6, Try.ntmps6
      go_wp2_with fail
      refine (right_any L HK.out HV.out).mono ?_
      rintro e w1 ⟨rfl, hb1⟩
      rw [hrt]
      have HB1 := hide hb1
      clear hb1
      go_wp2_with fail
      refine (fits_any k v _).mono ?_
      rintro e w2 ⟨rfl, rfl⟩
      rw [hfit]
      obtain ⟨x0, x1, x2⟩ := (HX.out.below HB1.out).cells
      go_wp2_with fail
      clear x0 x1 x2
      refine (of_any L (HK.out.below HB1.out) (HV.out.below HB1.out) (by have := HR.out.few; omega) (by have := HR.out.few; have := HR.out.same; omega)).mono ?_
      rintro e w3 ⟨kv3, vv3, rfl, ht3, hb3⟩
      have HI3 := hide ht3.ints
      obtain ⟨aK3, nK3, cK3, rfl, -⟩ := ht3.hk.form
      obtain ⟨aV3, nV3, cV3, rfl, -⟩ := ht3.hv.form
      have HB3 := hide (nextB HB1.out hb3)
      clear ht3 hb3
      go_wp2_with fail
      refine (put_ok HI3.out.1 HI3.out.2 HR.out hfit).mono ?_
      rintro e w4 ⟨v4, rfl, hn4, hb4⟩
      rw [errV_zero]
      have HB4 := hide (nextB HBA.out (nextB HB3.out hb4))
      obtain ⟨X0, -, -⟩ := (HX.out.below (nextB HB3.out hb4)).cells
      have HX0 := hide X0
      have HSB := hide (below_drew0 w4)
      have hris := ris_putS HR.out.ris (fitB_iff.1 hfit)
      obtain ⟨hl1, hl8⟩ := put_len HR.out k v
      obtain ⟨l, hl⟩ : ∃ l, putS (K.zip V) k v = l := ⟨_, rfl⟩
      rw [hl] at hn4 hris hl1 hl8
      clear hb4 X0 hl
      by_cases h7 : l.length ≤ 7
      · rw [cutS_one hl1 h7] at hn4
        obtain ⟨g, cap, kv4, vv4, rfl, N00, N01, -, hk4, -⟩ := hn4.open1
        obtain ⟨ak0, n0, ck0, rfl, hn0⟩ := hk4.form
        have hn7 : n0 ≤ 7 := by have := hn0.out; rw [List.length_map] at this; omega
        have HN00 := hide N00
        have HN01 := hide N01
        clear hk4 hn4 hris hl1 hl8 h7 N00 N01 hn0
        go_wp2_with fail
        have X0 := HX0.out
        have N00 := HN00.out
        have N01 := HN01.out
        refine wp_region_held_drew (S := Below w4.heap.size w4) (by kernel_rfl) HSB.out (fun hS => ?_)
        refine take_want 0 (some 32) (.slice (some ⟨g, 0, none⟩) 1 cap) rfl rfl rfl (by kernel_rfl) (by kernel_rfl) (by kernel_rfl) (fun _ _ _ h => h) (fun wx hx => exec_move rfl rfl) hS ?_
        simp only [Act.put, List.setIfInBounds_toArray, List.set_cons_zero, List.set_cons_succ]
        refine take_want 1 (some 33) (.pointer (some ⟨g, 0 + 0 * 3, none⟩)) rfl rfl rfl (by kernel_rfl) (by kernel_rfl) (by kernel_rfl) (fun _ _ _ h => h) (fun wx hx => exec_index rfl (index_nodes (i := 0) (by omega)) rfl rfl) hS ?_
        simp only [Act.put, List.setIfInBounds_toArray, List.set_cons_zero, List.set_cons_succ]
        refine take_want 2 (some 34) (.pointer (some ⟨g, 0 + 0 * 3 + 1, none⟩)) rfl rfl rfl (by kernel_rfl) (by kernel_rfl) (by kernel_rfl) (fun _ _ _ h => h) (fun wx hx => exec_field rfl (fldN1 _ _ wx) rfl) hS ?_
        simp only [Act.put, List.setIfInBounds_toArray, List.set_cons_zero, List.set_cons_succ]
        refine take_want 3 (some 35) (.slice ak0 n0 ck0) rfl rfl rfl (by kernel_rfl) (by kernel_rfl) (by kernel_rfl) (fun _ _ _ h => h) (fun wx hx => exec_load rfl (load_intsP (cell_bel hx N01)) rfl) hS ?_
        simp only [Act.put, List.setIfInBounds_toArray, List.set_cons_zero, List.set_cons_succ]
        refine take_want 4 (some 36) (.int .i64 (n0 : Int)) rfl rfl rfl (by kernel_rfl) (by kernel_rfl) (by kernel_rfl) (fun _ _ _ h => h) (fun wx hx => exec_len rfl (len_ints _ _ _ _) rfl) hS ?_
        simp only [Act.put, List.setIfInBounds_toArray, List.set_cons_zero, List.set_cons_succ]
        refine take_want 5 (some 37) (.bool true) rfl rfl rfl (by kernel_rfl) (by kernel_rfl) (by kernel_rfl) (fun _ _ _ h => h) (fun wx hx => exec_leq rfl rfl rfl (decide_eq_true (by omega))) hS ?_
        simp only [Act.put, List.setIfInBounds_toArray, List.set_cons_zero, List.set_cons_succ]
        refine take_want 6 (some 38) (.bool true) rfl rfl rfl (by kernel_rfl) (by kernel_rfl) (by kernel_rfl) (fun _ _ _ h => h) (fun wx hx => exec_move rfl rfl) hS ?_
        simp only [Act.put, List.setIfInBounds_toArray, List.set_cons_zero, List.set_cons_succ]
        refine take_want 7 (some 39) (.slice (some ⟨g, 0, none⟩) 1 cap) rfl rfl rfl (by kernel_rfl) (by kernel_rfl) (by kernel_rfl) (fun _ _ _ h => h) (fun wx hx => exec_move rfl rfl) hS ?_
        simp only [Act.put, List.setIfInBounds_toArray, List.set_cons_zero, List.set_cons_succ]
        refine take_want 8 (some 40) (.pointer (some ⟨g, 0 + 0 * 3, none⟩)) rfl rfl rfl (by kernel_rfl) (by kernel_rfl) (by kernel_rfl) (fun _ _ _ h => h) (fun wx hx => exec_index rfl (index_nodes (i := 0) (by omega)) rfl rfl) hS ?_
        simp only [Act.put, List.setIfInBounds_toArray, List.set_cons_zero, List.set_cons_succ]
        refine take_want 9 (some 41) (.pointer (some ⟨g, 0 + 0 * 3, none⟩)) rfl rfl rfl (by kernel_rfl) (by kernel_rfl) (by kernel_rfl) (fun _ _ _ h => h) (fun wx hx => exec_field rfl (fldN0 _ _ wx) rfl) hS ?_
        simp only [Act.put, List.setIfInBounds_toArray, List.set_cons_zero, List.set_cons_succ]
        refine take_want 10 (some 42) (.int .i64 L) rfl rfl rfl (by kernel_rfl) (by kernel_rfl) (by kernel_rfl) (fun _ _ _ h => h) (fun wx hx => exec_load rfl (load_intP (cell_bel hx N00)) rfl) hS ?_
        simp only [Act.put, List.setIfInBounds_toArray, List.set_cons_zero, List.set_cons_succ]
        refine take_want 11 (some 43) (.pointer (some ⟨w.heap.size, 0, none⟩)) rfl rfl rfl (by kernel_rfl) (by kernel_rfl) (by kernel_rfl) (fun _ _ _ h => h) (fun wx hx => exec_field rfl (fldR0 _ _ wx) rfl) hS ?_
        simp only [Act.put, List.setIfInBounds_toArray, List.set_cons_zero, List.set_cons_succ]
        refine take_want 12 (some 44) (.int .i64 L) rfl rfl rfl (by kernel_rfl) (by kernel_rfl) (by kernel_rfl) (fun _ _ _ h => h) (fun wx hx => exec_load rfl (load_intP (cell_bel hx X0)) rfl) hS ?_
        simp only [Act.put, List.setIfInBounds_toArray, List.set_cons_zero, List.set_cons_succ]
        refine take_want 13 (some 45) (.bool true) rfl rfl rfl (by kernel_rfl) (by kernel_rfl) (by kernel_rfl) (fun _ _ _ h => h) (fun wx hx => exec_eql rfl rfl rfl (decide_eq_true rfl)) hS ?_
        simp only [Act.put, List.setIfInBounds_toArray, List.set_cons_zero, List.set_cons_succ]
        refine take_want 14 (some 46) (.bool true) rfl rfl rfl (by kernel_rfl) (by kernel_rfl) (by kernel_rfl) (fun _ _ _ h => h) (fun wx hx => exec_pickT rfl rfl rfl) hS ?_
        simp only [Act.put, List.setIfInBounds_toArray, List.set_cons_zero, List.set_cons_succ]
        refine take_want 15 (some 47) (.bool true) rfl rfl rfl (by kernel_rfl) (by kernel_rfl) (by kernel_rfl) (fun _ _ _ h => h) (fun wx hx => exec_move rfl rfl) hS ?_
        simp only [Act.put, List.setIfInBounds_toArray, List.set_cons_zero, List.set_cons_succ]
        refine call_want 16 (some 48) rfl rfl rfl (by kernel_rfl) (exec_call0 rfl enterAwake rfl) ((awake_any _).mono ?_)
        rintro e' w9 ⟨rfl, hb9⟩
        have hS9 := nextB hS hb9
        refine ⟨_, rfl, hS9, ?_⟩
        simp only [Act.put, List.setIfInBounds_toArray, List.set_cons_zero, List.set_cons_succ]
        refine take_want 17 (some 49) (.bool true) rfl rfl rfl (by kernel_rfl) (by kernel_rfl) (by kernel_rfl) (fun _ _ _ h => h) (fun wx hx => exec_pickT rfl rfl rfl) hS9 ?_
        simp only [Act.put, List.setIfInBounds_toArray, List.set_cons_zero, List.set_cons_succ]
        refine take_want 18 (some 6) (.bool true) rfl rfl rfl (by kernel_rfl) (by kernel_rfl) (by kernel_rfl) (fun _ _ _ h => h) (fun wx hx => exec_assign rfl rfl) hS9 ?_
        simp only [Act.put, List.setIfInBounds_toArray, List.set_cons_zero, List.set_cons_succ]
        refine wpAnyH_done (by kernel_rfl) ?_ _
        clear X0 N00 N01
        go_wp2_with fail
        go_ret
        exact ⟨rfl, nextB HB4.out hS9⟩
      · rw [cutS_two h7] at hn4
        have hl8' : l.length = 8 := by omega
        obtain ⟨g, cap, kv4, vv4, kv5, vv5, rfl, N00, N01, -, hk4, -, N10, N11, -, hk5, -⟩ := hn4.open2
        obtain ⟨⟨y0, z0⟩, hy0⟩ : ∃ p, l[3]? = some p := ⟨l[3]'(by omega), by rw [List.getElem?_eq_getElem]⟩
        obtain ⟨⟨y1, z1⟩, hy1⟩ : ∃ p, l[4]? = some p := ⟨l[4]'(by omega), by rw [List.getElem?_eq_getElem]⟩
        have hxx := hris.at_lt hy0 hy1 (by omega)
        simp only at hxx
        obtain ⟨ak0, ck0, gk0, ok0, rfl, hA0, hC0⟩ := hk4.at_
        obtain ⟨ak1, ck1, gk1, ok1, rfl, hA1, hC1⟩ := hk5.at_
        have hln0 : ((l.take 4).map Prod.fst).length = 4 := by simp; omega
        have hln1 : ((l.drop 4).map Prod.fst).length = 4 := by simp; omega
        obtain rfl := hA0 (by omega)
        obtain rfl := hA1 (by omega)
        have K0 := hC0 3 y0 (by rw [List.getElem?_map, List.getElem?_take_of_lt (by omega), hy0]; rfl)
        have K1 := hC1 0 y1 (by rw [List.getElem?_map, List.getElem?_drop, hy1]; rfl)
        obtain ⟨n0, hn0⟩ : ∃ n, ((l.take 4).map Prod.fst).length = n := ⟨_, rfl⟩
        obtain ⟨n1, hn1⟩ : ∃ n, ((l.drop 4).map Prod.fst).length = n := ⟨_, rfl⟩
        rw [hn0] at N01 hln0
        rw [hn1] at N11 hln1
        have HF := hide (And.intro N00 (And.intro N01 (And.intro N10 (And.intro N11 (And.intro K0 (And.intro K1 (And.intro hxx (And.intro hln0 hln1))))))))
        clear hk4 hk5 hn4 hris hl1 hl8 h7 hl8' hy0 hy1 hA0 hA1 hC0 hC1 N00 N01 N10 N11 K0 K1 hxx hln0 hln1 hn0 hn1
        go_wp2_with fail
        have X0 := HX0.out
        obtain ⟨N00, N01, N10, N11, K0, K1, hxx, hln0, hln1⟩ := HF.out
        refine wp_region_held_drew (S := Below w4.heap.size w4) (by kernel_rfl) HSB.out (fun hS => ?_)
        refine take_want 0 (some 50) (.slice (some ⟨g, 0, none⟩) 2 cap) rfl rfl rfl (by kernel_rfl) (by kernel_rfl) (by kernel_rfl) (fun _ _ _ h => h) (fun wx hx => exec_move rfl rfl) hS ?_
        simp only [Act.put, List.setIfInBounds_toArray, List.set_cons_zero, List.set_cons_succ]
        refine take_want 1 (some 51) (.int .i64 (2 : Nat)) rfl rfl rfl (by kernel_rfl) (by kernel_rfl) (by kernel_rfl) (fun _ _ _ h => h) (fun wx hx => exec_len rfl (len_nodes _ _ _ _) rfl) hS ?_
        simp only [Act.put, List.setIfInBounds_toArray, List.set_cons_zero, List.set_cons_succ]
        refine take_want 2 (some 52) (.bool true) rfl rfl rfl (by kernel_rfl) (by kernel_rfl) (by kernel_rfl) (fun _ _ _ h => h) (fun wx hx => exec_eql rfl rfl rfl (decide_eq_true rfl)) hS ?_
        simp only [Act.put, List.setIfInBounds_toArray, List.set_cons_zero, List.set_cons_succ]
        refine take_want 3 (some 53) (.bool true) rfl rfl rfl (by kernel_rfl) (by kernel_rfl) (by kernel_rfl) (fun _ _ _ h => h) (fun wx hx => exec_move rfl rfl) hS ?_
        simp only [Act.put, List.setIfInBounds_toArray, List.set_cons_zero, List.set_cons_succ]
        refine take_want 4 (some 54) (.slice (some ⟨g, 0, none⟩) 2 cap) rfl rfl rfl (by kernel_rfl) (by kernel_rfl) (by kernel_rfl) (fun _ _ _ h => h) (fun wx hx => exec_move rfl rfl) hS ?_
        simp only [Act.put, List.setIfInBounds_toArray, List.set_cons_zero, List.set_cons_succ]
        refine take_want 5 (some 55) (.pointer (some ⟨g, 0 + 0 * 3, none⟩)) rfl rfl rfl (by kernel_rfl) (by kernel_rfl) (by kernel_rfl) (fun _ _ _ h => h) (fun wx hx => exec_index rfl (index_nodes (i := 0) (by omega)) rfl rfl) hS ?_
        simp only [Act.put, List.setIfInBounds_toArray, List.set_cons_zero, List.set_cons_succ]
        refine take_want 6 (some 56) (.pointer (some ⟨g, 0 + 0 * 3 + 1, none⟩)) rfl rfl rfl (by kernel_rfl) (by kernel_rfl) (by kernel_rfl) (fun _ _ _ h => h) (fun wx hx => exec_field rfl (fldN1 _ _ wx) rfl) hS ?_
        simp only [Act.put, List.setIfInBounds_toArray, List.set_cons_zero, List.set_cons_succ]
        refine take_want 7 (some 57) (.slice (some ⟨gk0, ok0, none⟩) n0 ck0) rfl rfl rfl (by kernel_rfl) (by kernel_rfl) (by kernel_rfl) (fun _ _ _ h => h) (fun wx hx => exec_load rfl (load_intsP (cell_bel hx N01)) rfl) hS ?_
        simp only [Act.put, List.setIfInBounds_toArray, List.set_cons_zero, List.set_cons_succ]
        refine take_want 8 (some 58) (.int .i64 (n0 : Int)) rfl rfl rfl (by kernel_rfl) (by kernel_rfl) (by kernel_rfl) (fun _ _ _ h => h) (fun wx hx => exec_len rfl (len_ints _ _ _ _) rfl) hS ?_
        simp only [Act.put, List.setIfInBounds_toArray, List.set_cons_zero, List.set_cons_succ]
        refine take_want 9 (some 59) (.bool true) rfl rfl rfl (by kernel_rfl) (by kernel_rfl) (by kernel_rfl) (fun _ _ _ h => h) (fun wx hx => exec_eql rfl rfl rfl (decide_eq_true (by omega))) hS ?_
        simp only [Act.put, List.setIfInBounds_toArray, List.set_cons_zero, List.set_cons_succ]
        refine take_want 10 (some 60) (.bool true) rfl rfl rfl (by kernel_rfl) (by kernel_rfl) (by kernel_rfl) (fun _ _ _ h => h) (fun wx hx => exec_pickT rfl rfl rfl) hS ?_
        simp only [Act.put, List.setIfInBounds_toArray, List.set_cons_zero, List.set_cons_succ]
        refine take_want 11 (some 61) (.bool true) rfl rfl rfl (by kernel_rfl) (by kernel_rfl) (by kernel_rfl) (fun _ _ _ h => h) (fun wx hx => exec_move rfl rfl) hS ?_
        simp only [Act.put, List.setIfInBounds_toArray, List.set_cons_zero, List.set_cons_succ]
        refine take_want 12 (some 62) (.slice (some ⟨g, 0, none⟩) 2 cap) rfl rfl rfl (by kernel_rfl) (by kernel_rfl) (by kernel_rfl) (fun _ _ _ h => h) (fun wx hx => exec_move rfl rfl) hS ?_
        simp only [Act.put, List.setIfInBounds_toArray, List.set_cons_zero, List.set_cons_succ]
        refine take_want 13 (some 63) (.pointer (some ⟨g, 0 + 1 * 3, none⟩)) rfl rfl rfl (by kernel_rfl) (by kernel_rfl) (by kernel_rfl) (fun _ _ _ h => h) (fun wx hx => exec_index rfl (index_nodes (i := 1) (by omega)) rfl rfl) hS ?_
        simp only [Act.put, List.setIfInBounds_toArray, List.set_cons_zero, List.set_cons_succ]
        refine take_want 14 (some 64) (.pointer (some ⟨g, 0 + 1 * 3 + 1, none⟩)) rfl rfl rfl (by kernel_rfl) (by kernel_rfl) (by kernel_rfl) (fun _ _ _ h => h) (fun wx hx => exec_field rfl (fldN1 _ _ wx) rfl) hS ?_
        simp only [Act.put, List.setIfInBounds_toArray, List.set_cons_zero, List.set_cons_succ]
        refine take_want 15 (some 65) (.slice (some ⟨gk1, ok1, none⟩) n1 ck1) rfl rfl rfl (by kernel_rfl) (by kernel_rfl) (by kernel_rfl) (fun _ _ _ h => h) (fun wx hx => exec_load rfl (load_intsP (cell_bel hx N11)) rfl) hS ?_
        simp only [Act.put, List.setIfInBounds_toArray, List.set_cons_zero, List.set_cons_succ]
        refine take_want 16 (some 66) (.int .i64 (n1 : Int)) rfl rfl rfl (by kernel_rfl) (by kernel_rfl) (by kernel_rfl) (fun _ _ _ h => h) (fun wx hx => exec_len rfl (len_ints _ _ _ _) rfl) hS ?_
        simp only [Act.put, List.setIfInBounds_toArray, List.set_cons_zero, List.set_cons_succ]
        refine take_want 17 (some 67) (.bool true) rfl rfl rfl (by kernel_rfl) (by kernel_rfl) (by kernel_rfl) (fun _ _ _ h => h) (fun wx hx => exec_eql rfl rfl rfl (decide_eq_true (by omega))) hS ?_
        simp only [Act.put, List.setIfInBounds_toArray, List.set_cons_zero, List.set_cons_succ]
        refine take_want 18 (some 68) (.bool true) rfl rfl rfl (by kernel_rfl) (by kernel_rfl) (by kernel_rfl) (fun _ _ _ h => h) (fun wx hx => exec_pickT rfl rfl rfl) hS ?_
        simp only [Act.put, List.setIfInBounds_toArray, List.set_cons_zero, List.set_cons_succ]
        refine take_want 19 (some 69) (.bool true) rfl rfl rfl (by kernel_rfl) (by kernel_rfl) (by kernel_rfl) (fun _ _ _ h => h) (fun wx hx => exec_move rfl rfl) hS ?_
        simp only [Act.put, List.setIfInBounds_toArray, List.set_cons_zero, List.set_cons_succ]
        refine take_want 20 (some 70) (.slice (some ⟨g, 0, none⟩) 2 cap) rfl rfl rfl (by kernel_rfl) (by kernel_rfl) (by kernel_rfl) (fun _ _ _ h => h) (fun wx hx => exec_move rfl rfl) hS ?_
        simp only [Act.put, List.setIfInBounds_toArray, List.set_cons_zero, List.set_cons_succ]
        refine take_want 21 (some 71) (.pointer (some ⟨g, 0 + 0 * 3, none⟩)) rfl rfl rfl (by kernel_rfl) (by kernel_rfl) (by kernel_rfl) (fun _ _ _ h => h) (fun wx hx => exec_index rfl (index_nodes (i := 0) (by omega)) rfl rfl) hS ?_
        simp only [Act.put, List.setIfInBounds_toArray, List.set_cons_zero, List.set_cons_succ]
        refine take_want 22 (some 72) (.pointer (some ⟨g, 0 + 0 * 3 + 1, none⟩)) rfl rfl rfl (by kernel_rfl) (by kernel_rfl) (by kernel_rfl) (fun _ _ _ h => h) (fun wx hx => exec_field rfl (fldN1 _ _ wx) rfl) hS ?_
        simp only [Act.put, List.setIfInBounds_toArray, List.set_cons_zero, List.set_cons_succ]
        refine take_want 23 (some 73) (.slice (some ⟨gk0, ok0, none⟩) n0 ck0) rfl rfl rfl (by kernel_rfl) (by kernel_rfl) (by kernel_rfl) (fun _ _ _ h => h) (fun wx hx => exec_load rfl (load_intsP (cell_bel hx N01)) rfl) hS ?_
        simp only [Act.put, List.setIfInBounds_toArray, List.set_cons_zero, List.set_cons_succ]
        refine take_want 24 (some 74) (.pointer (some ⟨gk0, ok0 + 3, none⟩)) rfl rfl rfl (by kernel_rfl) (by kernel_rfl) (by kernel_rfl) (fun _ _ _ h => h) (fun wx hx => exec_index rfl (index_ints (i := 3) (by omega)) rfl rfl) hS ?_
        simp only [Act.put, List.setIfInBounds_toArray, List.set_cons_zero, List.set_cons_succ]
        refine take_want 25 (some 75) (.int .i64 y0) rfl rfl rfl (by kernel_rfl) (by kernel_rfl) (by kernel_rfl) (fun _ _ _ h => h) (fun wx hx => exec_load rfl (load_intP (cell_bel hx K0)) rfl) hS ?_
        simp only [Act.put, List.setIfInBounds_toArray, List.set_cons_zero, List.set_cons_succ]
        refine take_want 26 (some 76) (.slice (some ⟨g, 0, none⟩) 2 cap) rfl rfl rfl (by kernel_rfl) (by kernel_rfl) (by kernel_rfl) (fun _ _ _ h => h) (fun wx hx => exec_move rfl rfl) hS ?_
        simp only [Act.put, List.setIfInBounds_toArray, List.set_cons_zero, List.set_cons_succ]
        refine take_want 27 (some 77) (.pointer (some ⟨g, 0 + 1 * 3, none⟩)) rfl rfl rfl (by kernel_rfl) (by kernel_rfl) (by kernel_rfl) (fun _ _ _ h => h) (fun wx hx => exec_index rfl (index_nodes (i := 1) (by omega)) rfl rfl) hS ?_
        simp only [Act.put, List.setIfInBounds_toArray, List.set_cons_zero, List.set_cons_succ]
        refine take_want 28 (some 78) (.pointer (some ⟨g, 0 + 1 * 3 + 1, none⟩)) rfl rfl rfl (by kernel_rfl) (by kernel_rfl) (by kernel_rfl) (fun _ _ _ h => h) (fun wx hx => exec_field rfl (fldN1 _ _ wx) rfl) hS ?_
        simp only [Act.put, List.setIfInBounds_toArray, List.set_cons_zero, List.set_cons_succ]
        refine take_want 29 (some 79) (.slice (some ⟨gk1, ok1, none⟩) n1 ck1) rfl rfl rfl (by kernel_rfl) (by kernel_rfl) (by kernel_rfl) (fun _ _ _ h => h) (fun wx hx => exec_load rfl (load_intsP (cell_bel hx N11)) rfl) hS ?_
        simp only [Act.put, List.setIfInBounds_toArray, List.set_cons_zero, List.set_cons_succ]
        refine take_want 30 (some 80) (.pointer (some ⟨gk1, ok1 + 0, none⟩)) rfl rfl rfl (by kernel_rfl) (by kernel_rfl) (by kernel_rfl) (fun _ _ _ h => h) (fun wx hx => exec_index rfl (index_ints (i := 0) (by omega)) rfl rfl) hS ?_
        simp only [Act.put, List.setIfInBounds_toArray, List.set_cons_zero, List.set_cons_succ]
        refine take_want 31 (some 81) (.int .i64 y1) rfl rfl rfl (by kernel_rfl) (by kernel_rfl) (by kernel_rfl) (fun _ _ _ h => h) (fun wx hx => exec_load rfl (load_intP (cell_bel hx K1)) rfl) hS ?_
        simp only [Act.put, List.setIfInBounds_toArray, List.set_cons_zero, List.set_cons_succ]
        refine take_want 32 (some 82) (.bool true) rfl rfl rfl (by kernel_rfl) (by kernel_rfl) (by kernel_rfl) (fun _ _ _ h => h) (fun wx hx => exec_lss rfl rfl rfl (decide_eq_true hxx)) hS ?_
        simp only [Act.put, List.setIfInBounds_toArray, List.set_cons_zero, List.set_cons_succ]
        refine take_want 33 (some 83) (.bool true) rfl rfl rfl (by kernel_rfl) (by kernel_rfl) (by kernel_rfl) (fun _ _ _ h => h) (fun wx hx => exec_pickT rfl rfl rfl) hS ?_
        simp only [Act.put, List.setIfInBounds_toArray, List.set_cons_zero, List.set_cons_succ]
        refine take_want 34 (some 84) (.bool true) rfl rfl rfl (by kernel_rfl) (by kernel_rfl) (by kernel_rfl) (fun _ _ _ h => h) (fun wx hx => exec_move rfl rfl) hS ?_
        simp only [Act.put, List.setIfInBounds_toArray, List.set_cons_zero, List.set_cons_succ]
        refine take_want 35 (some 85) (.slice (some ⟨g, 0, none⟩) 2 cap) rfl rfl rfl (by kernel_rfl) (by kernel_rfl) (by kernel_rfl) (fun _ _ _ h => h) (fun wx hx => exec_move rfl rfl) hS ?_
        simp only [Act.put, List.setIfInBounds_toArray, List.set_cons_zero, List.set_cons_succ]
        refine take_want 36 (some 86) (.pointer (some ⟨g, 0 + 0 * 3, none⟩)) rfl rfl rfl (by kernel_rfl) (by kernel_rfl) (by kernel_rfl) (fun _ _ _ h => h) (fun wx hx => exec_index rfl (index_nodes (i := 0) (by omega)) rfl rfl) hS ?_
        simp only [Act.put, List.setIfInBounds_toArray, List.set_cons_zero, List.set_cons_succ]
        refine take_want 37 (some 87) (.pointer (some ⟨g, 0 + 0 * 3, none⟩)) rfl rfl rfl (by kernel_rfl) (by kernel_rfl) (by kernel_rfl) (fun _ _ _ h => h) (fun wx hx => exec_field rfl (fldN0 _ _ wx) rfl) hS ?_
        simp only [Act.put, List.setIfInBounds_toArray, List.set_cons_zero, List.set_cons_succ]
        refine take_want 38 (some 88) (.int .i64 L) rfl rfl rfl (by kernel_rfl) (by kernel_rfl) (by kernel_rfl) (fun _ _ _ h => h) (fun wx hx => exec_load rfl (load_intP (cell_bel hx N00)) rfl) hS ?_
        simp only [Act.put, List.setIfInBounds_toArray, List.set_cons_zero, List.set_cons_succ]
        refine take_want 39 (some 89) (.pointer (some ⟨w.heap.size, 0, none⟩)) rfl rfl rfl (by kernel_rfl) (by kernel_rfl) (by kernel_rfl) (fun _ _ _ h => h) (fun wx hx => exec_field rfl (fldR0 _ _ wx) rfl) hS ?_
        simp only [Act.put, List.setIfInBounds_toArray, List.set_cons_zero, List.set_cons_succ]
        refine take_want 40 (some 90) (.int .i64 L) rfl rfl rfl (by kernel_rfl) (by kernel_rfl) (by kernel_rfl) (fun _ _ _ h => h) (fun wx hx => exec_load rfl (load_intP (cell_bel hx X0)) rfl) hS ?_
        simp only [Act.put, List.setIfInBounds_toArray, List.set_cons_zero, List.set_cons_succ]
        refine take_want 41 (some 91) (.bool true) rfl rfl rfl (by kernel_rfl) (by kernel_rfl) (by kernel_rfl) (fun _ _ _ h => h) (fun wx hx => exec_eql rfl rfl rfl (decide_eq_true rfl)) hS ?_
        simp only [Act.put, List.setIfInBounds_toArray, List.set_cons_zero, List.set_cons_succ]
        refine take_want 42 (some 92) (.bool true) rfl rfl rfl (by kernel_rfl) (by kernel_rfl) (by kernel_rfl) (fun _ _ _ h => h) (fun wx hx => exec_pickT rfl rfl rfl) hS ?_
        simp only [Act.put, List.setIfInBounds_toArray, List.set_cons_zero, List.set_cons_succ]
        refine take_want 43 (some 93) (.bool true) rfl rfl rfl (by kernel_rfl) (by kernel_rfl) (by kernel_rfl) (fun _ _ _ h => h) (fun wx hx => exec_move rfl rfl) hS ?_
        simp only [Act.put, List.setIfInBounds_toArray, List.set_cons_zero, List.set_cons_succ]
        refine take_want 44 (some 94) (.slice (some ⟨g, 0, none⟩) 2 cap) rfl rfl rfl (by kernel_rfl) (by kernel_rfl) (by kernel_rfl) (fun _ _ _ h => h) (fun wx hx => exec_move rfl rfl) hS ?_
        simp only [Act.put, List.setIfInBounds_toArray, List.set_cons_zero, List.set_cons_succ]
        refine take_want 45 (some 95) (.pointer (some ⟨g, 0 + 1 * 3, none⟩)) rfl rfl rfl (by kernel_rfl) (by kernel_rfl) (by kernel_rfl) (fun _ _ _ h => h) (fun wx hx => exec_index rfl (index_nodes (i := 1) (by omega)) rfl rfl) hS ?_
        simp only [Act.put, List.setIfInBounds_toArray, List.set_cons_zero, List.set_cons_succ]
        refine take_want 46 (some 96) (.pointer (some ⟨g, 0 + 1 * 3, none⟩)) rfl rfl rfl (by kernel_rfl) (by kernel_rfl) (by kernel_rfl) (fun _ _ _ h => h) (fun wx hx => exec_field rfl (fldN0 _ _ wx) rfl) hS ?_
        simp only [Act.put, List.setIfInBounds_toArray, List.set_cons_zero, List.set_cons_succ]
        refine take_want 47 (some 97) (.int .i64 L) rfl rfl rfl (by kernel_rfl) (by kernel_rfl) (by kernel_rfl) (fun _ _ _ h => h) (fun wx hx => exec_load rfl (load_intP (cell_bel hx N10)) rfl) hS ?_
        simp only [Act.put, List.setIfInBounds_toArray, List.set_cons_zero, List.set_cons_succ]
        refine take_want 48 (some 98) (.pointer (some ⟨w.heap.size, 0, none⟩)) rfl rfl rfl (by kernel_rfl) (by kernel_rfl) (by kernel_rfl) (fun _ _ _ h => h) (fun wx hx => exec_field rfl (fldR0 _ _ wx) rfl) hS ?_
        simp only [Act.put, List.setIfInBounds_toArray, List.set_cons_zero, List.set_cons_succ]
        refine take_want 49 (some 99) (.int .i64 L) rfl rfl rfl (by kernel_rfl) (by kernel_rfl) (by kernel_rfl) (fun _ _ _ h => h) (fun wx hx => exec_load rfl (load_intP (cell_bel hx X0)) rfl) hS ?_
        simp only [Act.put, List.setIfInBounds_toArray, List.set_cons_zero, List.set_cons_succ]
        refine take_want 50 (some 100) (.bool true) rfl rfl rfl (by kernel_rfl) (by kernel_rfl) (by kernel_rfl) (fun _ _ _ h => h) (fun wx hx => exec_eql rfl rfl rfl (decide_eq_true rfl)) hS ?_
        simp only [Act.put, List.setIfInBounds_toArray, List.set_cons_zero, List.set_cons_succ]
        refine take_want 51 (some 101) (.bool true) rfl rfl rfl (by kernel_rfl) (by kernel_rfl) (by kernel_rfl) (fun _ _ _ h => h) (fun wx hx => exec_pickT rfl rfl rfl) hS ?_
        simp only [Act.put, List.setIfInBounds_toArray, List.set_cons_zero, List.set_cons_succ]
        refine take_want 52 (some 102) (.bool true) rfl rfl rfl (by kernel_rfl) (by kernel_rfl) (by kernel_rfl) (fun _ _ _ h => h) (fun wx hx => exec_move rfl rfl) hS ?_
        simp only [Act.put, List.setIfInBounds_toArray, List.set_cons_zero, List.set_cons_succ]
        refine call_want 53 (some 103) rfl rfl rfl (by kernel_rfl) (exec_call0 rfl enterAwake rfl) ((awake_any _).mono ?_)
        rintro e' w9 ⟨rfl, hb9⟩
        have hS9 := nextB hS hb9
        refine ⟨_, rfl, hS9, ?_⟩
        simp only [Act.put, List.setIfInBounds_toArray, List.set_cons_zero, List.set_cons_succ]
        refine take_want 54 (some 104) (.bool true) rfl rfl rfl (by kernel_rfl) (by kernel_rfl) (by kernel_rfl) (fun _ _ _ h => h) (fun wx hx => exec_pickT rfl rfl rfl) hS9 ?_
        simp only [Act.put, List.setIfInBounds_toArray, List.set_cons_zero, List.set_cons_succ]
        refine take_want 55 (some 6) (.bool true) rfl rfl rfl (by kernel_rfl) (by kernel_rfl) (by kernel_rfl) (fun _ _ _ h => h) (fun wx hx => exec_assign rfl rfl) hS9 ?_
        simp only [Act.put, List.setIfInBounds_toArray, List.set_cons_zero, List.set_cons_succ]
        refine wpAnyH_done (by kernel_rfl) ?_ _
        clear X0 N00 N01 N10 N11 K0 K1 hxx hln0 hln1
        go_wp2_with fail
        go_ret
        exact ⟨rfl, nextB HB4.out hS9⟩
  · have hrt := rtB_false.2 hR
    clear hR
    go_enter Try.func6, Try.ntmps6
    go_wp2_with (first
      | (go_at_call 13; refine (right_any L HK.out HV.out).mono ?_; rintro e w1 ⟨rfl, hb1⟩; rw [hrt]; have HB1 := hide (nextB HBA.out hb1); clear hb1)
      | (go_at_call 8; refine (awake_any _).mono ?_; rintro e w3 ⟨rfl, hb3⟩; have HB3 := hide (nextB HB1.out hb3); clear hb3))
    go_ret
    exact ⟨rfl, HB3.out⟩
end Go.Proofs.Ytcidadikmmdalaa
