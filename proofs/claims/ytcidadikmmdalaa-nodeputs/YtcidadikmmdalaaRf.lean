/- The document's Find. -/
import Derived.Test.YtcidadikmmdalaaAw
namespace Go.Proofs.Ytcidadikmmdalaa
open Go.RowKit Go.Extern

/-- How far the keys are not above this one, of the first ones. -/
def Upto (K : List Int) (k : Int) (j c : Nat) : Prop := c ≤ j ∧ (∀ (i : Nat) x, K[i]? = some x → i < c → x ≤ k) ∧ (∀ (i : Nat) x, K[i]? = some x → c ≤ i → i < j → k < x)
theorem upto_yes {K : List Int} (hu : Up K) {k a : Int} {j : Nat} (ha : K[j]? = some a) (hk : a ≤ k) : Upto K k (j + 1) (j + 1) := by
  refine ⟨Nat.le_refl _, fun i x hx hi => ?_, fun i x hx h1 h2 => by omega⟩
  have := hu.le hx ha (by omega); omega
theorem upto_no {K : List Int} {k a : Int} {j c : Nat} (h : Upto K k j c) (ha : K[j]? = some a) (hk : ¬ a ≤ k) : Upto K k (j + 1) c := by
  obtain ⟨h1, h2, h3⟩ := h
  refine ⟨by omega, h2, fun i x hx hi hj => ?_⟩
  rcases Nat.lt_or_ge i j with e | e
  · exact h3 i x hx hi e
  · obtain rfl : i = j := by omega
    rw [ha] at hx; cases hx; omega
theorem upto_found {K : List Int} (hu : Up K) {k q : Int} {c : Nat} (h : Upto K k K.length (c + 1)) (hq : K[c]? = some q) : Found K k (c : Int) (decide (q = k)) := by
  obtain ⟨h1, h2, h3⟩ := h
  have hqk := h2 c q hq (by omega)
  by_cases e : q = k
  · subst e
    refine ⟨c, ⟨by omega, fun i x hx hi => hu.lt hx hq hi, fun i x hx hi => hu.le hq hx hi⟩, .inl ⟨by simp, hq, rfl⟩⟩
  · refine ⟨c + 1, ⟨h1, fun i x hx hi => ?_, fun i x hx hi => ?_⟩, .inr ⟨by simpa using e, fun hm => ?_, by omega⟩⟩
    · have := hu.le hx hq (by omega); omega
    · have := h3 i x hx hi (List.getElem?_eq_some_iff.1 hx).1; omega
    · obtain ⟨i, hi⟩ := List.mem_iff_getElem?.1 hm
      rcases Nat.lt_or_ge c i with e2 | e2
      · have := h3 i k hi (by omega) (List.getElem?_eq_some_iff.1 hi).1; omega
      · have := hu.le hi hq e2; omega
theorem upto_none {K : List Int} {k : Int} (h : Upto K k K.length 0) : Found K k (-1) false := by
  obtain ⟨h1, h2, h3⟩ := h
  refine ⟨0, ⟨by omega, fun i x hx hi => by omega, fun i x hx hi => ?_⟩, .inr ⟨rfl, fun hm => ?_, by omega⟩⟩
  · have := h3 i x hx (by omega) (List.getElem?_eq_some_iff.1 hx).1; omega
  · obtain ⟨i, hi⟩ := List.mem_iff_getElem?.1 hm
    have := h3 i k hi (by omega) (List.getElem?_eq_some_iff.1 hi).1; omega
theorem found_unique {K : List Int} {k a a' : Int} {e e' : Bool} (h : Found K k a e) (h' : Found K k a' e') : a = a' ∧ e = e' := by
  obtain ⟨m, hs, h1⟩ := h
  obtain ⟨m', hs', h2⟩ := h'
  obtain rfl := hs.unique hs'
  rcases h1 with ⟨rfl, h3, rfl⟩ | ⟨rfl, h3, rfl⟩ <;> rcases h2 with ⟨rfl, h4, rfl⟩ | ⟨rfl, h4, rfl⟩
  · exact ⟨rfl, rfl⟩
  · exact absurd (List.mem_of_getElem? h3) h4
  · exact absurd (List.mem_of_getElem? h4) h3
  · exact ⟨rfl, rfl⟩

set_option maxRecDepth 100000 in
set_option maxHeartbeats 2000000 in
theorem rfind_any {w : World} {kv vv : Value} {K : List Int} (L : Int) (hk : Ints w kv K) (hvv : ∃ a n c, vv = .slice a n c) (hu : Up K) (hl : K.length ≤ 1000) (k : Int) :
    Calls Try.prog 16 #[.agg #[.int .i64 L, kv, vv], .int .i64 k] w (Fnd w K k) := by
  obtain ⟨aV, nV, cV, rfl⟩ := hvv
  have HBA := hide (bel_alloc w (.cells #[.int .i64 L, kv, .slice aV nV cV] 24))
  have HX := hide (BoxN.new 24 w L kv (.slice aV nV cV))
  obtain ⟨aK, cK, gK, oK, hkf, hK1, hK2⟩ := hk.at_
  obtain ⟨n, hn⟩ : ∃ n, K.length = n := ⟨_, rfl⟩
  rw [hn] at hkf hK1 hl
  have HK1 := hide hK1
  have HK2 := hide hK2
  have HN := hide hn
  have HU := hide hu
  clear hk hK1 hK2 hn hu
  subst hkf
  go_enter Try.func16, Try.ntmps16
  go_wp2_with fail
  obtain ⟨wA, hwA⟩ : ∃ x, w.alloc (.cells #[.int .i64 L, .slice aK n cK, .slice aV nV cV] 24) = x := ⟨_, rfl⟩
  simp only [hwA] at HBA HX ⊢
  clear hwA
  go_loopg [6, 7] n (fun t s6 s7 wr => ∃ (j c : Nat), j + t = n ∧ s6 = .int .i64 ((c : Int) - 1) ∧ s7 = .int .i64 (j : Int) ∧ Hid (Upto K k j c) ∧ Hid (Below wA.heap.size wA wr))
  case atStart => exact ⟨0, 0, by omega, rfl, rfl, hide ⟨by omega, fun i x _ h => by omega, fun i x _ _ h => by omega⟩, hide (Below.refl _ _)⟩
  case round =>
    obtain ⟨j, c, hj, rfl, rfl, HC, HB⟩ := hrel
    obtain ⟨x0, x1, x2⟩ := (HX.out.below HB.out).cells
    cases gk with
    | zero =>
      have hnl : ¬ (j : Int) < (n : Int) := by omega
      have HC2 : Hid (Upto K k K.length c) := hide (by rw [HN.out]; have := HC.out; rwa [show j = n by omega] at this)
      have HSB := hide (below_drew0 wr)
      have hcj : c ≤ n := by have := HC2.out.1; rw [HN.out] at this; exact this
      go_wp2_with fail
      have X1 := x1
      cases c with
      | zero =>
        have hge : decide ((0 : Int) ≤ ((0 : Nat) : Int) - 1) = false := by simp
        refine wp_region_held_drew (S := Below wr.heap.size wr) (by kernel_rfl) HSB.out (fun hS => ?_)
        refine take_want 0 (some 23) (.int .i64 (((0 : Nat) : Int) - 1)) rfl rfl rfl (by kernel_rfl) (by kernel_rfl) (by kernel_rfl) (fun _ _ _ h => h) (fun wx hx => exec_move rfl rfl) hS ?_
        simp only [Act.put, List.setIfInBounds_toArray, List.set_cons_zero, List.set_cons_succ]
        refine take_want 1 (some 24) (.int .i64 (((0 : Nat) : Int) - 1)) rfl rfl rfl (by kernel_rfl) (by kernel_rfl) (by kernel_rfl) (fun _ _ _ h => h) (fun wx hx => exec_move rfl rfl) hS ?_
        simp only [Act.put, List.setIfInBounds_toArray, List.set_cons_zero, List.set_cons_succ]
        refine take_want 2 (some 25) (.bool false) rfl rfl rfl (by kernel_rfl) (by kernel_rfl) (by kernel_rfl) (fun _ _ _ h => h) (fun wx hx => exec_geq rfl rfl rfl hge) hS ?_
        simp only [Act.put, List.setIfInBounds_toArray, List.set_cons_zero, List.set_cons_succ]
        refine take_want 3 (some 26) (.bool false) rfl rfl rfl (by kernel_rfl) (by kernel_rfl) (by kernel_rfl) (fun _ _ _ h => h) (fun wx hx => exec_move rfl rfl) hS ?_
        simp only [Act.put, List.setIfInBounds_toArray, List.set_cons_zero, List.set_cons_succ]
        refine skip_want 4 (some 27) rfl rfl rfl (by kernel_rfl) (by kernel_rfl) (by kernel_rfl) (fun _ _ _ h => h) hS ?_
        simp only [Act.put, List.setIfInBounds_toArray, List.set_cons_zero, List.set_cons_succ]
        refine skip_want 5 (some 28) rfl rfl rfl (by kernel_rfl) (by kernel_rfl) (by kernel_rfl) (fun _ _ _ h => h) hS ?_
        simp only [Act.put, List.setIfInBounds_toArray, List.set_cons_zero, List.set_cons_succ]
        refine skip_want 6 (some 29) rfl rfl rfl (by kernel_rfl) (by kernel_rfl) (by kernel_rfl) (fun _ _ _ h => h) hS ?_
        simp only [Act.put, List.setIfInBounds_toArray, List.set_cons_zero, List.set_cons_succ]
        refine skip_want 7 (some 30) rfl rfl rfl (by kernel_rfl) (by kernel_rfl) (by kernel_rfl) (fun _ _ _ h => h) hS ?_
        simp only [Act.put, List.setIfInBounds_toArray, List.set_cons_zero, List.set_cons_succ]
        refine skip_want 8 (some 31) rfl rfl rfl (by kernel_rfl) (by kernel_rfl) (by kernel_rfl) (fun _ _ _ h => h) hS ?_
        simp only [Act.put, List.setIfInBounds_toArray, List.set_cons_zero, List.set_cons_succ]
        refine skip_want 9 (some 32) rfl rfl rfl (by kernel_rfl) (by kernel_rfl) (by kernel_rfl) (fun _ _ _ h => h) hS ?_
        simp only [Act.put, List.setIfInBounds_toArray, List.set_cons_zero, List.set_cons_succ]
        refine skip_want 10 (some 33) rfl rfl rfl (by kernel_rfl) (by kernel_rfl) (by kernel_rfl) (fun _ _ _ h => h) hS ?_
        simp only [Act.put, List.setIfInBounds_toArray, List.set_cons_zero, List.set_cons_succ]
        refine take_want 11 (some 34) (.bool false) rfl rfl rfl (by kernel_rfl) (by kernel_rfl) (by kernel_rfl) (fun _ _ _ h => h) (fun wx hx => exec_pickF rfl rfl rfl) hS ?_
        simp only [Act.put, List.setIfInBounds_toArray, List.set_cons_zero, List.set_cons_succ]
        refine take_want 12 (some 4) (.int .i64 (((0 : Nat) : Int) - 1)) rfl rfl rfl (by kernel_rfl) (by kernel_rfl) (by kernel_rfl) (fun _ _ _ h => h) (fun wx hx => exec_assign rfl rfl) hS ?_
        simp only [Act.put, List.setIfInBounds_toArray, List.set_cons_zero, List.set_cons_succ]
        refine take_want 13 (some 5) (.bool false) rfl rfl rfl (by kernel_rfl) (by kernel_rfl) (by kernel_rfl) (fun _ _ _ h => h) (fun wx hx => exec_assign rfl rfl) hS ?_
        simp only [Act.put, List.setIfInBounds_toArray, List.set_cons_zero, List.set_cons_succ]
        refine wpAnyH_done (by kernel_rfl) ?_ _
        clear X1 hge
        go_wp2_with fail
        go_ret2
        exact ⟨⟨_, _, rfl, upto_none HC2.out⟩, nextB (nextB HBA.out HB.out) hS⟩
      | succ c =>
        obtain ⟨q, hq⟩ : ∃ q, K[c]? = some q := ⟨K[c]'(by rw [HN.out]; omega), by rw [List.getElem?_eq_getElem]⟩
        obtain rfl := HK1.out (by omega)
        have CQ := cell_bel (nextB HBA.out HB.out) (HK2.out c q hq)
        have hcn : c < n := by omega
        have ecc : ((c + 1 : Nat) : Int) - 1 = (c : Int) := by omega
        have hge : decide ((0 : Int) ≤ (c : Int)) = true := decide_eq_true (by omega)
        have HQ := hide hq
        rw [ecc]
        clear hq ecc
        by_cases hqk : q = k
        · have heq : decide (q = k) = true := decide_eq_true hqk
          have HFD := hide (upto_found HU.out HC2.out HQ.out)
          rw [heq] at HFD
          refine wp_region_held_drew (S := Below wr.heap.size wr) (by kernel_rfl) HSB.out (fun hS => ?_)
          refine take_want 0 (some 23) (.int .i64 (c : Int)) rfl rfl rfl (by kernel_rfl) (by kernel_rfl) (by kernel_rfl) (fun _ _ _ h => h) (fun wx hx => exec_move rfl rfl) hS ?_
          simp only [Act.put, List.setIfInBounds_toArray, List.set_cons_zero, List.set_cons_succ]
          refine take_want 1 (some 24) (.int .i64 (c : Int)) rfl rfl rfl (by kernel_rfl) (by kernel_rfl) (by kernel_rfl) (fun _ _ _ h => h) (fun wx hx => exec_move rfl rfl) hS ?_
          simp only [Act.put, List.setIfInBounds_toArray, List.set_cons_zero, List.set_cons_succ]
          refine take_want 2 (some 25) (.bool true) rfl rfl rfl (by kernel_rfl) (by kernel_rfl) (by kernel_rfl) (fun _ _ _ h => h) (fun wx hx => exec_geq rfl rfl rfl hge) hS ?_
          simp only [Act.put, List.setIfInBounds_toArray, List.set_cons_zero, List.set_cons_succ]
          refine take_want 3 (some 26) (.bool true) rfl rfl rfl (by kernel_rfl) (by kernel_rfl) (by kernel_rfl) (fun _ _ _ h => h) (fun wx hx => exec_move rfl rfl) hS ?_
          simp only [Act.put, List.setIfInBounds_toArray, List.set_cons_zero, List.set_cons_succ]
          refine take_want 4 (some 27) (.pointer (some ⟨w.heap.size, 0 + 1, none⟩)) rfl rfl rfl (by kernel_rfl) (by kernel_rfl) (by kernel_rfl) (fun _ _ _ h => h) (fun wx hx => exec_field rfl (fldR1 _ _ wx) rfl) hS ?_
          simp only [Act.put, List.setIfInBounds_toArray, List.set_cons_zero, List.set_cons_succ]
          refine take_want 5 (some 28) (.slice (some ⟨gK, oK, none⟩) n cK) rfl rfl rfl (by kernel_rfl) (by kernel_rfl) (by kernel_rfl) (fun _ _ _ h => h) (fun wx hx => exec_load rfl (load_intsP (cell_bel hx X1)) rfl) hS ?_
          simp only [Act.put, List.setIfInBounds_toArray, List.set_cons_zero, List.set_cons_succ]
          refine take_want 6 (some 29) (.int .i64 (c : Int)) rfl rfl rfl (by kernel_rfl) (by kernel_rfl) (by kernel_rfl) (fun _ _ _ h => h) (fun wx hx => exec_move rfl rfl) hS ?_
          simp only [Act.put, List.setIfInBounds_toArray, List.set_cons_zero, List.set_cons_succ]
          refine take_want 7 (some 30) (.pointer (some ⟨gK, oK + c, none⟩)) rfl rfl rfl (by kernel_rfl) (by kernel_rfl) (by kernel_rfl) (fun _ _ _ h => h) (fun wx hx => exec_index rfl (index_ints hcn) rfl rfl) hS ?_
          simp only [Act.put, List.setIfInBounds_toArray, List.set_cons_zero, List.set_cons_succ]
          refine take_want 8 (some 31) (.int .i64 q) rfl rfl rfl (by kernel_rfl) (by kernel_rfl) (by kernel_rfl) (fun _ _ _ h => h) (fun wx hx => exec_load rfl (load_intP (cell_bel hx CQ)) rfl) hS ?_
          simp only [Act.put, List.setIfInBounds_toArray, List.set_cons_zero, List.set_cons_succ]
          refine take_want 9 (some 32) (.int .i64 k) rfl rfl rfl (by kernel_rfl) (by kernel_rfl) (by kernel_rfl) (fun _ _ _ h => h) (fun wx hx => exec_move rfl rfl) hS ?_
          simp only [Act.put, List.setIfInBounds_toArray, List.set_cons_zero, List.set_cons_succ]
          refine take_want 10 (some 33) (.bool true) rfl rfl rfl (by kernel_rfl) (by kernel_rfl) (by kernel_rfl) (fun _ _ _ h => h) (fun wx hx => exec_eql rfl rfl rfl heq) hS ?_
          simp only [Act.put, List.setIfInBounds_toArray, List.set_cons_zero, List.set_cons_succ]
          refine take_want 11 (some 34) (.bool true) rfl rfl rfl (by kernel_rfl) (by kernel_rfl) (by kernel_rfl) (fun _ _ _ h => h) (fun wx hx => exec_pickT rfl rfl rfl) hS ?_
          simp only [Act.put, List.setIfInBounds_toArray, List.set_cons_zero, List.set_cons_succ]
          refine take_want 12 (some 4) (.int .i64 (c : Int)) rfl rfl rfl (by kernel_rfl) (by kernel_rfl) (by kernel_rfl) (fun _ _ _ h => h) (fun wx hx => exec_assign rfl rfl) hS ?_
          simp only [Act.put, List.setIfInBounds_toArray, List.set_cons_zero, List.set_cons_succ]
          refine take_want 13 (some 5) (.bool true) rfl rfl rfl (by kernel_rfl) (by kernel_rfl) (by kernel_rfl) (fun _ _ _ h => h) (fun wx hx => exec_assign rfl rfl) hS ?_
          simp only [Act.put, List.setIfInBounds_toArray, List.set_cons_zero, List.set_cons_succ]
          refine wpAnyH_done (by kernel_rfl) ?_ _
          clear X1 hge heq CQ
          go_wp2_with fail
          go_ret2
          exact ⟨⟨_, _, rfl, HFD.out⟩, nextB (nextB HBA.out HB.out) hS⟩
        · have heq : decide (q = k) = false := decide_eq_false hqk
          have HFD := hide (upto_found HU.out HC2.out HQ.out)
          rw [heq] at HFD
          refine wp_region_held_drew (S := Below wr.heap.size wr) (by kernel_rfl) HSB.out (fun hS => ?_)
          refine take_want 0 (some 23) (.int .i64 (c : Int)) rfl rfl rfl (by kernel_rfl) (by kernel_rfl) (by kernel_rfl) (fun _ _ _ h => h) (fun wx hx => exec_move rfl rfl) hS ?_
          simp only [Act.put, List.setIfInBounds_toArray, List.set_cons_zero, List.set_cons_succ]
          refine take_want 1 (some 24) (.int .i64 (c : Int)) rfl rfl rfl (by kernel_rfl) (by kernel_rfl) (by kernel_rfl) (fun _ _ _ h => h) (fun wx hx => exec_move rfl rfl) hS ?_
          simp only [Act.put, List.setIfInBounds_toArray, List.set_cons_zero, List.set_cons_succ]
          refine take_want 2 (some 25) (.bool true) rfl rfl rfl (by kernel_rfl) (by kernel_rfl) (by kernel_rfl) (fun _ _ _ h => h) (fun wx hx => exec_geq rfl rfl rfl hge) hS ?_
          simp only [Act.put, List.setIfInBounds_toArray, List.set_cons_zero, List.set_cons_succ]
          refine take_want 3 (some 26) (.bool true) rfl rfl rfl (by kernel_rfl) (by kernel_rfl) (by kernel_rfl) (fun _ _ _ h => h) (fun wx hx => exec_move rfl rfl) hS ?_
          simp only [Act.put, List.setIfInBounds_toArray, List.set_cons_zero, List.set_cons_succ]
          refine take_want 4 (some 27) (.pointer (some ⟨w.heap.size, 0 + 1, none⟩)) rfl rfl rfl (by kernel_rfl) (by kernel_rfl) (by kernel_rfl) (fun _ _ _ h => h) (fun wx hx => exec_field rfl (fldR1 _ _ wx) rfl) hS ?_
          simp only [Act.put, List.setIfInBounds_toArray, List.set_cons_zero, List.set_cons_succ]
          refine take_want 5 (some 28) (.slice (some ⟨gK, oK, none⟩) n cK) rfl rfl rfl (by kernel_rfl) (by kernel_rfl) (by kernel_rfl) (fun _ _ _ h => h) (fun wx hx => exec_load rfl (load_intsP (cell_bel hx X1)) rfl) hS ?_
          simp only [Act.put, List.setIfInBounds_toArray, List.set_cons_zero, List.set_cons_succ]
          refine take_want 6 (some 29) (.int .i64 (c : Int)) rfl rfl rfl (by kernel_rfl) (by kernel_rfl) (by kernel_rfl) (fun _ _ _ h => h) (fun wx hx => exec_move rfl rfl) hS ?_
          simp only [Act.put, List.setIfInBounds_toArray, List.set_cons_zero, List.set_cons_succ]
          refine take_want 7 (some 30) (.pointer (some ⟨gK, oK + c, none⟩)) rfl rfl rfl (by kernel_rfl) (by kernel_rfl) (by kernel_rfl) (fun _ _ _ h => h) (fun wx hx => exec_index rfl (index_ints hcn) rfl rfl) hS ?_
          simp only [Act.put, List.setIfInBounds_toArray, List.set_cons_zero, List.set_cons_succ]
          refine take_want 8 (some 31) (.int .i64 q) rfl rfl rfl (by kernel_rfl) (by kernel_rfl) (by kernel_rfl) (fun _ _ _ h => h) (fun wx hx => exec_load rfl (load_intP (cell_bel hx CQ)) rfl) hS ?_
          simp only [Act.put, List.setIfInBounds_toArray, List.set_cons_zero, List.set_cons_succ]
          refine take_want 9 (some 32) (.int .i64 k) rfl rfl rfl (by kernel_rfl) (by kernel_rfl) (by kernel_rfl) (fun _ _ _ h => h) (fun wx hx => exec_move rfl rfl) hS ?_
          simp only [Act.put, List.setIfInBounds_toArray, List.set_cons_zero, List.set_cons_succ]
          refine take_want 10 (some 33) (.bool false) rfl rfl rfl (by kernel_rfl) (by kernel_rfl) (by kernel_rfl) (fun _ _ _ h => h) (fun wx hx => exec_eql rfl rfl rfl heq) hS ?_
          simp only [Act.put, List.setIfInBounds_toArray, List.set_cons_zero, List.set_cons_succ]
          refine take_want 11 (some 34) (.bool false) rfl rfl rfl (by kernel_rfl) (by kernel_rfl) (by kernel_rfl) (fun _ _ _ h => h) (fun wx hx => exec_pickT rfl rfl rfl) hS ?_
          simp only [Act.put, List.setIfInBounds_toArray, List.set_cons_zero, List.set_cons_succ]
          refine take_want 12 (some 4) (.int .i64 (c : Int)) rfl rfl rfl (by kernel_rfl) (by kernel_rfl) (by kernel_rfl) (fun _ _ _ h => h) (fun wx hx => exec_assign rfl rfl) hS ?_
          simp only [Act.put, List.setIfInBounds_toArray, List.set_cons_zero, List.set_cons_succ]
          refine take_want 13 (some 5) (.bool false) rfl rfl rfl (by kernel_rfl) (by kernel_rfl) (by kernel_rfl) (fun _ _ _ h => h) (fun wx hx => exec_assign rfl rfl) hS ?_
          simp only [Act.put, List.setIfInBounds_toArray, List.set_cons_zero, List.set_cons_succ]
          refine wpAnyH_done (by kernel_rfl) ?_ _
          clear X1 hge heq CQ
          go_wp2_with fail
          go_ret2
          exact ⟨⟨_, _, rfl, HFD.out⟩, nextB (nextB HBA.out HB.out) hS⟩
    | succ m =>
      have hlt : (j : Int) < (n : Int) := by omega
      have hb0 : (0 : Int) ≤ (j : Int) := by omega
      obtain ⟨a, ha⟩ : ∃ k, K[j]? = some k := ⟨K[j]'(by rw [HN.out]; omega), by rw [List.getElem?_eq_getElem]⟩
      obtain rfl := HK1.out (by omega)
      have k1 := cell_bel (nextB HBA.out HB.out) (HK2.out j a ha)
      have e7 : IntKind.i64.wrap ((j : Int) + 1) = (j : Int) + 1 := IntWalk.i64_in _ ⟨by omega, by omega⟩
      have HA := hide ha
      clear ha
      by_cases hak : a ≤ k
      · have HNX := hide (upto_yes HU.out HA.out hak)
        go_wp2_with fail
        go_roundg m
        case measure => omega
        case rel => exact ⟨j + 1, j + 1, by omega, by rw [show ((j + 1 : Nat) : Int) - 1 = (j : Int) by omega], by go_num, HNX, HB⟩
      · have HNX := hide (upto_no HC.out HA.out hak)
        go_wp2_with fail
        go_roundg m
        case measure => omega
        case rel => exact ⟨j + 1, c, by omega, rfl, by go_num, HNX, HB⟩
end Go.Proofs.Ytcidadikmmdalaa
