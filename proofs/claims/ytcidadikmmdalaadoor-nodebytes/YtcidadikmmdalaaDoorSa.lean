/- The document's Same, and the law's same. -/
import Derived.Test.YtcidadikmmdalaaDoorPu
namespace Go.Proofs.YtcidadikmmdalaaDoor
open Go.RowKit Go.Extern

theorem take_more {l m : List Int} {j : Nat} {k : Int} (h : l.take j = m.take j) (h1 : l[j]? = some k) (h2 : m[j]? = some k) : l.take (j + 1) = m.take (j + 1) := by rw [take_snoc h1, take_snoc h2, h]
theorem take_all {l m : List Int} {n : Nat} (h : l.take n = m.take n) (h1 : l.length = n) (h2 : m.length = n) : l = m := by
  rwa [List.take_of_length_le (by omega), List.take_of_length_le (by omega)] at h
/-- Are these nodes equal? -/
def sameB (L : Int) (K V : List Int) (M : Int) (K2 V2 : List Int) : Bool := decide (L = M ∧ K = K2 ∧ V = V2)
theorem sameB_iff {L : Int} {K V : List Int} {M : Int} {K2 V2 : List Int} : sameB L K V M K2 V2 = true ↔ L = M ∧ K = K2 ∧ V = V2 := by simp [sameB]
theorem sameB_false {L : Int} {K V : List Int} {M : Int} {K2 V2 : List Int} : sameB L K V M K2 V2 = false ↔ ¬ (L = M ∧ K = K2 ∧ V = V2) := by simp [sameB]
theorem sameB_self (L : Int) (K V : List Int) : sameB L K V L K V = true := sameB_iff.2 ⟨rfl, rfl, rfl⟩

set_option maxRecDepth 100000 in
set_option maxHeartbeats 2000000 in
theorem rsame_any {w : World} {kv vv kv2 vv2 : Value} {K V K2 V2 : List Int} (L M : Int) (hk : Ints w kv K) (hv : Ints w vv V) (hk2 : Ints w kv2 K2) (hv2 : Ints w vv2 V2) :
    Calls Tryd.prog 13 #[.agg #[.int .i64 L, kv, vv], .agg #[.int .i64 M, kv2, vv2]] w fun e w' => e = .returned (.bool (sameB L K V M K2 V2)) ∧ Below w.heap.size w w' := by
  have h5 := hk.len
  have h6 := hv.len
  have HBA := hide (nextB (bel_alloc w (.cells #[.int .i64 L, kv, vv] 24)) (bel_alloc (w.alloc (.cells #[.int .i64 L, kv, vv] 24)) (.cells #[.int .i64 M, kv2, vv2] 24)))
  have HXA : Hid (BoxN 24 ((w.alloc (.cells #[.int .i64 L, kv, vv] 24)).alloc (.cells #[.int .i64 M, kv2, vv2] 24)) w.heap.size L kv vv) := hide (heap_new2 _ _ _)
  have HXB : Hid (BoxN 24 ((w.alloc (.cells #[.int .i64 L, kv, vv] 24)).alloc (.cells #[.int .i64 M, kv2, vv2] 24)) (w.heap.size + 1) M kv2 vv2) := hide (by
    have := BoxN.new 24 (w.alloc (.cells #[.int .i64 L, kv, vv] 24)) M kv2 vv2
    rwa [World.size_alloc] at this)
  obtain ⟨aK, cK, gK, oK, ekv, hK1, hK2⟩ := hk.at_
  obtain ⟨aV, cV, gV, oV, evv, hV1, hV2⟩ := hv.at_
  obtain ⟨aK2, cK2, gK2, oK2, ekv2, hK21, hK22⟩ := hk2.at_
  obtain ⟨aV2, cV2, gV2, oV2, evv2, hV21, hV22⟩ := hv2.at_
  have HCK := hide hK2
  have HCV := hide hV2
  have HCK2 := hide hK22
  have HCV2 := hide hV22
  have HA := hide (And.intro hK1 (And.intro hV1 (And.intro hK21 hV21)))
  obtain ⟨n, hn⟩ : ∃ n, K.length = n := ⟨_, rfl⟩
  obtain ⟨m, hm⟩ : ∃ n, V.length = n := ⟨_, rfl⟩
  obtain ⟨n2, hn2⟩ : ∃ n, K2.length = n := ⟨_, rfl⟩
  obtain ⟨m2, hm2⟩ : ∃ n, V2.length = n := ⟨_, rfl⟩
  rw [hn] at ekv h5
  rw [hm] at evv h6
  rw [hn2] at ekv2
  rw [hm2] at evv2
  have HN := hide (And.intro hn (And.intro hm (And.intro hn2 hm2)))
  clear hk hv hk2 hv2 hK1 hK2 hV1 hV2 hK21 hK22 hV21 hV22
  subst ekv evv ekv2 evv2
  by_cases hLM : L = M
  rotate_left
  · rw [sameB_false.2 (fun h => hLM h.1)]
    have e1 : (L == M) = false := by simpa using hLM
    have e2 : (L != M) = true := by simpa using hLM
    clear hLM hn hm hn2 hm2
    go_enter Tryd.func13, Tryd.ntmps13
    go_wp2_with fail
    go_ret
    exact ⟨rfl, HBA.out⟩
  subst hLM
  by_cases hnn : n = n2
  rotate_left
  · rw [sameB_false.2 (fun h => hnn (by rw [← hn, ← hn2, h.2.1]))]
    have e1 : ((n : Int) == (n2 : Int)) = false := by simp; omega
    have e3 : (n == n2) = false := by simpa using hnn
    have e2 : ((n : Int) != (n2 : Int)) = true := by simp; omega
    clear hnn hn hm hn2 hm2
    go_enter Tryd.func13, Tryd.ntmps13
    go_wp2_with fail
    go_ret
    exact ⟨rfl, HBA.out⟩
  subst hnn
  by_cases hmm : m = m2
  rotate_left
  · rw [sameB_false.2 (fun h => hmm (by rw [← hm, ← hm2, h.2.2]))]
    have e1 : ((m : Int) == (m2 : Int)) = false := by simp; omega
    have e3 : (m == m2) = false := by simpa using hmm
    have e2 : ((m : Int) != (m2 : Int)) = true := by simp; omega
    clear hmm hn hm hn2 hm2
    go_enter Tryd.func13, Tryd.ntmps13
    go_wp2_with fail
    go_ret
    exact ⟨rfl, HBA.out⟩
  subst hmm
  clear hn hm hn2 hm2
  go_enter Tryd.func13, Tryd.ntmps13
  go_wp2_with fail
  obtain ⟨wA, hwA⟩ : ∃ x, ((w.alloc (.cells #[.int .i64 L, .slice aK n cK, .slice aV m cV] 24)).alloc (.cells #[.int .i64 L, .slice aK2 n cK2, .slice aV2 m cV2] 24)) = x := ⟨_, rfl⟩
  simp only [hwA] at HBA HXA HXB ⊢
  clear hwA
  go_loopg [5] n (fun t i wr => ∃ j : Nat, j + t = n ∧ i = .int .i64 (j : Int) ∧ Hid (K.take j = K2.take j) ∧ Hid (Below wA.heap.size wA wr))
  case atStart => exact ⟨0, by omega, rfl, hide rfl, hide (Below.refl _ _)⟩
  case round =>
    obtain ⟨j, hj, rfl, HT, HB⟩ := hrel
    obtain ⟨x0, x1, x2⟩ := (HXA.out.below HB.out).cells
    obtain ⟨y0, y1, y2⟩ := (HXB.out.below HB.out).cells
    cases gk with
    | zero =>
      have hnl : ¬ (j : Int) < (n : Int) := by omega
      have HKE : Hid (K = K2) := hide (by
        have := HT.out
        rw [show j = n by omega] at this
        exact take_all this HN.out.1 HN.out.2.2.1)
      clear HT
      go_wp2_with fail
      clear x0 x1 x2 y0 y1 y2 hj hnl
      go_loopg [6] m (fun t i wr => ∃ j : Nat, j + t = m ∧ i = .int .i64 (j : Int) ∧ Hid (V.take j = V2.take j) ∧ Hid (Below wA.heap.size wA wr))
      case atStart => exact ⟨0, by omega, rfl, hide rfl, HB⟩
      case round =>
        clear HB
        obtain ⟨j, hj, rfl, HT, HB⟩ := hrel
        obtain ⟨x0, x1, x2⟩ := (HXA.out.below HB.out).cells
        obtain ⟨y0, y1, y2⟩ := (HXB.out.below HB.out).cells
        cases gk with
        | zero =>
          have hnl : ¬ (j : Int) < (m : Int) := by omega
          have HVE : Hid (V = V2) := hide (by
            have := HT.out
            rw [show j = m by omega] at this
            exact take_all this HN.out.2.1 HN.out.2.2.2)
          go_wp2_with fail
          go_ret
          exact ⟨by rw [sameB_iff.2 ⟨rfl, HKE.out, HVE.out⟩]; rfl, nextB HBA.out HB.out⟩
        | succ r =>
          have hlt : (j : Int) < (m : Int) := by omega
          have hjn : j < m := by omega
          obtain ⟨k, hkj⟩ : ∃ k, V[j]? = some k := ⟨V[j]'(by rw [HN.out.2.1]; omega), by rw [List.getElem?_eq_getElem]⟩
          obtain ⟨k2, hkj2⟩ : ∃ k, V2[j]? = some k := ⟨V2[j]'(by rw [HN.out.2.2.2]; omega), by rw [List.getElem?_eq_getElem]⟩
          obtain rfl := HA.out.2.1 (by rw [HN.out.2.1]; omega)
          obtain rfl := HA.out.2.2.2 (by rw [HN.out.2.2.2]; omega)
          have HC0 := hide (cell_bel (nextB HBA.out HB.out) (HCV.out j k hkj))
          have HC1 := hide (cell_bel (nextB HBA.out HB.out) (HCV2.out j k2 hkj2))
          have HKJ := hide hkj
          have HKJ2 := hide hkj2
          have HSB := hide (below_drew0 wr)
          have e7 : IntKind.i64.wrap ((j : Int) + 1) = (j : Int) + 1 := IntWalk.i64_in _ ⟨by omega, by omega⟩
          clear hkj hkj2
          go_wp2_with fail
          have XA := x2
          have XB := y2
          have C0 := HC0.out
          have C1 := HC1.out
          by_cases hkk : k = k2
          · subst hkk
            have hne : decide (k ≠ k) = false := by simp
            refine wp_region_held_drew (S := Below wr.heap.size wr) (by kernel_rfl) HSB.out (fun hS => ?_)
            refine take_want 0 (some 55) (.pointer (some ⟨w.heap.size, 0 + 2, none⟩)) rfl rfl rfl (by kernel_rfl) (by kernel_rfl) (by kernel_rfl) (fun _ _ _ h => h) (fun wx hx => exec_field rfl (fldR2 _ _ wx) rfl) hS ?_
            simp only [Act.put, List.setIfInBounds_toArray, List.set_cons_zero, List.set_cons_succ]
            refine take_want 1 (some 56) (.slice (some ⟨gV, oV, none⟩) m cV) rfl rfl rfl (by kernel_rfl) (by kernel_rfl) (by kernel_rfl) (fun _ _ _ h => h) (fun wx hx => exec_load rfl (load_intsP (cell_bel hx XA)) rfl) hS ?_
            simp only [Act.put, List.setIfInBounds_toArray, List.set_cons_zero, List.set_cons_succ]
            refine take_want 2 (some 57) (.int .i64 (j : Int)) rfl rfl rfl (by kernel_rfl) (by kernel_rfl) (by kernel_rfl) (fun _ _ _ h => h) (fun wx hx => exec_move rfl rfl) hS ?_
            simp only [Act.put, List.setIfInBounds_toArray, List.set_cons_zero, List.set_cons_succ]
            refine take_want 3 (some 58) (.pointer (some ⟨gV, oV + j, none⟩)) rfl rfl rfl (by kernel_rfl) (by kernel_rfl) (by kernel_rfl) (fun _ _ _ h => h) (fun wx hx => exec_index rfl (index_ints hjn) rfl rfl) hS ?_
            simp only [Act.put, List.setIfInBounds_toArray, List.set_cons_zero, List.set_cons_succ]
            refine take_want 4 (some 59) (.int .i64 k) rfl rfl rfl (by kernel_rfl) (by kernel_rfl) (by kernel_rfl) (fun _ _ _ h => h) (fun wx hx => exec_load rfl (load_intP (cell_bel hx C0)) rfl) hS ?_
            simp only [Act.put, List.setIfInBounds_toArray, List.set_cons_zero, List.set_cons_succ]
            refine take_want 5 (some 60) (.pointer (some ⟨w.heap.size + 1, 0 + 2, none⟩)) rfl rfl rfl (by kernel_rfl) (by kernel_rfl) (by kernel_rfl) (fun _ _ _ h => h) (fun wx hx => exec_field rfl (fldR2 _ _ wx) rfl) hS ?_
            simp only [Act.put, List.setIfInBounds_toArray, List.set_cons_zero, List.set_cons_succ]
            refine take_want 6 (some 61) (.slice (some ⟨gV2, oV2, none⟩) m cV2) rfl rfl rfl (by kernel_rfl) (by kernel_rfl) (by kernel_rfl) (fun _ _ _ h => h) (fun wx hx => exec_load rfl (load_intsP (cell_bel hx XB)) rfl) hS ?_
            simp only [Act.put, List.setIfInBounds_toArray, List.set_cons_zero, List.set_cons_succ]
            refine take_want 7 (some 62) (.int .i64 (j : Int)) rfl rfl rfl (by kernel_rfl) (by kernel_rfl) (by kernel_rfl) (fun _ _ _ h => h) (fun wx hx => exec_move rfl rfl) hS ?_
            simp only [Act.put, List.setIfInBounds_toArray, List.set_cons_zero, List.set_cons_succ]
            refine take_want 8 (some 63) (.pointer (some ⟨gV2, oV2 + j, none⟩)) rfl rfl rfl (by kernel_rfl) (by kernel_rfl) (by kernel_rfl) (fun _ _ _ h => h) (fun wx hx => exec_index rfl (index_ints hjn) rfl rfl) hS ?_
            simp only [Act.put, List.setIfInBounds_toArray, List.set_cons_zero, List.set_cons_succ]
            refine take_want 9 (some 64) (.int .i64 k) rfl rfl rfl (by kernel_rfl) (by kernel_rfl) (by kernel_rfl) (fun _ _ _ h => h) (fun wx hx => exec_load rfl (load_intP (cell_bel hx C1)) rfl) hS ?_
            simp only [Act.put, List.setIfInBounds_toArray, List.set_cons_zero, List.set_cons_succ]
            refine take_want 10 (some 65) (.bool false) rfl rfl rfl (by kernel_rfl) (by kernel_rfl) (by kernel_rfl) (fun _ _ _ h => h) (fun wx hx => exec_neq rfl rfl rfl hne) hS ?_
            simp only [Act.put, List.setIfInBounds_toArray, List.set_cons_zero, List.set_cons_succ]
            refine wpAnyH_done (by kernel_rfl) ?_ _
            clear XA XB C0 C1 hne x0 x1 x2 y0 y1 y2
            go_wp2_with fail
            go_roundg r
            case measure => omega
            case rel => exact ⟨j + 1, by omega, by go_num, hide (take_more HT.out HKJ.out HKJ2.out), hide (nextB HB.out hS)⟩
          · have hne : decide (k ≠ k2) = true := decide_eq_true hkk
            have HNE : Hid (sameB L K V L K2 V2 = false) := hide (sameB_false.2 (fun h => hkk (by
              have h1 := HKJ.out
              rw [h.2.2, HKJ2.out] at h1
              exact (Option.some.inj h1).symm)))
            refine wp_region_held_drew (S := Below wr.heap.size wr) (by kernel_rfl) HSB.out (fun hS => ?_)
            refine take_want 0 (some 55) (.pointer (some ⟨w.heap.size, 0 + 2, none⟩)) rfl rfl rfl (by kernel_rfl) (by kernel_rfl) (by kernel_rfl) (fun _ _ _ h => h) (fun wx hx => exec_field rfl (fldR2 _ _ wx) rfl) hS ?_
            simp only [Act.put, List.setIfInBounds_toArray, List.set_cons_zero, List.set_cons_succ]
            refine take_want 1 (some 56) (.slice (some ⟨gV, oV, none⟩) m cV) rfl rfl rfl (by kernel_rfl) (by kernel_rfl) (by kernel_rfl) (fun _ _ _ h => h) (fun wx hx => exec_load rfl (load_intsP (cell_bel hx XA)) rfl) hS ?_
            simp only [Act.put, List.setIfInBounds_toArray, List.set_cons_zero, List.set_cons_succ]
            refine take_want 2 (some 57) (.int .i64 (j : Int)) rfl rfl rfl (by kernel_rfl) (by kernel_rfl) (by kernel_rfl) (fun _ _ _ h => h) (fun wx hx => exec_move rfl rfl) hS ?_
            simp only [Act.put, List.setIfInBounds_toArray, List.set_cons_zero, List.set_cons_succ]
            refine take_want 3 (some 58) (.pointer (some ⟨gV, oV + j, none⟩)) rfl rfl rfl (by kernel_rfl) (by kernel_rfl) (by kernel_rfl) (fun _ _ _ h => h) (fun wx hx => exec_index rfl (index_ints hjn) rfl rfl) hS ?_
            simp only [Act.put, List.setIfInBounds_toArray, List.set_cons_zero, List.set_cons_succ]
            refine take_want 4 (some 59) (.int .i64 k) rfl rfl rfl (by kernel_rfl) (by kernel_rfl) (by kernel_rfl) (fun _ _ _ h => h) (fun wx hx => exec_load rfl (load_intP (cell_bel hx C0)) rfl) hS ?_
            simp only [Act.put, List.setIfInBounds_toArray, List.set_cons_zero, List.set_cons_succ]
            refine take_want 5 (some 60) (.pointer (some ⟨w.heap.size + 1, 0 + 2, none⟩)) rfl rfl rfl (by kernel_rfl) (by kernel_rfl) (by kernel_rfl) (fun _ _ _ h => h) (fun wx hx => exec_field rfl (fldR2 _ _ wx) rfl) hS ?_
            simp only [Act.put, List.setIfInBounds_toArray, List.set_cons_zero, List.set_cons_succ]
            refine take_want 6 (some 61) (.slice (some ⟨gV2, oV2, none⟩) m cV2) rfl rfl rfl (by kernel_rfl) (by kernel_rfl) (by kernel_rfl) (fun _ _ _ h => h) (fun wx hx => exec_load rfl (load_intsP (cell_bel hx XB)) rfl) hS ?_
            simp only [Act.put, List.setIfInBounds_toArray, List.set_cons_zero, List.set_cons_succ]
            refine take_want 7 (some 62) (.int .i64 (j : Int)) rfl rfl rfl (by kernel_rfl) (by kernel_rfl) (by kernel_rfl) (fun _ _ _ h => h) (fun wx hx => exec_move rfl rfl) hS ?_
            simp only [Act.put, List.setIfInBounds_toArray, List.set_cons_zero, List.set_cons_succ]
            refine take_want 8 (some 63) (.pointer (some ⟨gV2, oV2 + j, none⟩)) rfl rfl rfl (by kernel_rfl) (by kernel_rfl) (by kernel_rfl) (fun _ _ _ h => h) (fun wx hx => exec_index rfl (index_ints hjn) rfl rfl) hS ?_
            simp only [Act.put, List.setIfInBounds_toArray, List.set_cons_zero, List.set_cons_succ]
            refine take_want 9 (some 64) (.int .i64 k2) rfl rfl rfl (by kernel_rfl) (by kernel_rfl) (by kernel_rfl) (fun _ _ _ h => h) (fun wx hx => exec_load rfl (load_intP (cell_bel hx C1)) rfl) hS ?_
            simp only [Act.put, List.setIfInBounds_toArray, List.set_cons_zero, List.set_cons_succ]
            refine take_want 10 (some 65) (.bool true) rfl rfl rfl (by kernel_rfl) (by kernel_rfl) (by kernel_rfl) (fun _ _ _ h => h) (fun wx hx => exec_neq rfl rfl rfl hne) hS ?_
            simp only [Act.put, List.setIfInBounds_toArray, List.set_cons_zero, List.set_cons_succ]
            refine wpAnyH_done (by kernel_rfl) ?_ _
            clear XA XB C0 C1 hne x0 x1 x2 y0 y1 y2
            go_wp2_with fail
            go_ret
            exact ⟨by rw [HNE.out]; rfl, nextB (nextB HBA.out HB.out) hS⟩
    | succ r =>
      have hlt : (j : Int) < (n : Int) := by omega
      have hjn : j < n := by omega
      obtain ⟨k, hkj⟩ : ∃ k, K[j]? = some k := ⟨K[j]'(by rw [HN.out.1]; omega), by rw [List.getElem?_eq_getElem]⟩
      obtain ⟨k2, hkj2⟩ : ∃ k, K2[j]? = some k := ⟨K2[j]'(by rw [HN.out.2.2.1]; omega), by rw [List.getElem?_eq_getElem]⟩
      obtain rfl := HA.out.1 (by rw [HN.out.1]; omega)
      obtain rfl := HA.out.2.2.1 (by rw [HN.out.2.2.1]; omega)
      have HC0 := hide (cell_bel (nextB HBA.out HB.out) (HCK.out j k hkj))
      have HC1 := hide (cell_bel (nextB HBA.out HB.out) (HCK2.out j k2 hkj2))
      have HKJ := hide hkj
      have HKJ2 := hide hkj2
      have HSB := hide (below_drew0 wr)
      have e7 : IntKind.i64.wrap ((j : Int) + 1) = (j : Int) + 1 := IntWalk.i64_in _ ⟨by omega, by omega⟩
      clear hkj hkj2
      go_wp2_with fail
      have XA := x1
      have XB := y1
      have C0 := HC0.out
      have C1 := HC1.out
      by_cases hkk : k = k2
      · subst hkk
        have hne : decide (k ≠ k) = false := by simp
        refine wp_region_held_drew (S := Below wr.heap.size wr) (by kernel_rfl) HSB.out (fun hS => ?_)
        refine take_want 0 (some 37) (.pointer (some ⟨w.heap.size, 0 + 1, none⟩)) rfl rfl rfl (by kernel_rfl) (by kernel_rfl) (by kernel_rfl) (fun _ _ _ h => h) (fun wx hx => exec_field rfl (fldR1 _ _ wx) rfl) hS ?_
        simp only [Act.put, List.setIfInBounds_toArray, List.set_cons_zero, List.set_cons_succ]
        refine take_want 1 (some 38) (.slice (some ⟨gK, oK, none⟩) n cK) rfl rfl rfl (by kernel_rfl) (by kernel_rfl) (by kernel_rfl) (fun _ _ _ h => h) (fun wx hx => exec_load rfl (load_intsP (cell_bel hx XA)) rfl) hS ?_
        simp only [Act.put, List.setIfInBounds_toArray, List.set_cons_zero, List.set_cons_succ]
        refine take_want 2 (some 39) (.int .i64 (j : Int)) rfl rfl rfl (by kernel_rfl) (by kernel_rfl) (by kernel_rfl) (fun _ _ _ h => h) (fun wx hx => exec_move rfl rfl) hS ?_
        simp only [Act.put, List.setIfInBounds_toArray, List.set_cons_zero, List.set_cons_succ]
        refine take_want 3 (some 40) (.pointer (some ⟨gK, oK + j, none⟩)) rfl rfl rfl (by kernel_rfl) (by kernel_rfl) (by kernel_rfl) (fun _ _ _ h => h) (fun wx hx => exec_index rfl (index_ints hjn) rfl rfl) hS ?_
        simp only [Act.put, List.setIfInBounds_toArray, List.set_cons_zero, List.set_cons_succ]
        refine take_want 4 (some 41) (.int .i64 k) rfl rfl rfl (by kernel_rfl) (by kernel_rfl) (by kernel_rfl) (fun _ _ _ h => h) (fun wx hx => exec_load rfl (load_intP (cell_bel hx C0)) rfl) hS ?_
        simp only [Act.put, List.setIfInBounds_toArray, List.set_cons_zero, List.set_cons_succ]
        refine take_want 5 (some 42) (.pointer (some ⟨w.heap.size + 1, 0 + 1, none⟩)) rfl rfl rfl (by kernel_rfl) (by kernel_rfl) (by kernel_rfl) (fun _ _ _ h => h) (fun wx hx => exec_field rfl (fldR1 _ _ wx) rfl) hS ?_
        simp only [Act.put, List.setIfInBounds_toArray, List.set_cons_zero, List.set_cons_succ]
        refine take_want 6 (some 43) (.slice (some ⟨gK2, oK2, none⟩) n cK2) rfl rfl rfl (by kernel_rfl) (by kernel_rfl) (by kernel_rfl) (fun _ _ _ h => h) (fun wx hx => exec_load rfl (load_intsP (cell_bel hx XB)) rfl) hS ?_
        simp only [Act.put, List.setIfInBounds_toArray, List.set_cons_zero, List.set_cons_succ]
        refine take_want 7 (some 44) (.int .i64 (j : Int)) rfl rfl rfl (by kernel_rfl) (by kernel_rfl) (by kernel_rfl) (fun _ _ _ h => h) (fun wx hx => exec_move rfl rfl) hS ?_
        simp only [Act.put, List.setIfInBounds_toArray, List.set_cons_zero, List.set_cons_succ]
        refine take_want 8 (some 45) (.pointer (some ⟨gK2, oK2 + j, none⟩)) rfl rfl rfl (by kernel_rfl) (by kernel_rfl) (by kernel_rfl) (fun _ _ _ h => h) (fun wx hx => exec_index rfl (index_ints hjn) rfl rfl) hS ?_
        simp only [Act.put, List.setIfInBounds_toArray, List.set_cons_zero, List.set_cons_succ]
        refine take_want 9 (some 46) (.int .i64 k) rfl rfl rfl (by kernel_rfl) (by kernel_rfl) (by kernel_rfl) (fun _ _ _ h => h) (fun wx hx => exec_load rfl (load_intP (cell_bel hx C1)) rfl) hS ?_
        simp only [Act.put, List.setIfInBounds_toArray, List.set_cons_zero, List.set_cons_succ]
        refine take_want 10 (some 47) (.bool false) rfl rfl rfl (by kernel_rfl) (by kernel_rfl) (by kernel_rfl) (fun _ _ _ h => h) (fun wx hx => exec_neq rfl rfl rfl hne) hS ?_
        simp only [Act.put, List.setIfInBounds_toArray, List.set_cons_zero, List.set_cons_succ]
        refine wpAnyH_done (by kernel_rfl) ?_ _
        clear XA XB C0 C1 hne x0 x1 x2 y0 y1 y2
        go_wp2_with fail
        go_roundg r
        case measure => omega
        case rel => exact ⟨j + 1, by omega, by go_num, hide (take_more HT.out HKJ.out HKJ2.out), hide (nextB HB.out hS)⟩
      · have hne : decide (k ≠ k2) = true := decide_eq_true hkk
        have HNE : Hid (sameB L K V L K2 V2 = false) := hide (sameB_false.2 (fun h => hkk (by
          have h1 := HKJ.out
          rw [h.2.1, HKJ2.out] at h1
          exact (Option.some.inj h1).symm)))
        refine wp_region_held_drew (S := Below wr.heap.size wr) (by kernel_rfl) HSB.out (fun hS => ?_)
        refine take_want 0 (some 37) (.pointer (some ⟨w.heap.size, 0 + 1, none⟩)) rfl rfl rfl (by kernel_rfl) (by kernel_rfl) (by kernel_rfl) (fun _ _ _ h => h) (fun wx hx => exec_field rfl (fldR1 _ _ wx) rfl) hS ?_
        simp only [Act.put, List.setIfInBounds_toArray, List.set_cons_zero, List.set_cons_succ]
        refine take_want 1 (some 38) (.slice (some ⟨gK, oK, none⟩) n cK) rfl rfl rfl (by kernel_rfl) (by kernel_rfl) (by kernel_rfl) (fun _ _ _ h => h) (fun wx hx => exec_load rfl (load_intsP (cell_bel hx XA)) rfl) hS ?_
        simp only [Act.put, List.setIfInBounds_toArray, List.set_cons_zero, List.set_cons_succ]
        refine take_want 2 (some 39) (.int .i64 (j : Int)) rfl rfl rfl (by kernel_rfl) (by kernel_rfl) (by kernel_rfl) (fun _ _ _ h => h) (fun wx hx => exec_move rfl rfl) hS ?_
        simp only [Act.put, List.setIfInBounds_toArray, List.set_cons_zero, List.set_cons_succ]
        refine take_want 3 (some 40) (.pointer (some ⟨gK, oK + j, none⟩)) rfl rfl rfl (by kernel_rfl) (by kernel_rfl) (by kernel_rfl) (fun _ _ _ h => h) (fun wx hx => exec_index rfl (index_ints hjn) rfl rfl) hS ?_
        simp only [Act.put, List.setIfInBounds_toArray, List.set_cons_zero, List.set_cons_succ]
        refine take_want 4 (some 41) (.int .i64 k) rfl rfl rfl (by kernel_rfl) (by kernel_rfl) (by kernel_rfl) (fun _ _ _ h => h) (fun wx hx => exec_load rfl (load_intP (cell_bel hx C0)) rfl) hS ?_
        simp only [Act.put, List.setIfInBounds_toArray, List.set_cons_zero, List.set_cons_succ]
        refine take_want 5 (some 42) (.pointer (some ⟨w.heap.size + 1, 0 + 1, none⟩)) rfl rfl rfl (by kernel_rfl) (by kernel_rfl) (by kernel_rfl) (fun _ _ _ h => h) (fun wx hx => exec_field rfl (fldR1 _ _ wx) rfl) hS ?_
        simp only [Act.put, List.setIfInBounds_toArray, List.set_cons_zero, List.set_cons_succ]
        refine take_want 6 (some 43) (.slice (some ⟨gK2, oK2, none⟩) n cK2) rfl rfl rfl (by kernel_rfl) (by kernel_rfl) (by kernel_rfl) (fun _ _ _ h => h) (fun wx hx => exec_load rfl (load_intsP (cell_bel hx XB)) rfl) hS ?_
        simp only [Act.put, List.setIfInBounds_toArray, List.set_cons_zero, List.set_cons_succ]
        refine take_want 7 (some 44) (.int .i64 (j : Int)) rfl rfl rfl (by kernel_rfl) (by kernel_rfl) (by kernel_rfl) (fun _ _ _ h => h) (fun wx hx => exec_move rfl rfl) hS ?_
        simp only [Act.put, List.setIfInBounds_toArray, List.set_cons_zero, List.set_cons_succ]
        refine take_want 8 (some 45) (.pointer (some ⟨gK2, oK2 + j, none⟩)) rfl rfl rfl (by kernel_rfl) (by kernel_rfl) (by kernel_rfl) (fun _ _ _ h => h) (fun wx hx => exec_index rfl (index_ints hjn) rfl rfl) hS ?_
        simp only [Act.put, List.setIfInBounds_toArray, List.set_cons_zero, List.set_cons_succ]
        refine take_want 9 (some 46) (.int .i64 k2) rfl rfl rfl (by kernel_rfl) (by kernel_rfl) (by kernel_rfl) (fun _ _ _ h => h) (fun wx hx => exec_load rfl (load_intP (cell_bel hx C1)) rfl) hS ?_
        simp only [Act.put, List.setIfInBounds_toArray, List.set_cons_zero, List.set_cons_succ]
        refine take_want 10 (some 47) (.bool true) rfl rfl rfl (by kernel_rfl) (by kernel_rfl) (by kernel_rfl) (fun _ _ _ h => h) (fun wx hx => exec_neq rfl rfl rfl hne) hS ?_
        simp only [Act.put, List.setIfInBounds_toArray, List.set_cons_zero, List.set_cons_succ]
        refine wpAnyH_done (by kernel_rfl) ?_ _
        clear XA XB C0 C1 hne x0 x1 x2 y0 y1 y2
        go_wp2_with fail
        go_ret
        exact ⟨by rw [HNE.out]; rfl, nextB (nextB HBA.out HB.out) hS⟩

set_option maxRecDepth 100000 in
set_option maxHeartbeats 1000000 in
theorem same_any {w : World} {kv vv kv2 vv2 : Value} {K V K2 V2 : List Int} (L M : Int) (hk : Ints w kv K) (hv : Ints w vv V) (hk2 : Ints w kv2 K2) (hv2 : Ints w vv2 V2) :
    Calls Tryd.prog 17 #[.agg #[.int .i64 L, kv, vv], .agg #[.int .i64 M, kv2, vv2]] w fun e w' => e = .returned (.bool (sameB L K V M K2 V2)) ∧ Below w.heap.size w w' := by
  have hb := nextB (bel_alloc w (.cells #[.int .i64 L, kv, vv] 30)) (bel_alloc (w.alloc (.cells #[.int .i64 L, kv, vv] 30)) (.cells #[.int .i64 M, kv2, vv2] 24))
  have hS := rsame_any L M (hk.below hb) (hv.below hb) (hk2.below hb) (hv2.below hb)
  have HB := hide hb
  obtain ⟨aK, nK, cK, rfl, -⟩ := hk.form
  obtain ⟨aV, nV, cV, rfl, -⟩ := hv.form
  obtain ⟨aK2, nK2, cK2, rfl, -⟩ := hk2.form
  obtain ⟨aV2, nV2, cV2, rfl, -⟩ := hv2.form
  obtain ⟨b, hbb⟩ : ∃ b, sameB L K V M K2 V2 = b := ⟨_, rfl⟩
  rw [hbb] at hS ⊢
  clear hk hv hk2 hv2 hb hbb
  go_enter Tryd.func17, Tryd.ntmps17
  go_wp2_with (go_at_call 13; refine hS.mono ?_; rintro e w1 ⟨rfl, hb1⟩; have HB1 := hide (nextB HB.out hb1); clear hb1)
  go_ret
  exact ⟨rfl, HB1.out⟩
end Go.Proofs.YtcidadikmmdalaaDoor
