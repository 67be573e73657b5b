/- The document's Without. -/
import Derived.Test.YtcidadikmmdalaaRg
namespace Go.Proofs.Ytcidadikmmdalaa
open Go.RowKit Go.Extern

/-- What Without has made of the first numbers. -/
def wS (K M : List Int) (i j : Nat) : List Int := if j ≤ i then K.take j else K.take i ++ M ++ (K.take j).drop (i + 1)
theorem wS_zero (K M : List Int) (i : Nat) : wS K M i 0 = [] := by simp [wS]
theorem wS_other {K M : List Int} {i j : Nat} {a : Int} (h : K[j]? = some a) (hne : j ≠ i) : wS K M i (j + 1) = wS K M i j ++ [a] := by
  unfold wS
  by_cases hj : j < i
  · rw [if_pos (by omega), if_pos (by omega), take_snoc h]
  · rw [if_neg (by omega), if_neg (by omega), take_snoc h, List.drop_append_of_le_length (by have := (List.getElem?_eq_some_iff.1 h).1; simp; omega)]
    simp
theorem wS_here {K M : List Int} {i : Nat} (h : i < K.length) : wS K M i (i + 1) = wS K M i i ++ M := by
  unfold wS
  rw [if_neg (by omega), if_pos (Nat.le_refl _), List.drop_of_length_le (by simp; omega)]; simp
theorem wS_all {K M : List Int} {i j : Nat} (hi : i < K.length) (hj : K.length ≤ j) : wS K M i j = K.take i ++ M ++ K.drop (i + 1) := by
  unfold wS
  rw [if_neg (by omega), List.take_of_length_le hj]
theorem wS_len (K M : List Int) (i j : Nat) : (wS K M i j).length ≤ K.length + M.length + K.length := by
  unfold wS
  split
  · simp; omega
  · simp; omega

set_option maxRecDepth 100000 in
set_option maxHeartbeats 8000000 in
theorem without_any {w : World} {kv vv : Value} {K V : List Int} (L : Int) (hk : Ints w kv K) (hv : Ints w vv V) (hsm : V.length = K.length) (hfew : K.length ≤ 200) {i : Nat} (hi : i < K.length) {kx vx : Value} {M N : List Int} (hx : Ints w kx M) (hy : Ints w vx N) (hM : M.length ≤ 200) (hN : N.length ≤ 200) :
    Calls Try.prog 20 #[.agg #[.int .i64 L, kv, vv], .int .i64 (i : Int), kx, vx] w (Node1 w L (K.take i ++ M ++ K.drop (i + 1)) (V.take i ++ N ++ V.drop (i + 1))) := by
  obtain ⟨aK, cK, gK, oK, hkf, hK1, hK2⟩ := hk.at_
  obtain ⟨aV, cV, gV, oV, hvf, hV1, hV2⟩ := hv.at_
  obtain ⟨n, hn⟩ : ∃ n, K.length = n := ⟨_, rfl⟩
  rw [hsm, hn] at hvf hV1
  rw [hn] at hkf hK1 hfew hi
  obtain rfl := hK1 (by omega)
  obtain rfl := hV1 (by omega)
  have HN := hide hn
  have HNV : Hid (V.length = n) := hide (by rw [hsm, hn])
  have HK2 := hide hK2
  have HV2 := hide hV2
  have HKI := hide hk.2
  have HVI := hide hv.2
  have HMX := hide hx
  have HNX := hide hy
  have HML := hide hM
  have HNL := hide hN
  have HLIE : Hid (Lie w (w.heap.size + 1) (w.heap.size + 2) (w.heap.size + 3)) := hide ⟨by omega, by omega, by omega, by omega⟩
  obtain ⟨aX, nX, cX, hxf, -⟩ := hx.form
  obtain ⟨aY, nY, cY, hyf, -⟩ := hy.form
  clear hk hv hsm hn hK1 hV1 hK2 hV2 hx hy hM hN
  subst hkf hvf hxf hyf
  have HST : Hid (RpW w (w.heap.size + 1) (w.heap.size + 2) (w.heap.size + 3) L (.slice (some ⟨gK, oK, none⟩) n cK) (.slice (some ⟨gV, oV, none⟩) n cV) [] [] (.slice none 0 0) (.slice none 0 0) (((w.alloc (.cells #[.int .i64 L, .slice (some ⟨gK, oK, none⟩) n cK, .slice (some ⟨gV, oV, none⟩) n cV] 24)).alloc (.cells #[.int .i64 0, .slice none 0 0, .slice none 0 0] 24)).alloc (.cells #[.int .i64 L, .slice none 0 0, .slice none 0 0] 24))) := by
    have hb1 := bel_alloc (w.alloc (.cells #[.int .i64 L, .slice (some ⟨gK, oK, none⟩) n cK, .slice (some ⟨gV, oV, none⟩) n cV] 24)) (.cells #[.int .i64 0, .slice none 0 0, .slice none 0 0] 24)
    have hb2 := bel_alloc ((w.alloc (.cells #[.int .i64 L, .slice (some ⟨gK, oK, none⟩) n cK, .slice (some ⟨gV, oV, none⟩) n cV] 24)).alloc (.cells #[.int .i64 0, .slice none 0 0, .slice none 0 0] 24)) (.cells #[.int .i64 L, .slice none 0 0, .slice none 0 0] 24)
    refine hide ⟨⟨⟨.int .i64 0, .slice none 0 0, .slice none 0 0, ?_⟩, ?_, Two.nil _ _, nextB (nextB (bel_alloc _ _) hb1) hb2⟩, ?_, by simp⟩
    · have := heap_new2 (w.alloc (.cells #[.int .i64 L, .slice (some ⟨gK, oK, none⟩) n cK, .slice (some ⟨gV, oV, none⟩) n cV] 24)) (.cells #[.int .i64 0, .slice none 0 0, .slice none 0 0] 24) (.cells #[.int .i64 L, .slice none 0 0, .slice none 0 0] 24)
      rwa [World.size_alloc] at this
    · have := heap_alloc_new ((w.alloc (.cells #[.int .i64 L, .slice (some ⟨gK, oK, none⟩) n cK, .slice (some ⟨gV, oV, none⟩) n cV] 24)).alloc (.cells #[.int .i64 0, .slice none 0 0, .slice none 0 0] 24)) (.cells #[.int .i64 L, .slice none 0 0, .slice none 0 0] 24)
      rwa [World.size_alloc, World.size_alloc] at this
    · exact (BoxN.new 24 w L _ _).below (nextB hb1 hb2)
  go_enter Try.func20, Try.ntmps20
  go_wp2_with fail
  go_loopg [10] n (fun t s10 wr => ∃ (j : Nat) (kvO vvO : Value), j + t = n ∧ s10 = .int .i64 (j : Int) ∧ Hid (RpW w (w.heap.size + 1) (w.heap.size + 2) (w.heap.size + 3) L (.slice (some ⟨gK, oK, none⟩) n cK) (.slice (some ⟨gV, oV, none⟩) n cV) (wS K M i j) (wS V N i j) kvO vvO wr))
  case atStart => exact ⟨0, _, _, by omega, rfl, by rw [wS_zero, wS_zero]; exact HST⟩
  case round =>
    obtain ⟨j, kvO, vvO, hj, rfl, HRP⟩ := hrel
    have HLO : Hid ((wS K M i j).length ≤ 1000) := hide (by have := wS_len K M i j; have := HML.out; rw [HN.out] at *; omega)
    have HLU : Hid ((wS V N i j).length ≤ 1000) := hide (by have := wS_len V N i j; have := HNL.out; rw [HNV.out] at *; omega)
    obtain ⟨aO, nO, cO, hkO, -⟩ := HRP.out.md.two.hk.form
    obtain ⟨aU, nU, cU, hvO, -⟩ := HRP.out.md.two.hv.form
    subst hkO hvO
    obtain ⟨o0, o1, o2⟩ := HRP.out.c
    obtain ⟨x0, x1, x2⟩ := HRP.out.bn.cells
    cases gk with
    | zero =>
      have hnl : ¬ (j : Int) < (n : Int) := by omega
      have hj0 : ((j : Int) == 0) = false := by simp; omega
      have HE1 := hide (wS_all (M := M) (i := i) (j := j) (K := K) (by rw [HN.out]; omega) (by rw [HN.out]; omega))
      have HE2 := hide (wS_all (M := N) (i := i) (j := j) (K := V) (by rw [HNV.out]; omega) (by rw [HNV.out]; omega))
      obtain ⟨x4, y4, z4, h4⟩ := HRP.out.md.h4
      have d0 := row_cell h4 0
      have d1 := row_cell h4 1
      have d2 := row_cell h4 2
      simp at d0 d1 d2
      have f0 := row_frozen h4 0
      have f1 := row_frozen h4 1
      have f2 := row_frozen h4 2
      have H4 := hide h4
      clear h4
      go_wp2_with fail
      refine ret_rnode rfl _ _ _ _ rfl (set_at2 (set_at1 (set_at0 H4.out _) _) _) rfl ?_
      have ht := (((HRP.out.md.two.set (i := 0) (b := w.heap.size + 1) (by omega) (.int .i64 L)).set (i := 1) (b := w.heap.size + 1) (by omega) (.slice aO nO cO)).set (i := 2) (b := w.heap.size + 1) (by omega) (.slice aU nU cU)).base (base' := w.heap.size) (by omega)
      rw [HE1.out, HE2.out] at ht
      simp only [List.append_assoc] at ht
      have hbb : Below w.heap.size w (((wr.setCell ⟨w.heap.size + 1, 0, none⟩ (.int .i64 L)).setCell ⟨w.heap.size + 1, 1, none⟩ (.slice aO nO cO)).setCell ⟨w.heap.size + 1, 2, none⟩ (.slice aU nU cU)) := ((HRP.out.md.bel.setCell (show w.heap.size ≤ w.heap.size + 1 by omega) _).setCell (show w.heap.size ≤ w.heap.size + 1 by omega) _).setCell (show w.heap.size ≤ w.heap.size + 1 by omega) _
      exact ⟨_, _, rfl, ht, hbb⟩
    | succ m =>
      have hlt : (j : Int) < (n : Int) := by omega
      have hb0 : (0 : Int) ≤ (j : Int) := by omega
      have hjn : j < n := by omega
      have e7 : IntKind.i64.wrap ((j : Int) + 1) = (j : Int) + 1 := IntWalk.i64_in _ ⟨by omega, by omega⟩
      have HE7 := hide e7
      by_cases hji : j = i
      · subst hji
        have en : ((j : Int) == (j : Int)) = true := by simp
        have HNK := hide (wS_here (K := K) (M := M) (i := j) (by rw [HN.out]; omega))
        have HNV2 := hide (wS_here (K := V) (M := N) (i := j) (by rw [HNV.out]; omega))
        obtain ⟨kv1, w5, ha1, hk1⟩ := HRP.out.keys HLIE.out (HMX.out.below HRP.out.md.bel) (by have := HLO.out; have := HML.out; omega)
        obtain ⟨vv1, w6, ha2, hv1⟩ := hk1.rp.vals HLIE.out (HNX.out.below hk1.rp.md.bel) (by have := HLU.out; have := HNL.out; omega)
        have q2 := hk1.rp.c.2.2
        have c5 := hk1.c
        have f5 := hk1.f
        have c6 := hv1.c
        have f6 := hv1.f
        have HRP2 := hide hv1.rp
        obtain ⟨a1, n1, c1, rfl, -⟩ := hk1.rp.md.two.hk.form
        obtain ⟨a2, n2, c2, rfl, -⟩ := hv1.rp.md.two.hv.form
        clear hk1 hv1 HE7
        go_wp2_with (first
          | (at_builtin; refine wpList_append_eq rfl _ _ rfl rfl rfl ha1 ?_; clear ha1)
          | (at_builtin; refine wpList_append_eq rfl _ _ rfl rfl rfl ha2 ?_; clear ha2))
        go_roundg m
        case measure => omega
        case rel => exact ⟨j + 1, _, _, by omega, by go_num, hide (by rw [HNK.out, HNV2.out]; exact HRP2.out)⟩
      · obtain ⟨a, haj⟩ : ∃ k, K[j]? = some k := ⟨K[j]'(by rw [HN.out]; omega), by rw [List.getElem?_eq_getElem]⟩
        obtain ⟨b, hbj⟩ : ∃ k, V[j]? = some k := ⟨V[j]'(by rw [HNV.out]; omega), by rw [List.getElem?_eq_getElem]⟩
        have HA64 := hide (HKI.out _ (List.mem_of_getElem? haj))
        have HB64 := hide (HVI.out _ (List.mem_of_getElem? hbj))
        have HC := hide (And.intro (HK2.out j a haj) (HV2.out j b hbj))
        have en : ((j : Int) == (i : Int)) = false := by simp; omega
        have en2 : ((j : Int) != (i : Int)) = true := by simp; omega
        have en3 : (j == i) = false := by simpa using hji
        have HEN := hide (And.intro en (And.intro en2 en3))
        have HNK := hide (wS_other (M := M) haj hji)
        have HNV2 := hide (wS_other (M := N) hbj hji)
        clear haj hbj hji e7
        go_wp2_with fail
        clear o0 o1 o2 x0 x1 x2 en en2 en3
        obtain ⟨C0, C1⟩ := HC.out
        have yS := hide (AppS.below ⟨HRP.out.bn, HRP.out.md.bel⟩ (below_drew0 wr))
        have yR := hide (HRP.out.below (below_drew0 wr))
        refine wp_region_held_drew (S := AppS w L (.slice (some ⟨gK, oK, none⟩) n cK) (.slice (some ⟨gV, oV, none⟩) n cV)) (by kernel_rfl) yS.out (fun hS => ?_)
        obtain ⟨yd, hyd⟩ : ∃ x, (wr).drew = x := ⟨_, rfl⟩
        simp only [hyd] at hS yR ⊢
        clear hyd yS
        refine take_want 0 (some 35) (.pointer (some ⟨w.heap.size + 2, 0 + 1, none⟩)) rfl rfl rfl (by kernel_rfl) (by kernel_rfl) (by kernel_rfl) (fun _ _ _ h => h) (fun wx hx => exec_field rfl (fldR1 _ _ wx) rfl) hS ?_
        simp only [Act.put, List.setIfInBounds_toArray, List.set_cons_zero, List.set_cons_succ]
        refine take_want 2 (some 37) (.pointer (some ⟨w.heap.size, 0 + 1, none⟩)) rfl rfl rfl (by kernel_rfl) (by kernel_rfl) (by kernel_rfl) (fun _ _ _ h => h) (fun wx hx => exec_field rfl (fldR1 _ _ wx) rfl) hS ?_
        simp only [Act.put, List.setIfInBounds_toArray, List.set_cons_zero, List.set_cons_succ]
        refine take_want 3 (some 38) (.slice (some ⟨gK, oK, none⟩) n cK) rfl rfl rfl (by kernel_rfl) (by kernel_rfl) (by kernel_rfl) (fun _ _ _ h => h) (fun wx hx => exec_load rfl (load_intsP hx.c.2.1) rfl) hS ?_
        simp only [Act.put, List.setIfInBounds_toArray, List.set_cons_zero, List.set_cons_succ]
        refine take_want 4 (some 39) (.int .i64 (j : Int)) rfl rfl rfl (by kernel_rfl) (by kernel_rfl) (by kernel_rfl) (fun _ _ _ h => h) (fun wx hx => exec_move rfl rfl) hS ?_
        simp only [Act.put, List.setIfInBounds_toArray, List.set_cons_zero, List.set_cons_succ]
        refine take_want 5 (some 40) (.pointer (some ⟨gK, oK + j, none⟩)) rfl rfl rfl (by kernel_rfl) (by kernel_rfl) (by kernel_rfl) (fun _ _ _ h => h) (fun wx hx => exec_index rfl (index_ints hjn) rfl rfl) hS ?_
        simp only [Act.put, List.setIfInBounds_toArray, List.set_cons_zero, List.set_cons_succ]
        refine take_want 6 (some 41) (.int .i64 a) rfl rfl rfl (by kernel_rfl) (by kernel_rfl) (by kernel_rfl) (fun _ _ _ h => h) (fun wx hx => exec_load rfl (load_intP (cell_bel hx.bel C0)) rfl) hS ?_
        simp only [Act.put, List.setIfInBounds_toArray, List.set_cons_zero, List.set_cons_succ]
        obtain ⟨yu, yw, ya, yk⟩ := yR.out.key HLIE.out (k := a) HA64.out (by have := HLO.out; omega)
        have yl := (yR.out.below (bel_alloc yd (.cells #[.int .i64 a] 3)))
        refine both_value 1 7 (some 36) (some 42) rfl rfl rfl rfl rfl rfl (by kernel_rfl) (by kernel_rfl) (by kernel_rfl) (vi := (.slice aO nO cO)) (vj := .slice (some ⟨yd.heap.size, 0, none⟩) 1 1) (w' := yd.alloc (.cells #[.int .i64 a] 3)) ?_ ?_ hS (hS.below (bel_alloc _ _)) rfl rfl ?_
        · rintro a' (rfl | rfl) wx (rfl | rfl)
          · exact exec_load rfl (load_intsP yR.out.c.2.1) rfl
          · exact exec_load rfl (load_intsP yl.c.2.1) rfl
          · exact exec_load rfl (load_intsP yR.out.c.2.1) rfl
          · exact exec_load rfl (load_intsP yl.c.2.1) rfl
        · rintro a' (rfl | rfl)
          · exact exec_one rfl (lit1 yd a) rfl
          · exact exec_one rfl (lit1 yd a) rfl
        simp only [Act.put, List.setIfInBounds_toArray, List.set_cons_zero, List.set_cons_succ]
        refine only_value 8 (some 43) rfl rfl rfl (by kernel_rfl) (exec_append rfl ya rfl rfl) ⟨yk.bn, yk.bel⟩ ?_
        simp only [Act.put, List.setIfInBounds_toArray, List.set_cons_zero, List.set_cons_succ]
        refine take_want 9 (some 44) (.pointer (some ⟨w.heap.size + 2, 0 + 1, none⟩)) rfl rfl rfl (by kernel_rfl) (by kernel_rfl) (by kernel_rfl) (fun _ _ _ h => h) (fun wx hx => exec_field rfl (fldR1 _ _ wx) rfl) ⟨yk.bn, yk.bel⟩ ?_
        simp only [Act.put, List.setIfInBounds_toArray, List.set_cons_zero, List.set_cons_succ]
        obtain ⟨yA, yN, yC, rfl, -⟩ := yk.rp.md.two.hk.form
        refine only_skip 10 none rfl rfl rfl (by kernel_rfl) (exec_store rfl (store_ints yk.c yk.f) rfl rfl) ⟨yk.rp.bn, yk.rp.md.bel⟩ ?_
        refine wpAnyH_done (by kernel_rfl) ?_ _
        have yF := hide yk.rp
        clear yl ya yk hS yR
        obtain ⟨yx, hyx⟩ : ∃ x, yw.setCell ⟨w.heap.size + 2, 0 + 1, none⟩ (.slice yA yN yC) = x := ⟨_, rfl⟩
        have hyy := hyx
        rw [Nat.zero_add] at hyy
        simp only [hyy] at yF
        simp only [hyx]
        clear hyx hyy
        obtain ⟨o0, o1, o2⟩ := yF.out.c
        obtain ⟨x0, x1, x2⟩ := yF.out.bn.cells
        go_wp2_with fail
        clear o0 o1 o2 x0 x1 x2
        have zS := hide (AppS.below ⟨yF.out.bn, yF.out.md.bel⟩ (below_drew0 yx))
        have zR := hide (yF.out.below (below_drew0 yx))
        refine wp_region_held_drew (S := AppS w L (.slice (some ⟨gK, oK, none⟩) n cK) (.slice (some ⟨gV, oV, none⟩) n cV)) (by kernel_rfl) zS.out (fun hS => ?_)
        obtain ⟨zd, hzd⟩ : ∃ x, (yx).drew = x := ⟨_, rfl⟩
        simp only [hzd] at hS zR ⊢
        clear hzd zS
        refine take_want 0 (some 45) (.pointer (some ⟨w.heap.size + 2, 0 + 2, none⟩)) rfl rfl rfl (by kernel_rfl) (by kernel_rfl) (by kernel_rfl) (fun _ _ _ h => h) (fun wx hx => exec_field rfl (fldR2 _ _ wx) rfl) hS ?_
        simp only [Act.put, List.setIfInBounds_toArray, List.set_cons_zero, List.set_cons_succ]
        refine take_want 2 (some 47) (.pointer (some ⟨w.heap.size, 0 + 2, none⟩)) rfl rfl rfl (by kernel_rfl) (by kernel_rfl) (by kernel_rfl) (fun _ _ _ h => h) (fun wx hx => exec_field rfl (fldR2 _ _ wx) rfl) hS ?_
        simp only [Act.put, List.setIfInBounds_toArray, List.set_cons_zero, List.set_cons_succ]
        refine take_want 3 (some 48) (.slice (some ⟨gV, oV, none⟩) n cV) rfl rfl rfl (by kernel_rfl) (by kernel_rfl) (by kernel_rfl) (fun _ _ _ h => h) (fun wx hx => exec_load rfl (load_intsP hx.c.2.2) rfl) hS ?_
        simp only [Act.put, List.setIfInBounds_toArray, List.set_cons_zero, List.set_cons_succ]
        refine take_want 4 (some 49) (.int .i64 (j : Int)) rfl rfl rfl (by kernel_rfl) (by kernel_rfl) (by kernel_rfl) (fun _ _ _ h => h) (fun wx hx => exec_move rfl rfl) hS ?_
        simp only [Act.put, List.setIfInBounds_toArray, List.set_cons_zero, List.set_cons_succ]
        refine take_want 5 (some 50) (.pointer (some ⟨gV, oV + j, none⟩)) rfl rfl rfl (by kernel_rfl) (by kernel_rfl) (by kernel_rfl) (fun _ _ _ h => h) (fun wx hx => exec_index rfl (index_ints hjn) rfl rfl) hS ?_
        simp only [Act.put, List.setIfInBounds_toArray, List.set_cons_zero, List.set_cons_succ]
        refine take_want 6 (some 51) (.int .i64 b) rfl rfl rfl (by kernel_rfl) (by kernel_rfl) (by kernel_rfl) (fun _ _ _ h => h) (fun wx hx => exec_load rfl (load_intP (cell_bel hx.bel C1)) rfl) hS ?_
        simp only [Act.put, List.setIfInBounds_toArray, List.set_cons_zero, List.set_cons_succ]
        obtain ⟨zu, zw, za, zk⟩ := zR.out.val HLIE.out (k := b) HB64.out (by have := HLU.out; omega)
        have zl := (zR.out.below (bel_alloc zd (.cells #[.int .i64 b] 3)))
        refine both_value 1 7 (some 46) (some 52) rfl rfl rfl rfl rfl rfl (by kernel_rfl) (by kernel_rfl) (by kernel_rfl) (vi := (.slice aU nU cU)) (vj := .slice (some ⟨zd.heap.size, 0, none⟩) 1 1) (w' := zd.alloc (.cells #[.int .i64 b] 3)) ?_ ?_ hS (hS.below (bel_alloc _ _)) rfl rfl ?_
        · rintro a' (rfl | rfl) wx (rfl | rfl)
          · exact exec_load rfl (load_intsP zR.out.c.2.2) rfl
          · exact exec_load rfl (load_intsP zl.c.2.2) rfl
          · exact exec_load rfl (load_intsP zR.out.c.2.2) rfl
          · exact exec_load rfl (load_intsP zl.c.2.2) rfl
        · rintro a' (rfl | rfl)
          · exact exec_one rfl (lit1 zd b) rfl
          · exact exec_one rfl (lit1 zd b) rfl
        simp only [Act.put, List.setIfInBounds_toArray, List.set_cons_zero, List.set_cons_succ]
        refine only_value 8 (some 53) rfl rfl rfl (by kernel_rfl) (exec_append rfl za rfl rfl) ⟨zk.bn, zk.bel⟩ ?_
        simp only [Act.put, List.setIfInBounds_toArray, List.set_cons_zero, List.set_cons_succ]
        refine take_want 9 (some 54) (.pointer (some ⟨w.heap.size + 2, 0 + 2, none⟩)) rfl rfl rfl (by kernel_rfl) (by kernel_rfl) (by kernel_rfl) (fun _ _ _ h => h) (fun wx hx => exec_field rfl (fldR2 _ _ wx) rfl) ⟨zk.bn, zk.bel⟩ ?_
        simp only [Act.put, List.setIfInBounds_toArray, List.set_cons_zero, List.set_cons_succ]
        obtain ⟨zA, zN, zC, rfl, -⟩ := zk.rp.md.two.hv.form
        refine only_skip 10 none rfl rfl rfl (by kernel_rfl) (exec_store rfl (store_ints zk.c zk.f) rfl rfl) ⟨zk.rp.bn, zk.rp.md.bel⟩ ?_
        refine wpAnyH_done (by kernel_rfl) ?_ _
        have zF := hide zk.rp
        clear zl za zk hS zR
        obtain ⟨zx, hzx⟩ : ∃ x, zw.setCell ⟨w.heap.size + 2, 0 + 2, none⟩ (.slice zA zN zC) = x := ⟨_, rfl⟩
        have hzy := hzx
        rw [Nat.zero_add] at hzy
        simp only [hzy] at zF
        simp only [hzx]
        clear hzx hzy
        clear C0 C1
        have e7 := HE7.out
        obtain ⟨en, en2, en3⟩ := HEN.out
        go_wp2_with fail
        go_roundg m
        case measure => omega
        case rel => exact ⟨j + 1, _, _, by omega, by go_num, hide (by rw [HNK.out, HNV2.out]; exact zF.out)⟩
end Go.Proofs.Ytcidadikmmdalaa
