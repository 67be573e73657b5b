/- The law NodeBytes. -/
import Derived.Test.YtcidadikmmdalaaDoorNb
import Derived.Test.YtcidadikmmdalaaDoorRb
import Derived.Test.YtcidadikmmdalaaDoorRpa
import Derived.Test.YtcidadikmmdalaaDoorNpa
import Derived.Test.YtcidadikmmdalaaDoorEq
import Derived.Test.YtcidadikmmdalaaDoorOf
import Derived.Test.YtcidadikmmdalaaDoorAw
namespace Go.Proofs.YtcidadikmmdalaaDoor
open Go.RowKit Go.Extern

theorem enterOfQ (args : Array Value) (w : World) : (callFunc 5 args).run Tryd.prog w = .ok (.enter 5 args) w := by kernel_rfl
theorem enterNSame (args : Array Value) (w : World) : (callFunc 12 args).run Tryd.prog w = .ok (.enter 12 args) w := by kernel_rfl
theorem enterRSame10 (args : Array Value) (w : World) : (callFunc 13 args).run Tryd.prog w = .ok (.enter 13 args) w := by kernel_rfl
theorem exec_neqB {ρ : Operand → Value} {o : Oper} {w : World} {x y : Operand} {b : Bool} {T : TypeId} (ho : o.op = .binOp .neq 4 x y T) (hx : ρ x = .bool b) (hy : ρ y = .bool b) : (execOp ρ o).run Tryd.prog w = .ok (.value (.bool false)) w := by
  have hb : (b != b) = false := by simp
  unfold execOp; simp only [ho, hx, hy]; go_simp
theorem max2_run (x y : Int) (w : World) : (Builtin.max2 (.int .i64 x) (.int .i64 y)).run Tryd.prog w = .ok (.int .i64 (if y > x then y else x)) w := rfl
theorem max4 (n m k l : Nat) (w : World) : ∃ r : Int, (Builtin.max_ #[3, 3, 3, 3] 3 #[.int .i64 (n : Int), .int .i64 (m : Int), .int .i64 (k : Int), .int .i64 (l : Int)]).run Tryd.prog w = .ok (.int .i64 r) w ∧ (n : Int) ≤ r ∧ (m : Int) ≤ r ∧ (k : Int) ≤ r ∧ (l : Int) ≤ r := by
  obtain ⟨a, ha, h1, h2⟩ : ∃ a : Int, (if (m : Int) > n then (m : Int) else n) = a ∧ (n : Int) ≤ a ∧ (m : Int) ≤ a := ⟨_, rfl, by split <;> omega, by split <;> omega⟩
  obtain ⟨b, hb, h3, h4⟩ : ∃ b : Int, (if (k : Int) > a then (k : Int) else a) = b ∧ a ≤ b ∧ (k : Int) ≤ b := ⟨_, rfl, by split <;> omega, by split <;> omega⟩
  obtain ⟨c, hc, h5, h6⟩ : ∃ c : Int, (if (l : Int) > b then (l : Int) else b) = c ∧ b ≤ c ∧ (l : Int) ≤ c := ⟨_, rfl, by split <;> omega, by split <;> omega⟩
  refine ⟨c, ?_, by omega, by omega, by omega, h6⟩
  have e1 := max2_run (n : Int) (m : Int) w
  have e2 := max2_run a (k : Int) w
  have e3 := max2_run b (l : Int) w
  rw [ha] at e1
  rw [hb] at e2
  rw [hc] at e3
  simp [Builtin.max_, e1, e2, e3]
theorem wpList_max4_eq {w : World} {ops : Array Oper} {rest : List Oper} {o : Oper} {a : Act} {Q : Exit → Act → World → Prop} {v x1 x2 x3 x4 : Value} {t : TypeId} (hg : o.guard = none) (s1 s2 s3 s4 : Operand)
    (hop : o.op = Op.call { callee := Callee.builtin Builtin.max, args := #[s1, s2, s3, s4], argTypes := #[t, t, t, t] }) (h1 : a.eval s1 = x1) (h2 : a.eval s2 = x2) (h3 : a.eval s3 = x3) (h4 : a.eval s4 = x4) (hrun : (Builtin.max_ #[t, t, t, t] o.type #[x1, x2, x3, x4]).run Tryd.prog w = .ok v w)
    (hK : wpList Tryd.prog ops Q rest (a.put o.dst v) w) : wpList Tryd.prog ops Q (o :: rest) a w := by
  refine wpList_plain hg fun K hK' => ?_
  unfold Oper.wp
  simp [execOp, hop, resolve, invoke, builtin, h1, h2, h3, h4, hrun, Result.andThen]
  exact hK' _ _ hK

set_option maxRecDepth 100000 in
set_option maxHeartbeats 16000000 in
theorem bytesL_any {w : World} {kv vv kv2 vv2 sv : Value} {K V K2 V2 : List Int} {s : List Nat} (hL : Fr.Laid w) (L M : Int) (hk : Ints w kv K) (hv : Ints w vv V) (hk2 : Ints w kv2 K2) (hv2 : Ints w vv2 V2) (hs : Fr.Bytes w sv s) :
    Calls Tryd.prog 3 #[.agg #[.int .i64 L, kv, vv], .agg #[.int .i64 M, kv2, vv2], sv] w fun e w' => e = .returned (.bool true) ∧ Below w.heap.size w w' := by
  have HBA := hide (nextB (bel_alloc w (.cells #[.int .i64 L, kv, vv] 24)) (bel_alloc (w.alloc (.cells #[.int .i64 L, kv, vv] 24)) (.cells #[.int .i64 M, kv2, vv2] 24)))
  have HK := hide (hk.below HBA.out)
  have HV := hide (hv.below HBA.out)
  have HK2 := hide (hk2.below HBA.out)
  have HV2 := hide (hv2.below HBA.out)
  have HS := hide (hs.below HBA.out)
  have HLd := hide hL
  have hx1 : BoxN 24 ((w.alloc (.cells #[.int .i64 L, kv, vv] 24)).alloc (.cells #[.int .i64 M, kv2, vv2] 24)) w.heap.size L kv vv := heap_new2 _ _ _
  have hx2 : BoxN 24 ((w.alloc (.cells #[.int .i64 L, kv, vv] 24)).alloc (.cells #[.int .i64 M, kv2, vv2] 24)) (w.heap.size + 1) M kv2 vv2 := by
    have := heap_alloc_new (w.alloc (.cells #[.int .i64 L, kv, vv] 24)) (.cells #[.int .i64 M, kv2, vv2] 24)
    rwa [World.size_alloc] at this
  have HX1 := hide hx1
  have HX2 := hide hx2
  obtain ⟨aK, n, cK, hkf, hn⟩ := hk.form
  obtain ⟨aV, nv, cV, hvf, hnv⟩ := hv.form
  obtain ⟨aK2, n2, cK2, hkf2, hn2⟩ := hk2.form
  obtain ⟨aV2, nv2, cV2, hvf2, hnv2⟩ := hv2.form
  obtain ⟨aS, cS, gS, oS, hsf, -⟩ := hs
  obtain ⟨ns, hns⟩ : ∃ m, s.length = m := ⟨_, rfl⟩
  rw [hns] at hsf
  have HN := hide hn.out.symm
  have HNV := hide hnv.out.symm
  have HN2 := hide hn2.out.symm
  have HNV2 := hide hnv2.out.symm
  have HNS := hide hns
  obtain ⟨E, hE⟩ : ∃ b, sameB L K V M K2 V2 = b := ⟨_, rfl⟩
  have HE := hide hE
  clear hk hv hk2 hv2 hn hnv hn2 hnv2 hns hL hx1 hx2 hE
  subst hkf hvf hkf2 hvf2 hsf
  obtain ⟨r, hmx, hr1, hr2, hr3, hr4⟩ := max4 n nv n2 nv2 ((w.alloc (.cells #[.int .i64 L, .slice aK n cK, .slice aV nv cV] 24)).alloc (.cells #[.int .i64 M, .slice aK2 n2 cK2, .slice aV2 nv2 cV2] 24))
  by_cases hbig : 200 < r
  · go_enter Tryd.func3, Tryd.ntmps3
    go_wp2_with (first
      | (at_builtin; refine wpList_max4_eq rfl _ _ _ _ rfl rfl rfl rfl rfl hmx ?_; clear hmx)
      | (go_at_call 4; refine (awake_any _).mono ?_; rintro e w3 ⟨rfl, hb3⟩; have HB3 := hide (nextB HBA.out hb3); clear hb3))
    go_ret
    exact ⟨rfl, HB3.out⟩
  by_cases hbig2 : 1000 < (ns : Int)
  · go_enter Tryd.func3, Tryd.ntmps3
    go_wp2_with (first
      | (at_builtin; refine wpList_max4_eq rfl _ _ _ _ rfl rfl rfl rfl rfl hmx ?_; clear hmx)
      | (go_at_call 4; refine (awake_any _).mono ?_; rintro e w3 ⟨rfl, hb3⟩; have HB3 := hide (nextB HBA.out hb3); clear hb3))
    go_ret
    exact ⟨rfl, HB3.out⟩
  have hsm1 : n ≤ 200 := by omega
  have hsm2 : nv ≤ 200 := by omega
  have hsm3 : n2 ≤ 200 := by omega
  have hsm4 : nv2 ≤ 200 := by omega
  clear hr1 hr2 hr3 hr4
  by_cases hR : Rt L K V
  · have hrt := rtB_iff.2 hR
    have HR := hide hR
    clear hR
    go_enter Tryd.func3, Tryd.ntmps3
    go_wp2_with (at_builtin; refine wpList_max4_eq rfl _ _ _ _ rfl rfl rfl rfl rfl hmx ?_; clear hmx)
    obtain ⟨wB, hwB⟩ : ∃ x, (w.alloc (.cells #[.int .i64 L, .slice aK n cK, .slice aV nv cV] 24)).alloc (.cells #[.int .i64 M, .slice aK2 n2 cK2, .slice aV2 nv2 cV2] 24) = x := ⟨_, rfl⟩
    simp only [hwB] at HBA HK HV HK2 HV2 HS HX1 HX2 ⊢
    clear hwB
    refine (of_any L (HK.out) (HV.out) (by rw [HN.out]; omega) (by rw [HNV.out]; omega)).mono ?_
    rintro e w1 ⟨kw1, vw1, rfl, htw1, hbw1⟩
    have HWw1 := hide (hbw1)
    have HIw1 := hide htw1.ints
    obtain ⟨aKw1, nKw1, cKw1, rfl, -⟩ := htw1.hk.form
    obtain ⟨aVw1, nVw1, cVw1, rfl, -⟩ := htw1.hv.form
    clear htw1 hbw1
    go_wp2_with fail
    refine (nbytes_ok (HLd.out.below (nextB HBA.out HWw1.out)) HIw1.out.1 HIw1.out.2 HR.out).mono ?_
    rintro e w2 ⟨u2, rfl, hu2, hb2⟩
    have HWw2 := hide (nextB HWw1.out hb2)
    have HU2 := hide hu2
    obtain ⟨a2, c2, g2, o2, hu2f, -⟩ := hu2
    obtain ⟨m2, hm2⟩ : ∃ m, (Fr.frameOf 2 (payB L (K.zip V))).length = m := ⟨_, rfl⟩
    rw [hm2] at hu2f
    subst hu2f
    clear hb2 hm2
    obtain ⟨x0, x1, x2⟩ := (HX1.out.below HWw2.out).cells
    go_wp2_with fail
    clear x0 x1 x2
    refine (right_any L (HK.out.below HWw2.out) (HV.out.below HWw2.out)).mono ?_
    rintro e w3 ⟨rfl, hbw3⟩
    rw [hrt]
    have HWw3 := hide (nextB HWw2.out hbw3)
    have H23 := hide hbw3
    clear hbw3
    obtain ⟨x0, x1, x2⟩ := (HX1.out.below HWw3.out).cells
    go_wp2_with fail
    clear x0 x1 x2
    refine (of_any L (HK.out.below HWw3.out) (HV.out.below HWw3.out) (by rw [HN.out]; omega) (by rw [HNV.out]; omega)).mono ?_
    rintro e w4 ⟨kw4, vw4, rfl, htw4, hbw4⟩
    have HWw4 := hide (nextB HWw3.out hbw4)
    have H24 := hide (nextB H23.out hbw4)
    have HIw4 := hide htw4.ints
    obtain ⟨aKw4, nKw4, cKw4, rfl, -⟩ := htw4.hk.form
    obtain ⟨aVw4, nVw4, cVw4, rfl, -⟩ := htw4.hv.form
    clear htw4 hbw4
    go_wp2_with fail
    refine (check_ok HIw4.out.1 HIw4.out.2 HR.out).mono ?_
    rintro e w5 ⟨rfl, hb5⟩
    have HWw5 := hide (nextB HWw4.out hb5)
    have H25 := hide (nextB H24.out hb5)
    clear hb5
    obtain ⟨x0, x1, x2⟩ := (HX1.out.below HWw5.out).cells
    go_wp2_with fail
    clear x0 x1 x2
    refine (rbytes_any (HK.out.below HWw5.out) (HV.out.below HWw5.out) HR.out).mono ?_
    rintro e w6 ⟨u6, rfl, hu6, hb6⟩
    have HWw6 := hide (nextB HWw5.out hb6)
    have HU6 := hide hu6
    obtain ⟨a6, c6, g6, o6, hu6f, -⟩ := hu6
    obtain ⟨m6, hm6⟩ : ∃ m, (Fr.frameOf 2 (payB L (K.zip V))).length = m := ⟨_, rfl⟩
    rw [hm6] at hu6f
    subst hu6f
    have HU26 := hide (HU2.out.below (nextB H25.out hb6))
    clear hb6 hm6
    go_wp2_with fail
    refine (Fr.same_any _ _ _ _ w6 HU26.out HU6.out).mono ?_
    rintro e w7 ⟨rfl, hw7⟩
    subst w7
    rw [decide_eq_true rfl]
    have HKz := hide (HK.out.below HWw6.out)
    have HVz := hide (HV.out.below HWw6.out)
    have HK2z := hide (HK2.out.below HWw6.out)
    have HV2z := hide (HV2.out.below HWw6.out)
    have HSz := hide (HS.out.below HWw6.out)
    have HLz := hide (HLd.out.below (nextB HBA.out HWw6.out))
    have HCz := hide (And.intro (HX1.out.below HWw6.out).cells (HX2.out.below HWw6.out).cells)
    have HSB := hide (below_drew0 w6)
    have HBz := hide (nextB HBA.out HWw6.out)
    go_wp2_with fail
    obtain ⟨⟨N0, N1, N2⟩, O0, O1, O2⟩ := HCz.out
    refine wp_region_held_drew (S := Below w6.heap.size w6) (by kernel_rfl) HSB.out (fun hS => ?_)
    obtain ⟨wd, hwd⟩ : ∃ x, w6.drew = x := ⟨_, rfl⟩
    rw [hwd] at hS ⊢
    clear hwd HSB
    refine take_want 0 (some 71) (.agg #[.int .i64 L, .slice aK n cK, .slice aV nv cV]) rfl rfl rfl (by kernel_rfl) (by kernel_rfl) (by kernel_rfl) (fun _ _ _ h => h) (fun wx hx => exec_load rfl (load_rnodeQ ⟨cell_bel hx N0, cell_bel hx N1, cell_bel hx N2⟩) rfl) hS ?_
    simp only [Act.put, List.setIfInBounds_toArray, List.set_cons_zero, List.set_cons_succ]
    refine take_want 2 (some 73) (.agg #[.int .i64 M, .slice aK2 n2 cK2, .slice aV2 nv2 cV2]) rfl rfl rfl (by kernel_rfl) (by kernel_rfl) (by kernel_rfl) (fun _ _ _ h => h) (fun wx hx => exec_load rfl (load_rnodeQ ⟨cell_bel hx O0, cell_bel hx O1, cell_bel hx O2⟩) rfl) hS ?_
    simp only [Act.put, List.setIfInBounds_toArray, List.set_cons_zero, List.set_cons_succ]
    refine take_want 5 (some 76) (.agg #[.int .i64 L, .slice aK n cK, .slice aV nv cV]) rfl rfl rfl (by kernel_rfl) (by kernel_rfl) (by kernel_rfl) (fun _ _ _ h => h) (fun wx hx => exec_load rfl (load_rnodeQ ⟨cell_bel hx N0, cell_bel hx N1, cell_bel hx N2⟩) rfl) hS ?_
    simp only [Act.put, List.setIfInBounds_toArray, List.set_cons_zero, List.set_cons_succ]
    refine take_want 6 (some 77) (.agg #[.int .i64 M, .slice aK2 n2 cK2, .slice aV2 nv2 cV2]) rfl rfl rfl (by kernel_rfl) (by kernel_rfl) (by kernel_rfl) (fun _ _ _ h => h) (fun wx hx => exec_load rfl (load_rnodeQ ⟨cell_bel hx O0, cell_bel hx O1, cell_bel hx O2⟩) rfl) hS ?_
    simp only [Act.put, List.setIfInBounds_toArray, List.set_cons_zero, List.set_cons_succ]
    refine call_want 1 (some 72) rfl rfl rfl (by kernel_rfl) (exec_call1 rfl enterOfQ rfl rfl) ((of_any L (HKz.out.below hS) (HVz.out.below hS) (by rw [HN.out]; omega) (by rw [HNV.out]; omega)).mono ?_)
    rintro e' wa ⟨ka, va, rfl, hta, hba⟩
    have hSa := nextB hS hba
    refine ⟨_, rfl, hSa, ?_⟩
    simp only [Act.put, List.setIfInBounds_toArray, List.set_cons_zero, List.set_cons_succ]
    refine call_want 3 (some 74) rfl rfl rfl (by kernel_rfl) (exec_call1 rfl enterOfQ rfl rfl) ((of_any M (HK2z.out.below hSa) (HV2z.out.below hSa) (by rw [HN2.out]; omega) (by rw [HNV2.out]; omega)).mono ?_)
    rintro e' wb ⟨kb, vb, rfl, htb, hbb⟩
    have hSb := nextB hSa hbb
    refine ⟨_, rfl, hSb, ?_⟩
    simp only [Act.put, List.setIfInBounds_toArray, List.set_cons_zero, List.set_cons_succ]
    refine call_want 4 (some 75) rfl rfl rfl (by kernel_rfl) (exec_call2 rfl enterNSame rfl rfl rfl) ((nsame_any L M (hta.ints.1.below hbb) (hta.ints.2.below hbb) htb.ints.1 htb.ints.2).mono ?_)
    rintro e' wc ⟨rfl, hbc⟩
    rw [HE.out]
    have hSc := nextB hSb hbc
    refine ⟨_, rfl, hSc, ?_⟩
    simp only [Act.put, List.setIfInBounds_toArray, List.set_cons_zero, List.set_cons_succ]
    refine call_want 7 (some 78) rfl rfl rfl (by kernel_rfl) (exec_call2 rfl enterRSame10 rfl rfl rfl) ((rsame_any L M (HKz.out.below hSc) (HVz.out.below hSc) (HK2z.out.below hSc) (HV2z.out.below hSc)).mono ?_)
    rintro e' we ⟨rfl, hbe⟩
    rw [HE.out]
    have hSe := nextB hSc hbe
    refine ⟨_, rfl, hSe, ?_⟩
    simp only [Act.put, List.setIfInBounds_toArray, List.set_cons_zero, List.set_cons_succ]
    refine take_want 8 (some 79) (.bool false) rfl rfl rfl (by kernel_rfl) (by kernel_rfl) (by kernel_rfl) (fun _ _ _ h => h) (fun wx hx => exec_neqB rfl rfl rfl) hSe ?_
    simp only [Act.put, List.setIfInBounds_toArray, List.set_cons_zero, List.set_cons_succ]
    refine wpAnyH_done (by kernel_rfl) ?_ _
    have HSe := hide hSe
    have HBe := hide (nextB HBz.out hSe)
    clear N0 N1 N2 O0 O1 O2 hS hSa hSb hSc hSe hta htb hba hbb hbc hbe
    go_wp2_with fail
    refine (rparse_any (HSz.out.below HSe.out)).mono ?_
    rintro e wp ⟨hbp, ⟨Lx, lx, kx, vx, hnx, rfl, hkx, hvx⟩ | ⟨hnox, Lx, a1, n1, c1, a2, m2, c2, rfl⟩⟩
    · obtain ⟨aKx, nKx, cKx, rfl, -⟩ := hkx.form
      obtain ⟨aVx, nVx, cVx, rfl, -⟩ := hvx.form
      have hbX := bel_alloc wp (.cells #[.int .i64 Lx, .slice aKx nKx cKx, .slice aVx nVx cVx] 24)
      have HBX := hide (nextB HSe.out (nextB hbp hbX))
      have HIX := hide (And.intro (hkx.below hbX) (hvx.below hbX))
      have HXX := hide (BoxN.new 24 wp Lx (.slice aKx nKx cKx) (.slice aVx nVx cVx))
      have HNX := hide hnx
      clear hbp hbX hkx hvx hnx
      go_wp2_with fail
      obtain ⟨bx, hbx⟩ : ∃ b, wp.heap.size = b := ⟨_, rfl⟩
      obtain ⟨wX, hwX⟩ : ∃ x, wp.alloc (.cells #[.int .i64 Lx, .slice aKx nKx cKx, .slice aVx nVx cVx] 24) = x := ⟨_, rfl⟩
      simp only [hwX, hbx] at HBX HIX HXX ⊢
      clear hwX hbx
      refine (Fr.copy_any s _ wX (HSz.out.below HBX.out)).mono ?_
      rintro e wq ⟨uq, rfl, hoq, hbq⟩
      have HOQ := hide hoq.bytes
      have HBQ := hide (nextB HBX.out hbq)
      have HXQ := hide hbq
      obtain ⟨aq, cq, gq, oq, huq, -⟩ := hoq.bytes
      rw [HNS.out] at huq
      subst huq
      clear hoq hbq
      go_wp2_with fail
      refine (nparse_any (HLz.out.below HBQ.out) HOQ.out).mono ?_
      rintro e wn ⟨hbn, ⟨Ly, ly, ky, vy, hny, rfl, hky, hvy⟩ | ⟨hnoy, rfl⟩⟩
      rotate_left
      · exact absurd HNX.out (hnoy _ _)
      obtain ⟨rfl, rfl⟩ := HNX.out.unique hny
      obtain ⟨aKy, nKy, cKy, rfl, -⟩ := hky.form
      obtain ⟨aVy, nVy, cVy, rfl, -⟩ := hvy.form
      have hbY := bel_alloc wn (.cells #[.int .i64 Lx, .slice aKy nKy cKy, .slice aVy nVy cVy] 30)
      have HBY := hide (nextB HBQ.out (nextB hbn hbY))
      have HXY := hide (nextB HXQ.out (nextB hbn hbY))
      have HIY := hide (And.intro (hky.below hbY) (hvy.below hbY))
      obtain ⟨y0, y1, y2⟩ := (BoxN.new 30 wn Lx (.slice aKy nKy cKy) (.slice aVy nVy cVy)).cells
      obtain ⟨x0, x1, x2⟩ := (HXX.out.below HXY.out).cells
      clear hbn hbY hky hvy hny
      go_wp2_with fail
      clear y0 y1 y2 x0 x1 x2
      refine (same_any Lx Lx HIY.out.1 HIY.out.2 (HIX.out.1.below HXY.out) (HIX.out.2.below HXY.out)).mono ?_
      rintro e wr ⟨rfl, hbr⟩
      rw [sameB_self]
      have HFIN := hide (nextB HBz.out (nextB HBY.out hbr))
      clear hbr
      go_wp2_with (go_at_call 4; refine (awake_any _).mono ?_; rintro e wv ⟨rfl, hbv⟩; have HBV := hide (nextB HFIN.out hbv); clear hbv)
      go_ret
      exact ⟨rfl, HBV.out⟩
    · have hbX := bel_alloc wp (.cells #[.int .i64 Lx, .slice a1 n1 c1, .slice a2 m2 c2] 24)
      have HBX := hide (nextB HSe.out (nextB hbp hbX))
      have HNO := hide hnox
      clear hbp hbX hnox
      go_wp2_with fail
      obtain ⟨bx, hbx⟩ : ∃ b, wp.heap.size = b := ⟨_, rfl⟩
      obtain ⟨wX, hwX⟩ : ∃ x, wp.alloc (.cells #[.int .i64 Lx, .slice a1 n1 c1, .slice a2 m2 c2] 24) = x := ⟨_, rfl⟩
      simp only [hwX, hbx] at HBX ⊢
      clear hwX hbx
      refine (Fr.copy_any s _ wX (HSz.out.below HBX.out)).mono ?_
      rintro e wq ⟨uq, rfl, hoq, hbq⟩
      have HOQ := hide hoq.bytes
      have HBQ := hide (nextB HBX.out hbq)
      obtain ⟨aq, cq, gq, oq, huq, -⟩ := hoq.bytes
      rw [HNS.out] at huq
      subst huq
      clear hoq hbq
      go_wp2_with fail
      refine (nparse_any (HLz.out.below HBQ.out) HOQ.out).mono ?_
      rintro e wn ⟨hbn, ⟨Ly, ly, ky, vy, hny, rfl, hky, hvy⟩ | ⟨hnoy, rfl⟩⟩
      · exact absurd hny (HNO.out _ _)
      have hbY := bel_alloc wn (.cells #[.int .i64 0, .slice none 0 0, .slice none 0 0] 30)
      have HFIN := hide (nextB HBz.out (nextB HBQ.out (nextB hbn hbY)))
      obtain ⟨y0, y1, y2⟩ := (BoxN.new 30 wn 0 (.slice none 0 0) (.slice none 0 0)).cells
      clear hbn hbY hnoy
      go_wp2_with (first
        | (go_at_call 11; refine (is_any 70 70 _).mono ?_; rintro e w8 ⟨rfl, rfl⟩)
        | (go_at_call 4; refine (awake_any _).mono ?_; rintro e wv ⟨rfl, hbv⟩; have HBV := hide (nextB HFIN.out hbv); clear hbv))
      go_ret
      exact ⟨rfl, HBV.out⟩
  · have hrt := rtB_false.2 hR
    have HR0 := hide hR
    clear hR
    go_enter Tryd.func3, Tryd.ntmps3
    go_wp2_with (at_builtin; refine wpList_max4_eq rfl _ _ _ _ rfl rfl rfl rfl rfl hmx ?_; clear hmx)
    obtain ⟨wB, hwB⟩ : ∃ x, (w.alloc (.cells #[.int .i64 L, .slice aK n cK, .slice aV nv cV] 24)).alloc (.cells #[.int .i64 M, .slice aK2 n2 cK2, .slice aV2 nv2 cV2] 24) = x := ⟨_, rfl⟩
    simp only [hwB] at HBA HK HV HK2 HV2 HS HX1 HX2 ⊢
    clear hwB
    refine (of_any L (HK.out) (HV.out) (by rw [HN.out]; omega) (by rw [HNV.out]; omega)).mono ?_
    rintro e w1 ⟨kw1, vw1, rfl, htw1, hbw1⟩
    have HWw1 := hide (hbw1)
    have HIw1 := hide htw1.ints
    obtain ⟨aKw1, nKw1, cKw1, rfl, -⟩ := htw1.hk.form
    obtain ⟨aVw1, nVw1, cVw1, rfl, -⟩ := htw1.hv.form
    clear htw1 hbw1
    go_wp2_with fail
    refine (nbytes_bad HIw1.out.1 HIw1.out.2 HR0.out).mono ?_
    rintro e w2 ⟨rfl, hb2⟩
    have HWw2 := hide (nextB HWw1.out hb2)
    clear hb2
    obtain ⟨x0, x1, x2⟩ := (HX1.out.below HWw2.out).cells
    go_wp2_with fail
    clear x0 x1 x2
    refine (right_any L (HK.out.below HWw2.out) (HV.out.below HWw2.out)).mono ?_
    rintro e w3 ⟨rfl, hbw3⟩
    rw [hrt]
    have HWw3 := hide (nextB HWw2.out hbw3)
    clear hbw3
    obtain ⟨x0, x1, x2⟩ := (HX1.out.below HWw3.out).cells
    go_wp2_with fail
    refine (is_any 70 70 _).mono ?_
    rintro e wi ⟨rfl, hwi⟩
    subst wi
    go_wp2_with fail
    clear x0 x1 x2
    refine (of_any L (HK.out.below HWw3.out) (HV.out.below HWw3.out) (by rw [HN.out]; omega) (by rw [HNV.out]; omega)).mono ?_
    rintro e w4 ⟨kw4, vw4, rfl, htw4, hbw4⟩
    have HWw4 := hide (nextB HWw3.out hbw4)
    have HIw4 := hide htw4.ints
    obtain ⟨aKw4, nKw4, cKw4, rfl, -⟩ := htw4.hk.form
    obtain ⟨aVw4, nVw4, cVw4, rfl, -⟩ := htw4.hv.form
    clear htw4 hbw4
    go_wp2_with fail
    refine (check_bad HIw4.out.1 HIw4.out.2 HR0.out).mono ?_
    rintro e w5 ⟨rfl, hb5⟩
    have HWw5 := hide (nextB HWw4.out hb5)
    clear hb5
    go_wp2_with fail
    refine (is_any 70 70 _).mono ?_
    rintro e wj ⟨rfl, hwj⟩
    subst wj
    have HKz := hide (HK.out.below HWw5.out)
    have HVz := hide (HV.out.below HWw5.out)
    have HK2z := hide (HK2.out.below HWw5.out)
    have HV2z := hide (HV2.out.below HWw5.out)
    have HSz := hide (HS.out.below HWw5.out)
    have HLz := hide (HLd.out.below (nextB HBA.out HWw5.out))
    have HCz := hide (And.intro (HX1.out.below HWw5.out).cells (HX2.out.below HWw5.out).cells)
    have HSB := hide (below_drew0 w5)
    have HBz := hide (nextB HBA.out HWw5.out)
    go_wp2_with fail
    obtain ⟨⟨N0, N1, N2⟩, O0, O1, O2⟩ := HCz.out
    refine wp_region_held_drew (S := Below w5.heap.size w5) (by kernel_rfl) HSB.out (fun hS => ?_)
    obtain ⟨wd, hwd⟩ : ∃ x, w5.drew = x := ⟨_, rfl⟩
    rw [hwd] at hS ⊢
    clear hwd HSB
    refine take_want 0 (some 71) (.agg #[.int .i64 L, .slice aK n cK, .slice aV nv cV]) rfl rfl rfl (by kernel_rfl) (by kernel_rfl) (by kernel_rfl) (fun _ _ _ h => h) (fun wx hx => exec_load rfl (load_rnodeQ ⟨cell_bel hx N0, cell_bel hx N1, cell_bel hx N2⟩) rfl) hS ?_
    simp only [Act.put, List.setIfInBounds_toArray, List.set_cons_zero, List.set_cons_succ]
    refine take_want 2 (some 73) (.agg #[.int .i64 M, .slice aK2 n2 cK2, .slice aV2 nv2 cV2]) rfl rfl rfl (by kernel_rfl) (by kernel_rfl) (by kernel_rfl) (fun _ _ _ h => h) (fun wx hx => exec_load rfl (load_rnodeQ ⟨cell_bel hx O0, cell_bel hx O1, cell_bel hx O2⟩) rfl) hS ?_
    simp only [Act.put, List.setIfInBounds_toArray, List.set_cons_zero, List.set_cons_succ]
    refine take_want 5 (some 76) (.agg #[.int .i64 L, .slice aK n cK, .slice aV nv cV]) rfl rfl rfl (by kernel_rfl) (by kernel_rfl) (by kernel_rfl) (fun _ _ _ h => h) (fun wx hx => exec_load rfl (load_rnodeQ ⟨cell_bel hx N0, cell_bel hx N1, cell_bel hx N2⟩) rfl) hS ?_
    simp only [Act.put, List.setIfInBounds_toArray, List.set_cons_zero, List.set_cons_succ]
    refine take_want 6 (some 77) (.agg #[.int .i64 M, .slice aK2 n2 cK2, .slice aV2 nv2 cV2]) rfl rfl rfl (by kernel_rfl) (by kernel_rfl) (by kernel_rfl) (fun _ _ _ h => h) (fun wx hx => exec_load rfl (load_rnodeQ ⟨cell_bel hx O0, cell_bel hx O1, cell_bel hx O2⟩) rfl) hS ?_
    simp only [Act.put, List.setIfInBounds_toArray, List.set_cons_zero, List.set_cons_succ]
    refine call_want 1 (some 72) rfl rfl rfl (by kernel_rfl) (exec_call1 rfl enterOfQ rfl rfl) ((of_any L (HKz.out.below hS) (HVz.out.below hS) (by rw [HN.out]; omega) (by rw [HNV.out]; omega)).mono ?_)
    rintro e' wa ⟨ka, va, rfl, hta, hba⟩
    have hSa := nextB hS hba
    refine ⟨_, rfl, hSa, ?_⟩
    simp only [Act.put, List.setIfInBounds_toArray, List.set_cons_zero, List.set_cons_succ]
    refine call_want 3 (some 74) rfl rfl rfl (by kernel_rfl) (exec_call1 rfl enterOfQ rfl rfl) ((of_any M (HK2z.out.below hSa) (HV2z.out.below hSa) (by rw [HN2.out]; omega) (by rw [HNV2.out]; omega)).mono ?_)
    rintro e' wb ⟨kb, vb, rfl, htb, hbb⟩
    have hSb := nextB hSa hbb
    refine ⟨_, rfl, hSb, ?_⟩
    simp only [Act.put, List.setIfInBounds_toArray, List.set_cons_zero, List.set_cons_succ]
    refine call_want 4 (some 75) rfl rfl rfl (by kernel_rfl) (exec_call2 rfl enterNSame rfl rfl rfl) ((nsame_any L M (hta.ints.1.below hbb) (hta.ints.2.below hbb) htb.ints.1 htb.ints.2).mono ?_)
    rintro e' wc ⟨rfl, hbc⟩
    rw [HE.out]
    have hSc := nextB hSb hbc
    refine ⟨_, rfl, hSc, ?_⟩
    simp only [Act.put, List.setIfInBounds_toArray, List.set_cons_zero, List.set_cons_succ]
    refine call_want 7 (some 78) rfl rfl rfl (by kernel_rfl) (exec_call2 rfl enterRSame10 rfl rfl rfl) ((rsame_any L M (HKz.out.below hSc) (HVz.out.below hSc) (HK2z.out.below hSc) (HV2z.out.below hSc)).mono ?_)
    rintro e' we ⟨rfl, hbe⟩
    rw [HE.out]
    have hSe := nextB hSc hbe
    refine ⟨_, rfl, hSe, ?_⟩
    simp only [Act.put, List.setIfInBounds_toArray, List.set_cons_zero, List.set_cons_succ]
    refine take_want 8 (some 79) (.bool false) rfl rfl rfl (by kernel_rfl) (by kernel_rfl) (by kernel_rfl) (fun _ _ _ h => h) (fun wx hx => exec_neqB rfl rfl rfl) hSe ?_
    simp only [Act.put, List.setIfInBounds_toArray, List.set_cons_zero, List.set_cons_succ]
    refine wpAnyH_done (by kernel_rfl) ?_ _
    have HSe := hide hSe
    have HBe := hide (nextB HBz.out hSe)
    clear N0 N1 N2 O0 O1 O2 hS hSa hSb hSc hSe hta htb hba hbb hbc hbe
    go_wp2_with fail
    refine (rparse_any (HSz.out.below HSe.out)).mono ?_
    rintro e wp ⟨hbp, ⟨Lx, lx, kx, vx, hnx, rfl, hkx, hvx⟩ | ⟨hnox, Lx, a1, n1, c1, a2, m2, c2, rfl⟩⟩
    · obtain ⟨aKx, nKx, cKx, rfl, -⟩ := hkx.form
      obtain ⟨aVx, nVx, cVx, rfl, -⟩ := hvx.form
      have hbX := bel_alloc wp (.cells #[.int .i64 Lx, .slice aKx nKx cKx, .slice aVx nVx cVx] 24)
      have HBX := hide (nextB HSe.out (nextB hbp hbX))
      have HIX := hide (And.intro (hkx.below hbX) (hvx.below hbX))
      have HXX := hide (BoxN.new 24 wp Lx (.slice aKx nKx cKx) (.slice aVx nVx cVx))
      have HNX := hide hnx
      clear hbp hbX hkx hvx hnx
      go_wp2_with fail
      obtain ⟨bx, hbx⟩ : ∃ b, wp.heap.size = b := ⟨_, rfl⟩
      obtain ⟨wX, hwX⟩ : ∃ x, wp.alloc (.cells #[.int .i64 Lx, .slice aKx nKx cKx, .slice aVx nVx cVx] 24) = x := ⟨_, rfl⟩
      simp only [hwX, hbx] at HBX HIX HXX ⊢
      clear hwX hbx
      refine (Fr.copy_any s _ wX (HSz.out.below HBX.out)).mono ?_
      rintro e wq ⟨uq, rfl, hoq, hbq⟩
      have HOQ := hide hoq.bytes
      have HBQ := hide (nextB HBX.out hbq)
      have HXQ := hide hbq
      obtain ⟨aq, cq, gq, oq, huq, -⟩ := hoq.bytes
      rw [HNS.out] at huq
      subst huq
      clear hoq hbq
      go_wp2_with fail
      refine (nparse_any (HLz.out.below HBQ.out) HOQ.out).mono ?_
      rintro e wn ⟨hbn, ⟨Ly, ly, ky, vy, hny, rfl, hky, hvy⟩ | ⟨hnoy, rfl⟩⟩
      rotate_left
      · exact absurd HNX.out (hnoy _ _)
      obtain ⟨rfl, rfl⟩ := HNX.out.unique hny
      obtain ⟨aKy, nKy, cKy, rfl, -⟩ := hky.form
      obtain ⟨aVy, nVy, cVy, rfl, -⟩ := hvy.form
      have hbY := bel_alloc wn (.cells #[.int .i64 Lx, .slice aKy nKy cKy, .slice aVy nVy cVy] 30)
      have HBY := hide (nextB HBQ.out (nextB hbn hbY))
      have HXY := hide (nextB HXQ.out (nextB hbn hbY))
      have HIY := hide (And.intro (hky.below hbY) (hvy.below hbY))
      obtain ⟨y0, y1, y2⟩ := (BoxN.new 30 wn Lx (.slice aKy nKy cKy) (.slice aVy nVy cVy)).cells
      obtain ⟨x0, x1, x2⟩ := (HXX.out.below HXY.out).cells
      clear hbn hbY hky hvy hny
      go_wp2_with fail
      clear y0 y1 y2 x0 x1 x2
      refine (same_any Lx Lx HIY.out.1 HIY.out.2 (HIX.out.1.below HXY.out) (HIX.out.2.below HXY.out)).mono ?_
      rintro e wr ⟨rfl, hbr⟩
      rw [sameB_self]
      have HFIN := hide (nextB HBz.out (nextB HBY.out hbr))
      clear hbr
      go_wp2_with (go_at_call 4; refine (awake_any _).mono ?_; rintro e wv ⟨rfl, hbv⟩; have HBV := hide (nextB HFIN.out hbv); clear hbv)
      go_ret
      exact ⟨rfl, HBV.out⟩
    · have hbX := bel_alloc wp (.cells #[.int .i64 Lx, .slice a1 n1 c1, .slice a2 m2 c2] 24)
      have HBX := hide (nextB HSe.out (nextB hbp hbX))
      have HNO := hide hnox
      clear hbp hbX hnox
      go_wp2_with fail
      obtain ⟨bx, hbx⟩ : ∃ b, wp.heap.size = b := ⟨_, rfl⟩
      obtain ⟨wX, hwX⟩ : ∃ x, wp.alloc (.cells #[.int .i64 Lx, .slice a1 n1 c1, .slice a2 m2 c2] 24) = x := ⟨_, rfl⟩
      simp only [hwX, hbx] at HBX ⊢
      clear hwX hbx
      refine (Fr.copy_any s _ wX (HSz.out.below HBX.out)).mono ?_
      rintro e wq ⟨uq, rfl, hoq, hbq⟩
      have HOQ := hide hoq.bytes
      have HBQ := hide (nextB HBX.out hbq)
      obtain ⟨aq, cq, gq, oq, huq, -⟩ := hoq.bytes
      rw [HNS.out] at huq
      subst huq
      clear hoq hbq
      go_wp2_with fail
      refine (nparse_any (HLz.out.below HBQ.out) HOQ.out).mono ?_
      rintro e wn ⟨hbn, ⟨Ly, ly, ky, vy, hny, rfl, hky, hvy⟩ | ⟨hnoy, rfl⟩⟩
      · exact absurd hny (HNO.out _ _)
      have hbY := bel_alloc wn (.cells #[.int .i64 0, .slice none 0 0, .slice none 0 0] 30)
      have HFIN := hide (nextB HBz.out (nextB HBQ.out (nextB hbn hbY)))
      obtain ⟨y0, y1, y2⟩ := (BoxN.new 30 wn 0 (.slice none 0 0) (.slice none 0 0)).cells
      clear hbn hbY hnoy
      go_wp2_with (first
        | (go_at_call 11; refine (is_any 70 70 _).mono ?_; rintro e w8 ⟨rfl, rfl⟩)
        | (go_at_call 4; refine (awake_any _).mono ?_; rintro e wv ⟨rfl, hbv⟩; have HBV := hide (nextB HFIN.out hbv); clear hbv))
      go_ret
      exact ⟨rfl, HBV.out⟩
end Go.Proofs.YtcidadikmmdalaaDoor
