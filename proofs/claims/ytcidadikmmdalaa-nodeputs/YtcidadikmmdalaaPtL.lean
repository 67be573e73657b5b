/- The law NodePuts. -/
import Derived.Test.YtcidadikmmdalaaRi
import Derived.Test.YtcidadikmmdalaaRp
import Derived.Test.YtcidadikmmdalaaRf
import Derived.Test.YtcidadikmmdalaaWo
import Derived.Test.YtcidadikmmdalaaLs
namespace Go.Proofs.Ytcidadikmmdalaa
open Go.RowKit Go.Extern

theorem enterWithout (args : Array Value) (w : World) : (callFunc 20 args).run Try.prog w = .ok (.enter 20 args) w := by kernel_rfl
section
variable {ρ : Operand → Value} {o : Oper} {w : World}
theorem exec_eqlNil {x : Tmp} {T : TypeId} (ho : o.op = .binOp .eql 30 (.tmp x) (.const .nilIface) T) (hx : ρ (.tmp x) = .nilIface) (hy : ρ (.const .nilIface) = .nilIface) : (execOp ρ o).run Try.prog w = .ok (.value (.bool true)) w := by
  unfold execOp; simp only [ho, hx, hy]; simp [eqGuard]; go_simp
end
theorem cutS_len (L : Int) (l : List En) : (cutS L l).length ≤ 2 := by
  unfold cutS
  split
  · simp
  · split <;> simp

set_option maxRecDepth 100000 in
set_option maxHeartbeats 16000000 in
theorem putsL_any {w : World} {kv vv : Value} {K V : List Int} (L : Int) (hk : Ints w kv K) (hv : Ints w vv V) (k v : Int) :
    Calls Try.prog 3 #[.agg #[.int .i64 L, kv, vv], .int .i64 k, .int .i64 v] w fun e w' => e = .returned (.bool true) ∧ Below w.heap.size w w' := by
  have HBA := hide (bel_alloc w (.cells #[.int .i64 L, kv, vv] 24))
  have HK := hide (hk.below HBA.out)
  have HV := hide (hv.below HBA.out)
  have HX := hide (BoxN.new 24 w L kv vv)
  obtain ⟨aK, n, cK, hkf, hn⟩ := hk.form
  obtain ⟨aV, nv, cV, hvf, hnv⟩ := hv.form
  have HN := hide hn.out.symm
  have HNV := hide hnv.out.symm
  have hll := hk.len
  have hvl := hv.len
  rw [HN.out] at hll
  rw [HNV.out] at hvl
  clear hk hv hn hnv
  subst hkf hvf
  by_cases hR : Rt L K V
  · have hrt := rtB_iff.2 hR
    have HR := hide hR
    have hsm := hR.same
    rw [HN.out, HNV.out] at hsm
    subst hsm
    have hfew := hR.few
    rw [HN.out] at hfew
    have h200 : ¬ 200 < (nv : Int) := by omega
    clear hR
    by_cases hki : k ∈ K
    · cases hfit : fitB k v with
      | true =>
        go_enter Try.func3, Try.ntmps3
        go_wp2_with fail
        refine (of_any L HK.out HV.out (by rw [HN.out]; omega) (by rw [HNV.out]; omega)).mono ?_
        rintro e w3 ⟨kv3, vv3, rfl, ht3, hb3⟩
        obtain ⟨aK3, nK3, cK3, rfl, -⟩ := ht3.hk.form
        obtain ⟨aV3, nV3, cV3, rfl, -⟩ := ht3.hv.form
        have hbX := bel_alloc w3 (.cells #[.int .i64 L, .slice aK3 nK3 cK3, .slice aV3 nV3 cV3] 26)
        have HBX := hide (nextB hb3 hbX)
        have HIX := hide (And.intro (ht3.ints.1.below hbX) (ht3.ints.2.below hbX))
        have HXX := hide (BoxN.new 26 w3 L (.slice aK3 nK3 cK3) (.slice aV3 nV3 cV3))
        clear ht3 hb3 hbX
        go_wp2_with fail
        obtain ⟨b7, hb7⟩ : ∃ b, w3.heap.size = b := ⟨_, rfl⟩
        obtain ⟨wX, hwX⟩ : ∃ x, w3.alloc (.cells #[.int .i64 L, .slice aK3 nK3 cK3, .slice aV3 nV3 cV3] 26) = x := ⟨_, rfl⟩
        simp only [hwX, hb7] at HBX HIX HXX ⊢
        clear hwX hb7
        refine (put_ok HIX.out.1 HIX.out.2 HR.out hfit).mono ?_
        rintro e w4 ⟨v4, rfl, hn4, hb4⟩
        have HN4 := hide hn4
        have HB4 := hide hb4
        obtain ⟨aN, cN, gN, nN, rfl, hnN, -⟩ := hn4
        rw [errV_zero]
        obtain ⟨y0, y1, y2⟩ := (HXX.out.below HB4.out).cells
        clear hb4 hnN
        go_wp2_with fail
        clear y0 y1 y2
        refine (drop_ok (HIX.out.1.below HB4.out) (HIX.out.2.below HB4.out) HR.out hki).mono ?_
        rintro e w5 ⟨kD, vD, rfl, htD, hbD⟩
        rw [errV_zero]
        obtain ⟨aD, nD, cD, rfl, hnD⟩ := htD.hk.form
        obtain ⟨aE, nE, cE, rfl, -⟩ := htD.hv.form
        have hbY := bel_alloc w5 (.cells #[.int .i64 L, .slice aD nD cD, .slice aE nE cE] 26)
        have HBY := hide (nextB HB4.out (nextB hbD hbY))
        have HB4Y := hide (nextB hbD hbY)
        have HID0 := hide (And.intro (htD.ints.1.below hbY) (htD.ints.2.below hbY))
        have HXD := hide (BoxN.new 26 w5 L (.slice aD nD cD) (.slice aE nE cE))
        obtain ⟨y0, y1, y2⟩ := (HXX.out.below HBY.out).cells
        obtain ⟨x0, x1, x2⟩ := (HX.out.below (nextB HBX.out HBY.out)).cells
        clear htD hbD hbY hnD
        go_wp2_with fail
        obtain ⟨bd, hbd⟩ : ∃ b, w5.heap.size = b := ⟨_, rfl⟩
        obtain ⟨wY, hwY⟩ : ∃ x, w5.alloc (.cells #[.int .i64 L, .slice aD nD cD, .slice aE nE cE] 26) = x := ⟨_, rfl⟩
        simp only [hwY, hbd] at HBY HB4Y HID0 HXD y0 y1 y2 x0 x1 x2 ⊢
        clear hwY hbd
        refine (same_any L L (HIX.out.1.below HBY.out) (HIX.out.2.below HBY.out) (HK.out.below (nextB HBX.out HBY.out)) (HV.out.below (nextB HBX.out HBY.out))).mono ?_
        rintro e w6 ⟨rfl, hb6⟩
        rw [sameB_self]
        have HB6 := hide hb6
        clear hb6 y0 y1 y2 x0 x1 x2
        have HXW := hide (nextB HBX.out (nextB HBY.out HB6.out))
        obtain ⟨x0, x1, x2⟩ := (HX.out.below HXW.out).cells
        go_wp2_with fail
        clear x0 x1 x2
        refine (right_any L (HK.out.below HXW.out) (HV.out.below HXW.out)).mono ?_
        rintro e w7 ⟨rfl, hb7⟩
        rw [hrt]
        have HB7 := hide (nextB HB6.out hb7)
        have HXW7 := hide (nextB HXW.out hb7)
        clear hb7
        obtain ⟨y0, y1, y2⟩ := (HXX.out.below (nextB HBY.out HB7.out)).cells
        go_wp2_with fail
        clear y0 y1 y2
        refine (find_any L (HIX.out.1.below (nextB HBY.out HB7.out)) HR.out.up (by have := HR.out.few; omega) k ⟨_, _, _, rfl⟩).mono ?_
        rintro e w8 ⟨⟨at_, ex, rfl, hfd⟩, hb8⟩
        have HFD := hide hfd
        have HB8 := hide (nextB HB7.out hb8)
        have HXW8 := hide (nextB HXW7.out hb8)
        obtain ⟨x0, x1, x2⟩ := (HX.out.below HXW8.out).cells
        clear hfd hb8
        go_wp2_with fail
        clear x0 x1 x2
        refine (rfind_any L (HK.out.below HXW8.out) ⟨_, _, _, rfl⟩ HR.out.up (by have := HR.out.few; omega) k).mono ?_
        rintro e w9 ⟨⟨at2, ex2, rfl, hfd2⟩, hb9⟩
        obtain ⟨e1, e2⟩ := found_unique HFD.out hfd2
        subst e1 e2
        have HB9 := hide (nextB HB8.out hb9)
        have HXW9 := hide (nextB HXW8.out hb9)
        clear hfd2 hb9
        obtain ⟨m, hsp, ⟨rfl, hkm, rfl⟩ | ⟨rfl, hkm, rfl⟩⟩ := HFD.out
        rotate_left
        · exact absurd hki hkm
        have HMN : Hid (m < K.length) := hide (List.getElem?_eq_some_iff.1 hkm).1
        have HSD : Hid (sameB L ((dropS (K.zip V) k).map Prod.fst) ((dropS (K.zip V) k).map Prod.snd) L (K.take m ++ [] ++ K.drop (m + 1)) (V.take m ++ [] ++ V.drop (m + 1)) = true) := hide (by
          have hz1 := zip_fst HR.out.same
          have hz2 := zip_snd HR.out.same
          have hu : Up ((K.zip V).map Prod.fst) := by rw [hz1]; exact HR.out.up
          have h3 := dropS_del hu (by rw [hz1]; exact hsp) (by rw [hz1]; exact hkm)
          refine sameB_iff.2 ⟨rfl, ?_, ?_⟩
          · rw [← h3, List.map_append, List.map_take, List.map_drop, hz1, List.append_nil]
          · rw [← h3, List.map_append, List.map_take, List.map_drop, hz2, List.append_nil])
        clear hsp hkm
        go_wp2_with fail
        refine (fits_any k v _).mono ?_
        rintro e w10 ⟨rfl, rfl⟩
        rw [hfit]
        obtain ⟨x0, x1, x2⟩ := (HX.out.below HXW9.out).cells
        go_wp2_with fail
        clear x0 x1 x2
        refine (rput_any (HK.out.below HXW9.out) (HV.out.below HXW9.out) HR.out (fitB_iff.1 hfit)).mono ?_
        rintro e w11 ⟨v11, rfl, hn11, hb11⟩
        have HN11 := hide hn11
        have HB11 := hide (nextB HB9.out hb11)
        have HXW11 := hide (nextB HXW9.out hb11)
        obtain ⟨aN2, cN2, gN2, nN2, rfl, -⟩ := hn11
        clear hb11
        go_wp2_with fail
        refine (list_any (HN4.out.below (nextB HB4Y.out HB11.out)) HN11.out (by have := cutS_len L (putS (K.zip V) k v); omega)).mono ?_
        rintro e w12 ⟨rfl, hb12⟩
        have HB12 := hide (nextB HB11.out hb12)
        have HXW12 := hide (nextB HXW11.out hb12)
        clear hb12
        have HSB := hide (below_drew0 w12)
        have HKZ := hide (HK.out.below HXW12.out)
        have HVZ := hide (HV.out.below HXW12.out)
        have HID := hide (And.intro (HID0.out.1.below HB12.out) (HID0.out.2.below HB12.out))
        have HDC := hide (And.intro (HXD.out.below HB12.out).cells (HX.out.below HXW12.out).cells)
        have HFIN := hide (nextB HBA.out HXW12.out)
        go_wp2_with fail
        obtain ⟨⟨D0, D1, D2⟩, X0, X1, X2⟩ := HDC.out
        refine wp_region_held_drew (S := Below w12.heap.size w12) (by kernel_rfl) HSB.out (fun hS => ?_)
        refine take_want 0 (some 123) .nilIface rfl rfl rfl (by kernel_rfl) (by kernel_rfl) (by kernel_rfl) (fun _ _ _ h => h) (fun wx hx => exec_move rfl rfl) hS ?_
        simp only [Act.put, List.setIfInBounds_toArray, List.set_cons_zero, List.set_cons_succ]
        refine take_want 1 (some 124) (.bool true) rfl rfl rfl (by kernel_rfl) (by kernel_rfl) (by kernel_rfl) (fun _ _ _ h => h) (fun wx hx => exec_eqlNil rfl rfl rfl) hS ?_
        simp only [Act.put, List.setIfInBounds_toArray, List.set_cons_zero, List.set_cons_succ]
        refine take_want 2 (some 125) (.bool true) rfl rfl rfl (by kernel_rfl) (by kernel_rfl) (by kernel_rfl) (fun _ _ _ h => h) (fun wx hx => exec_move rfl rfl) hS ?_
        simp only [Act.put, List.setIfInBounds_toArray, List.set_cons_zero, List.set_cons_succ]
        refine take_want 3 (some 126) (.agg #[.int .i64 L, .slice aD nD cD, .slice aE nE cE]) rfl rfl rfl (by kernel_rfl) (by kernel_rfl) (by kernel_rfl) (fun _ _ _ h => h) (fun wx hx => exec_load rfl (load_nodeP ⟨cell_bel hx D0, cell_bel hx D1, cell_bel hx D2⟩) rfl) hS ?_
        simp only [Act.put, List.setIfInBounds_toArray, List.set_cons_zero, List.set_cons_succ]
        refine take_want 4 (some 127) (.agg #[.int .i64 L, .slice aK nv cK, .slice aV nv cV]) rfl rfl rfl (by kernel_rfl) (by kernel_rfl) (by kernel_rfl) (fun _ _ _ h => h) (fun wx hx => exec_load rfl (load_rnodeP ⟨cell_bel hx X0, cell_bel hx X1, cell_bel hx X2⟩) rfl) hS ?_
        simp only [Act.put, List.setIfInBounds_toArray, List.set_cons_zero, List.set_cons_succ]
        refine take_want 5 (some 128) (.int .i64 (m : Int)) rfl rfl rfl (by kernel_rfl) (by kernel_rfl) (by kernel_rfl) (fun _ _ _ h => h) (fun wx hx => exec_move rfl rfl) hS ?_
        simp only [Act.put, List.setIfInBounds_toArray, List.set_cons_zero, List.set_cons_succ]
        refine call_want 6 (some 129) rfl rfl rfl (by kernel_rfl) (exec_call4 rfl enterWithout rfl rfl rfl rfl rfl) ((without_any L (HKZ.out.below hS) (HVZ.out.below hS) HR.out.same (by have := HR.out.few; omega) (i := m) HMN.out (Ints.nil _) (Ints.nil _) (by simp) (by simp)).mono ?_)
        rintro e' wa ⟨ka, va, rfl, hta, hba⟩
        have hSa := nextB hS hba
        refine ⟨_, rfl, hSa, ?_⟩
        simp only [Act.put, List.setIfInBounds_toArray, List.set_cons_zero, List.set_cons_succ]
        refine call_want 7 (some 130) rfl rfl rfl (by kernel_rfl) (exec_call2 rfl enterSame rfl rfl rfl) ((same_any L L (HID.out.1.below hSa) (HID.out.2.below hSa) hta.ints.1 hta.ints.2).mono ?_)
        rintro e' wb ⟨rfl, hbb⟩
        rw [HSD.out]
        have hSb := nextB hSa hbb
        refine ⟨_, rfl, hSb, ?_⟩
        simp only [Act.put, List.setIfInBounds_toArray, List.set_cons_zero, List.set_cons_succ]
        refine take_want 8 (some 131) (.bool true) rfl rfl rfl (by kernel_rfl) (by kernel_rfl) (by kernel_rfl) (fun _ _ _ h => h) (fun wx hx => exec_pickT rfl rfl rfl) hSb ?_
        simp only [Act.put, List.setIfInBounds_toArray, List.set_cons_zero, List.set_cons_succ]
        refine take_want 9 (some 132) (.bool true) rfl rfl rfl (by kernel_rfl) (by kernel_rfl) (by kernel_rfl) (fun _ _ _ h => h) (fun wx hx => exec_move rfl rfl) hSb ?_
        simp only [Act.put, List.setIfInBounds_toArray, List.set_cons_zero, List.set_cons_succ]
        refine call_want 10 (some 133) rfl rfl rfl (by kernel_rfl) (exec_call0 rfl enterAwake rfl) ((awake_any _).mono ?_)
        rintro e' wc ⟨rfl, hbc⟩
        have hSc := nextB hSb hbc
        refine ⟨_, rfl, hSc, ?_⟩
        simp only [Act.put, List.setIfInBounds_toArray, List.set_cons_zero, List.set_cons_succ]
        refine take_want 11 (some 134) (.bool true) rfl rfl rfl (by kernel_rfl) (by kernel_rfl) (by kernel_rfl) (fun _ _ _ h => h) (fun wx hx => exec_pickT rfl rfl rfl) hSc ?_
        simp only [Act.put, List.setIfInBounds_toArray, List.set_cons_zero, List.set_cons_succ]
        refine take_want 12 (some 6) (.bool true) rfl rfl rfl (by kernel_rfl) (by kernel_rfl) (by kernel_rfl) (fun _ _ _ h => h) (fun wx hx => exec_assign rfl rfl) hSc ?_
        simp only [Act.put, List.setIfInBounds_toArray, List.set_cons_zero, List.set_cons_succ]
        refine wpAnyH_done (by kernel_rfl) ?_ _
        clear D0 D1 D2 X0 X1 X2
        go_wp2_with fail
        go_ret
        exact ⟨rfl, nextB HFIN.out hSc⟩
      | false =>
        go_enter Try.func3, Try.ntmps3
        go_wp2_with fail
        refine (of_any L HK.out HV.out (by rw [HN.out]; omega) (by rw [HNV.out]; omega)).mono ?_
        rintro e w3 ⟨kv3, vv3, rfl, ht3, hb3⟩
        obtain ⟨aK3, nK3, cK3, rfl, -⟩ := ht3.hk.form
        obtain ⟨aV3, nV3, cV3, rfl, -⟩ := ht3.hv.form
        have hbX := bel_alloc w3 (.cells #[.int .i64 L, .slice aK3 nK3 cK3, .slice aV3 nV3 cV3] 26)
        have HBX := hide (nextB hb3 hbX)
        have HIX := hide (And.intro (ht3.ints.1.below hbX) (ht3.ints.2.below hbX))
        have HXX := hide (BoxN.new 26 w3 L (.slice aK3 nK3 cK3) (.slice aV3 nV3 cV3))
        clear ht3 hb3 hbX
        go_wp2_with fail
        obtain ⟨b7, hb7⟩ : ∃ b, w3.heap.size = b := ⟨_, rfl⟩
        obtain ⟨wX, hwX⟩ : ∃ x, w3.alloc (.cells #[.int .i64 L, .slice aK3 nK3 cK3, .slice aV3 nV3 cV3] 26) = x := ⟨_, rfl⟩
        simp only [hwX, hb7] at HBX HIX HXX ⊢
        clear hwX hb7
        refine (put_key HIX.out.1 HIX.out.2 HR.out hfit).mono ?_
        rintro e w4 ⟨v4, rfl, hn4, hb4⟩
        have HN4 := hide hn4
        have HB4 := hide hb4
        obtain ⟨aN, cN, gN, nN, rfl, hnN, -⟩ := hn4
        obtain rfl : nN = 0 := hnN.out
        obtain ⟨y0, y1, y2⟩ := (HXX.out.below HB4.out).cells
        clear hb4 hnN
        go_wp2_with fail
        clear y0 y1 y2
        refine (drop_ok (HIX.out.1.below HB4.out) (HIX.out.2.below HB4.out) HR.out hki).mono ?_
        rintro e w5 ⟨kD, vD, rfl, htD, hbD⟩
        rw [errV_zero]
        obtain ⟨aD, nD, cD, rfl, hnD⟩ := htD.hk.form
        obtain ⟨aE, nE, cE, rfl, -⟩ := htD.hv.form
        have hbY := bel_alloc w5 (.cells #[.int .i64 L, .slice aD nD cD, .slice aE nE cE] 26)
        have HBY := hide (nextB HB4.out (nextB hbD hbY))
        have HB4Y := hide (nextB hbD hbY)
        have HID0 := hide (And.intro (htD.ints.1.below hbY) (htD.ints.2.below hbY))
        have HXD := hide (BoxN.new 26 w5 L (.slice aD nD cD) (.slice aE nE cE))
        obtain ⟨y0, y1, y2⟩ := (HXX.out.below HBY.out).cells
        obtain ⟨x0, x1, x2⟩ := (HX.out.below (nextB HBX.out HBY.out)).cells
        clear htD hbD hbY hnD
        go_wp2_with fail
        obtain ⟨bd, hbd⟩ : ∃ b, w5.heap.size = b := ⟨_, rfl⟩
        obtain ⟨wY, hwY⟩ : ∃ x, w5.alloc (.cells #[.int .i64 L, .slice aD nD cD, .slice aE nE cE] 26) = x := ⟨_, rfl⟩
        simp only [hwY, hbd] at HBY HB4Y HID0 HXD y0 y1 y2 x0 x1 x2 ⊢
        clear hwY hbd
        refine (same_any L L (HIX.out.1.below HBY.out) (HIX.out.2.below HBY.out) (HK.out.below (nextB HBX.out HBY.out)) (HV.out.below (nextB HBX.out HBY.out))).mono ?_
        rintro e w6 ⟨rfl, hb6⟩
        rw [sameB_self]
        have HB6 := hide hb6
        clear hb6 y0 y1 y2 x0 x1 x2
        have HXW := hide (nextB HBX.out (nextB HBY.out HB6.out))
        obtain ⟨x0, x1, x2⟩ := (HX.out.below HXW.out).cells
        go_wp2_with fail
        clear x0 x1 x2
        refine (right_any L (HK.out.below HXW.out) (HV.out.below HXW.out)).mono ?_
        rintro e w7 ⟨rfl, hb7⟩
        rw [hrt]
        have HB7 := hide (nextB HB6.out hb7)
        have HXW7 := hide (nextB HXW.out hb7)
        clear hb7
        obtain ⟨y0, y1, y2⟩ := (HXX.out.below (nextB HBY.out HB7.out)).cells
        go_wp2_with fail
        clear y0 y1 y2
        refine (find_any L (HIX.out.1.below (nextB HBY.out HB7.out)) HR.out.up (by have := HR.out.few; omega) k ⟨_, _, _, rfl⟩).mono ?_
        rintro e w8 ⟨⟨at_, ex, rfl, hfd⟩, hb8⟩
        have HFD := hide hfd
        have HB8 := hide (nextB HB7.out hb8)
        have HXW8 := hide (nextB HXW7.out hb8)
        obtain ⟨x0, x1, x2⟩ := (HX.out.below HXW8.out).cells
        clear hfd hb8
        go_wp2_with fail
        clear x0 x1 x2
        refine (rfind_any L (HK.out.below HXW8.out) ⟨_, _, _, rfl⟩ HR.out.up (by have := HR.out.few; omega) k).mono ?_
        rintro e w9 ⟨⟨at2, ex2, rfl, hfd2⟩, hb9⟩
        obtain ⟨e1, e2⟩ := found_unique HFD.out hfd2
        subst e1 e2
        have HB9 := hide (nextB HB8.out hb9)
        have HXW9 := hide (nextB HXW8.out hb9)
        clear hfd2 hb9
        obtain ⟨m, hsp, ⟨rfl, hkm, rfl⟩ | ⟨rfl, hkm, rfl⟩⟩ := HFD.out
        rotate_left
        · exact absurd hki hkm
        have HMN : Hid (m < K.length) := hide (List.getElem?_eq_some_iff.1 hkm).1
        have HSD : Hid (sameB L ((dropS (K.zip V) k).map Prod.fst) ((dropS (K.zip V) k).map Prod.snd) L (K.take m ++ [] ++ K.drop (m + 1)) (V.take m ++ [] ++ V.drop (m + 1)) = true) := hide (by
          have hz1 := zip_fst HR.out.same
          have hz2 := zip_snd HR.out.same
          have hu : Up ((K.zip V).map Prod.fst) := by rw [hz1]; exact HR.out.up
          have h3 := dropS_del hu (by rw [hz1]; exact hsp) (by rw [hz1]; exact hkm)
          refine sameB_iff.2 ⟨rfl, ?_, ?_⟩
          · rw [← h3, List.map_append, List.map_take, List.map_drop, hz1, List.append_nil]
          · rw [← h3, List.map_append, List.map_take, List.map_drop, hz2, List.append_nil])
        clear hsp hkm
        go_wp2_with fail
        refine (fits_any k v _).mono ?_
        rintro e w10 ⟨rfl, rfl⟩
        rw [hfit]
        go_wp2_with fail
        refine (is_any 80 80 _).mono ?_
        rintro e w11 ⟨rfl, rfl⟩
        have HB12 := HB9
        have HXW12 := HXW9
        have HSB := hide (below_drew0 w11)
        have HKZ := hide (HK.out.below HXW12.out)
        have HVZ := hide (HV.out.below HXW12.out)
        have HID := hide (And.intro (HID0.out.1.below HB12.out) (HID0.out.2.below HB12.out))
        have HDC := hide (And.intro (HXD.out.below HB12.out).cells (HX.out.below HXW12.out).cells)
        have HFIN := hide (nextB HBA.out HXW12.out)
        go_wp2_with fail
        obtain ⟨⟨D0, D1, D2⟩, X0, X1, X2⟩ := HDC.out
        refine wp_region_held_drew (S := Below w11.heap.size w11) (by kernel_rfl) HSB.out (fun hS => ?_)
        refine take_want 0 (some 123) .nilIface rfl rfl rfl (by kernel_rfl) (by kernel_rfl) (by kernel_rfl) (fun _ _ _ h => h) (fun wx hx => exec_move rfl rfl) hS ?_
        simp only [Act.put, List.setIfInBounds_toArray, List.set_cons_zero, List.set_cons_succ]
        refine take_want 1 (some 124) (.bool true) rfl rfl rfl (by kernel_rfl) (by kernel_rfl) (by kernel_rfl) (fun _ _ _ h => h) (fun wx hx => exec_eqlNil rfl rfl rfl) hS ?_
        simp only [Act.put, List.setIfInBounds_toArray, List.set_cons_zero, List.set_cons_succ]
        refine take_want 2 (some 125) (.bool true) rfl rfl rfl (by kernel_rfl) (by kernel_rfl) (by kernel_rfl) (fun _ _ _ h => h) (fun wx hx => exec_move rfl rfl) hS ?_
        simp only [Act.put, List.setIfInBounds_toArray, List.set_cons_zero, List.set_cons_succ]
        refine take_want 3 (some 126) (.agg #[.int .i64 L, .slice aD nD cD, .slice aE nE cE]) rfl rfl rfl (by kernel_rfl) (by kernel_rfl) (by kernel_rfl) (fun _ _ _ h => h) (fun wx hx => exec_load rfl (load_nodeP ⟨cell_bel hx D0, cell_bel hx D1, cell_bel hx D2⟩) rfl) hS ?_
        simp only [Act.put, List.setIfInBounds_toArray, List.set_cons_zero, List.set_cons_succ]
        refine take_want 4 (some 127) (.agg #[.int .i64 L, .slice aK nv cK, .slice aV nv cV]) rfl rfl rfl (by kernel_rfl) (by kernel_rfl) (by kernel_rfl) (fun _ _ _ h => h) (fun wx hx => exec_load rfl (load_rnodeP ⟨cell_bel hx X0, cell_bel hx X1, cell_bel hx X2⟩) rfl) hS ?_
        simp only [Act.put, List.setIfInBounds_toArray, List.set_cons_zero, List.set_cons_succ]
        refine take_want 5 (some 128) (.int .i64 (m : Int)) rfl rfl rfl (by kernel_rfl) (by kernel_rfl) (by kernel_rfl) (fun _ _ _ h => h) (fun wx hx => exec_move rfl rfl) hS ?_
        simp only [Act.put, List.setIfInBounds_toArray, List.set_cons_zero, List.set_cons_succ]
        refine call_want 6 (some 129) rfl rfl rfl (by kernel_rfl) (exec_call4 rfl enterWithout rfl rfl rfl rfl rfl) ((without_any L (HKZ.out.below hS) (HVZ.out.below hS) HR.out.same (by have := HR.out.few; omega) (i := m) HMN.out (Ints.nil _) (Ints.nil _) (by simp) (by simp)).mono ?_)
        rintro e' wa ⟨ka, va, rfl, hta, hba⟩
        have hSa := nextB hS hba
        refine ⟨_, rfl, hSa, ?_⟩
        simp only [Act.put, List.setIfInBounds_toArray, List.set_cons_zero, List.set_cons_succ]
        refine call_want 7 (some 130) rfl rfl rfl (by kernel_rfl) (exec_call2 rfl enterSame rfl rfl rfl) ((same_any L L (HID.out.1.below hSa) (HID.out.2.below hSa) hta.ints.1 hta.ints.2).mono ?_)
        rintro e' wb ⟨rfl, hbb⟩
        rw [HSD.out]
        have hSb := nextB hSa hbb
        refine ⟨_, rfl, hSb, ?_⟩
        simp only [Act.put, List.setIfInBounds_toArray, List.set_cons_zero, List.set_cons_succ]
        refine take_want 8 (some 131) (.bool true) rfl rfl rfl (by kernel_rfl) (by kernel_rfl) (by kernel_rfl) (fun _ _ _ h => h) (fun wx hx => exec_pickT rfl rfl rfl) hSb ?_
        simp only [Act.put, List.setIfInBounds_toArray, List.set_cons_zero, List.set_cons_succ]
        refine take_want 9 (some 132) (.bool true) rfl rfl rfl (by kernel_rfl) (by kernel_rfl) (by kernel_rfl) (fun _ _ _ h => h) (fun wx hx => exec_move rfl rfl) hSb ?_
        simp only [Act.put, List.setIfInBounds_toArray, List.set_cons_zero, List.set_cons_succ]
        refine call_want 10 (some 133) rfl rfl rfl (by kernel_rfl) (exec_call0 rfl enterAwake rfl) ((awake_any _).mono ?_)
        rintro e' wc ⟨rfl, hbc⟩
        have hSc := nextB hSb hbc
        refine ⟨_, rfl, hSc, ?_⟩
        simp only [Act.put, List.setIfInBounds_toArray, List.set_cons_zero, List.set_cons_succ]
        refine take_want 11 (some 134) (.bool true) rfl rfl rfl (by kernel_rfl) (by kernel_rfl) (by kernel_rfl) (fun _ _ _ h => h) (fun wx hx => exec_pickT rfl rfl rfl) hSc ?_
        simp only [Act.put, List.setIfInBounds_toArray, List.set_cons_zero, List.set_cons_succ]
        refine take_want 12 (some 6) (.bool true) rfl rfl rfl (by kernel_rfl) (by kernel_rfl) (by kernel_rfl) (fun _ _ _ h => h) (fun wx hx => exec_assign rfl rfl) hSc ?_
        simp only [Act.put, List.setIfInBounds_toArray, List.set_cons_zero, List.set_cons_succ]
        refine wpAnyH_done (by kernel_rfl) ?_ _
        clear D0 D1 D2 X0 X1 X2
        go_wp2_with fail
        go_ret
        exact ⟨rfl, nextB HFIN.out hSc⟩
    · cases hfit : fitB k v with
      | true =>
        go_enter Try.func3, Try.ntmps3
        go_wp2_with fail
        refine (of_any L HK.out HV.out (by rw [HN.out]; omega) (by rw [HNV.out]; omega)).mono ?_
        rintro e w3 ⟨kv3, vv3, rfl, ht3, hb3⟩
        obtain ⟨aK3, nK3, cK3, rfl, -⟩ := ht3.hk.form
        obtain ⟨aV3, nV3, cV3, rfl, -⟩ := ht3.hv.form
        have hbX := bel_alloc w3 (.cells #[.int .i64 L, .slice aK3 nK3 cK3, .slice aV3 nV3 cV3] 26)
        have HBX := hide (nextB hb3 hbX)
        have HIX := hide (And.intro (ht3.ints.1.below hbX) (ht3.ints.2.below hbX))
        have HXX := hide (BoxN.new 26 w3 L (.slice aK3 nK3 cK3) (.slice aV3 nV3 cV3))
        clear ht3 hb3 hbX
        go_wp2_with fail
        obtain ⟨b7, hb7⟩ : ∃ b, w3.heap.size = b := ⟨_, rfl⟩
        obtain ⟨wX, hwX⟩ : ∃ x, w3.alloc (.cells #[.int .i64 L, .slice aK3 nK3 cK3, .slice aV3 nV3 cV3] 26) = x := ⟨_, rfl⟩
        simp only [hwX, hb7] at HBX HIX HXX ⊢
        clear hwX hb7
        refine (put_ok HIX.out.1 HIX.out.2 HR.out hfit).mono ?_
        rintro e w4 ⟨v4, rfl, hn4, hb4⟩
        have HN4 := hide hn4
        have HB4 := hide hb4
        obtain ⟨aN, cN, gN, nN, rfl, hnN, -⟩ := hn4
        rw [errV_zero]
        obtain ⟨y0, y1, y2⟩ := (HXX.out.below HB4.out).cells
        clear hb4 hnN
        go_wp2_with fail
        clear y0 y1 y2
        refine (drop_miss (HIX.out.1.below HB4.out) (HIX.out.2.below HB4.out) HR.out hki).mono ?_
        rintro e w5 ⟨kD, vD, rfl, htD, hbD⟩
        obtain ⟨aD, nD, cD, rfl, hnD⟩ := htD.hk.form
        obtain ⟨aE, nE, cE, rfl, -⟩ := htD.hv.form
        have hbY := bel_alloc w5 (.cells #[.int .i64 0, .slice aD nD cD, .slice aE nE cE] 26)
        have HBY := hide (nextB HB4.out (nextB hbD hbY))
        have HB4Y := hide (nextB hbD hbY)
        have HID0 := hide (And.intro (htD.ints.1.below hbY) (htD.ints.2.below hbY))
        have HXD := hide (BoxN.new 26 w5 0 (.slice aD nD cD) (.slice aE nE cE))
        obtain rfl : nD = 0 := hnD.out
        obtain ⟨y0, y1, y2⟩ := (HXX.out.below HBY.out).cells
        obtain ⟨x0, x1, x2⟩ := (HX.out.below (nextB HBX.out HBY.out)).cells
        clear htD hbD hbY hnD
        go_wp2_with fail
        obtain ⟨bd, hbd⟩ : ∃ b, w5.heap.size = b := ⟨_, rfl⟩
        obtain ⟨wY, hwY⟩ : ∃ x, w5.alloc (.cells #[.int .i64 0, .slice aD 0 cD, .slice aE nE cE] 26) = x := ⟨_, rfl⟩
        simp only [hwY, hbd] at HBY HB4Y HID0 HXD y0 y1 y2 x0 x1 x2 ⊢
        clear hwY hbd
        refine (same_any L L (HIX.out.1.below HBY.out) (HIX.out.2.below HBY.out) (HK.out.below (nextB HBX.out HBY.out)) (HV.out.below (nextB HBX.out HBY.out))).mono ?_
        rintro e w6 ⟨rfl, hb6⟩
        rw [sameB_self]
        have HB6 := hide hb6
        clear hb6 y0 y1 y2 x0 x1 x2
        have HXW := hide (nextB HBX.out (nextB HBY.out HB6.out))
        obtain ⟨x0, x1, x2⟩ := (HX.out.below HXW.out).cells
        go_wp2_with fail
        clear x0 x1 x2
        refine (right_any L (HK.out.below HXW.out) (HV.out.below HXW.out)).mono ?_
        rintro e w7 ⟨rfl, hb7⟩
        rw [hrt]
        have HB7 := hide (nextB HB6.out hb7)
        have HXW7 := hide (nextB HXW.out hb7)
        clear hb7
        obtain ⟨y0, y1, y2⟩ := (HXX.out.below (nextB HBY.out HB7.out)).cells
        go_wp2_with fail
        clear y0 y1 y2
        refine (find_any L (HIX.out.1.below (nextB HBY.out HB7.out)) HR.out.up (by have := HR.out.few; omega) k ⟨_, _, _, rfl⟩).mono ?_
        rintro e w8 ⟨⟨at_, ex, rfl, hfd⟩, hb8⟩
        have HFD := hide hfd
        have HB8 := hide (nextB HB7.out hb8)
        have HXW8 := hide (nextB HXW7.out hb8)
        obtain ⟨x0, x1, x2⟩ := (HX.out.below HXW8.out).cells
        clear hfd hb8
        go_wp2_with fail
        clear x0 x1 x2
        refine (rfind_any L (HK.out.below HXW8.out) ⟨_, _, _, rfl⟩ HR.out.up (by have := HR.out.few; omega) k).mono ?_
        rintro e w9 ⟨⟨at2, ex2, rfl, hfd2⟩, hb9⟩
        obtain ⟨e1, e2⟩ := found_unique HFD.out hfd2
        subst e1 e2
        have HB9 := hide (nextB HB8.out hb9)
        have HXW9 := hide (nextB HXW8.out hb9)
        clear hfd2 hb9
        obtain ⟨m, hsp, ⟨rfl, hkm, rfl⟩ | ⟨rfl, hkm, rfl⟩⟩ := HFD.out
        · exact absurd (List.mem_of_getElem? hkm) hki
        clear hsp hkm
        go_wp2_with fail
        refine (fits_any k v _).mono ?_
        rintro e w10 ⟨rfl, rfl⟩
        rw [hfit]
        obtain ⟨x0, x1, x2⟩ := (HX.out.below HXW9.out).cells
        go_wp2_with fail
        clear x0 x1 x2
        refine (rput_any (HK.out.below HXW9.out) (HV.out.below HXW9.out) HR.out (fitB_iff.1 hfit)).mono ?_
        rintro e w11 ⟨v11, rfl, hn11, hb11⟩
        have HN11 := hide hn11
        have HB11 := hide (nextB HB9.out hb11)
        have HXW11 := hide (nextB HXW9.out hb11)
        obtain ⟨aN2, cN2, gN2, nN2, rfl, -⟩ := hn11
        clear hb11
        go_wp2_with fail
        refine (list_any (HN4.out.below (nextB HB4Y.out HB11.out)) HN11.out (by have := cutS_len L (putS (K.zip V) k v); omega)).mono ?_
        rintro e w12 ⟨rfl, hb12⟩
        have HB12 := hide (nextB HB11.out hb12)
        have HXW12 := hide (nextB HXW11.out hb12)
        clear hb12
        obtain ⟨z0, z1, z2⟩ := (HXD.out.below HB12.out).cells
        have HFIN := hide (nextB HBA.out HXW12.out)
        go_wp2_with (first
          | (go_at_call 14; refine (is_any 81 81 _).mono ?_; rintro e w13 ⟨rfl, rfl⟩)
          | (go_at_call 8; refine (awake_any _).mono ?_; rintro e w14 ⟨rfl, hb14⟩; have HB14 := hide (nextB HFIN.out hb14); clear hb14))
        go_ret
        exact ⟨rfl, HB14.out⟩
      | false =>
        go_enter Try.func3, Try.ntmps3
        go_wp2_with fail
        refine (of_any L HK.out HV.out (by rw [HN.out]; omega) (by rw [HNV.out]; omega)).mono ?_
        rintro e w3 ⟨kv3, vv3, rfl, ht3, hb3⟩
        obtain ⟨aK3, nK3, cK3, rfl, -⟩ := ht3.hk.form
        obtain ⟨aV3, nV3, cV3, rfl, -⟩ := ht3.hv.form
        have hbX := bel_alloc w3 (.cells #[.int .i64 L, .slice aK3 nK3 cK3, .slice aV3 nV3 cV3] 26)
        have HBX := hide (nextB hb3 hbX)
        have HIX := hide (And.intro (ht3.ints.1.below hbX) (ht3.ints.2.below hbX))
        have HXX := hide (BoxN.new 26 w3 L (.slice aK3 nK3 cK3) (.slice aV3 nV3 cV3))
        clear ht3 hb3 hbX
        go_wp2_with fail
        obtain ⟨b7, hb7⟩ : ∃ b, w3.heap.size = b := ⟨_, rfl⟩
        obtain ⟨wX, hwX⟩ : ∃ x, w3.alloc (.cells #[.int .i64 L, .slice aK3 nK3 cK3, .slice aV3 nV3 cV3] 26) = x := ⟨_, rfl⟩
        simp only [hwX, hb7] at HBX HIX HXX ⊢
        clear hwX hb7
        refine (put_key HIX.out.1 HIX.out.2 HR.out hfit).mono ?_
        rintro e w4 ⟨v4, rfl, hn4, hb4⟩
        have HN4 := hide hn4
        have HB4 := hide hb4
        obtain ⟨aN, cN, gN, nN, rfl, hnN, -⟩ := hn4
        obtain rfl : nN = 0 := hnN.out
        obtain ⟨y0, y1, y2⟩ := (HXX.out.below HB4.out).cells
        clear hb4 hnN
        go_wp2_with fail
        clear y0 y1 y2
        refine (drop_miss (HIX.out.1.below HB4.out) (HIX.out.2.below HB4.out) HR.out hki).mono ?_
        rintro e w5 ⟨kD, vD, rfl, htD, hbD⟩
        obtain ⟨aD, nD, cD, rfl, hnD⟩ := htD.hk.form
        obtain ⟨aE, nE, cE, rfl, -⟩ := htD.hv.form
        have hbY := bel_alloc w5 (.cells #[.int .i64 0, .slice aD nD cD, .slice aE nE cE] 26)
        have HBY := hide (nextB HB4.out (nextB hbD hbY))
        have HB4Y := hide (nextB hbD hbY)
        have HID0 := hide (And.intro (htD.ints.1.below hbY) (htD.ints.2.below hbY))
        have HXD := hide (BoxN.new 26 w5 0 (.slice aD nD cD) (.slice aE nE cE))
        obtain rfl : nD = 0 := hnD.out
        obtain ⟨y0, y1, y2⟩ := (HXX.out.below HBY.out).cells
        obtain ⟨x0, x1, x2⟩ := (HX.out.below (nextB HBX.out HBY.out)).cells
        clear htD hbD hbY hnD
        go_wp2_with fail
        obtain ⟨bd, hbd⟩ : ∃ b, w5.heap.size = b := ⟨_, rfl⟩
        obtain ⟨wY, hwY⟩ : ∃ x, w5.alloc (.cells #[.int .i64 0, .slice aD 0 cD, .slice aE nE cE] 26) = x := ⟨_, rfl⟩
        simp only [hwY, hbd] at HBY HB4Y HID0 HXD y0 y1 y2 x0 x1 x2 ⊢
        clear hwY hbd
        refine (same_any L L (HIX.out.1.below HBY.out) (HIX.out.2.below HBY.out) (HK.out.below (nextB HBX.out HBY.out)) (HV.out.below (nextB HBX.out HBY.out))).mono ?_
        rintro e w6 ⟨rfl, hb6⟩
        rw [sameB_self]
        have HB6 := hide hb6
        clear hb6 y0 y1 y2 x0 x1 x2
        have HXW := hide (nextB HBX.out (nextB HBY.out HB6.out))
        obtain ⟨x0, x1, x2⟩ := (HX.out.below HXW.out).cells
        go_wp2_with fail
        clear x0 x1 x2
        refine (right_any L (HK.out.below HXW.out) (HV.out.below HXW.out)).mono ?_
        rintro e w7 ⟨rfl, hb7⟩
        rw [hrt]
        have HB7 := hide (nextB HB6.out hb7)
        have HXW7 := hide (nextB HXW.out hb7)
        clear hb7
        obtain ⟨y0, y1, y2⟩ := (HXX.out.below (nextB HBY.out HB7.out)).cells
        go_wp2_with fail
        clear y0 y1 y2
        refine (find_any L (HIX.out.1.below (nextB HBY.out HB7.out)) HR.out.up (by have := HR.out.few; omega) k ⟨_, _, _, rfl⟩).mono ?_
        rintro e w8 ⟨⟨at_, ex, rfl, hfd⟩, hb8⟩
        have HFD := hide hfd
        have HB8 := hide (nextB HB7.out hb8)
        have HXW8 := hide (nextB HXW7.out hb8)
        obtain ⟨x0, x1, x2⟩ := (HX.out.below HXW8.out).cells
        clear hfd hb8
        go_wp2_with fail
        clear x0 x1 x2
        refine (rfind_any L (HK.out.below HXW8.out) ⟨_, _, _, rfl⟩ HR.out.up (by have := HR.out.few; omega) k).mono ?_
        rintro e w9 ⟨⟨at2, ex2, rfl, hfd2⟩, hb9⟩
        obtain ⟨e1, e2⟩ := found_unique HFD.out hfd2
        subst e1 e2
        have HB9 := hide (nextB HB8.out hb9)
        have HXW9 := hide (nextB HXW8.out hb9)
        clear hfd2 hb9
        obtain ⟨m, hsp, ⟨rfl, hkm, rfl⟩ | ⟨rfl, hkm, rfl⟩⟩ := HFD.out
        · exact absurd (List.mem_of_getElem? hkm) hki
        clear hsp hkm
        go_wp2_with fail
        refine (fits_any k v _).mono ?_
        rintro e w10 ⟨rfl, rfl⟩
        rw [hfit]
        go_wp2_with fail
        refine (is_any 80 80 _).mono ?_
        rintro e w11 ⟨rfl, rfl⟩
        have HB12 := HB9
        have HXW12 := HXW9
        obtain ⟨z0, z1, z2⟩ := (HXD.out.below HB12.out).cells
        have HFIN := hide (nextB HBA.out HXW12.out)
        go_wp2_with (first
          | (go_at_call 14; refine (is_any 81 81 _).mono ?_; rintro e w13 ⟨rfl, rfl⟩)
          | (go_at_call 8; refine (awake_any _).mono ?_; rintro e w14 ⟨rfl, hb14⟩; have HB14 := hide (nextB HFIN.out hb14); clear hb14))
        go_ret
        exact ⟨rfl, HB14.out⟩
  · have hrt := rtB_false.2 hR
    have hR0 := hide hR
    clear hR
    by_cases hle : (n : Int) < (nv : Int)
    · by_cases hbig : 200 < (nv : Int)
      · go_enter Try.func3, Try.ntmps3
        go_wp2_with (go_at_call 8; refine (awake_any _).mono ?_; rintro e w3 ⟨rfl, hb3⟩; have HB3 := hide (nextB HBA.out hb3); clear hb3)
        go_ret
        exact ⟨rfl, HB3.out⟩
      · have hsm1 : n ≤ 200 := by omega
        have hsm2 : nv ≤ 200 := by omega
        go_enter Try.func3, Try.ntmps3
        go_wp2_with fail
        refine (of_any L HK.out HV.out (by rw [HN.out]; omega) (by rw [HNV.out]; omega)).mono ?_
        rintro e w3 ⟨kv3, vv3, rfl, ht3, hb3⟩
        obtain ⟨aK3, nK3, cK3, rfl, -⟩ := ht3.hk.form
        obtain ⟨aV3, nV3, cV3, rfl, -⟩ := ht3.hv.form
        have hbX := bel_alloc w3 (.cells #[.int .i64 L, .slice aK3 nK3 cK3, .slice aV3 nV3 cV3] 26)
        have HBX := hide (nextB hb3 hbX)
        have HIX := hide (And.intro (ht3.ints.1.below hbX) (ht3.ints.2.below hbX))
        have HXX := hide (BoxN.new 26 w3 L (.slice aK3 nK3 cK3) (.slice aV3 nV3 cV3))
        clear ht3 hb3 hbX
        go_wp2_with fail
        obtain ⟨b7, hb7⟩ : ∃ b, w3.heap.size = b := ⟨_, rfl⟩
        obtain ⟨wX, hwX⟩ : ∃ x, w3.alloc (.cells #[.int .i64 L, .slice aK3 nK3 cK3, .slice aV3 nV3 cV3] 26) = x := ⟨_, rfl⟩
        simp only [hwX, hb7] at HBX HIX HXX ⊢
        clear hwX hb7
        refine (put_bad HIX.out.1 HIX.out.2 hR0.out k v).mono ?_
        rintro e w4 ⟨v4, rfl, hn4, hb4⟩
        have HN4 := hide hn4
        have HB4 := hide hb4
        obtain ⟨aN, cN, gN, nN, rfl, hnN, -⟩ := hn4
        obtain rfl : nN = 0 := hnN.out
        obtain ⟨y0, y1, y2⟩ := (HXX.out.below HB4.out).cells
        clear hb4 hnN
        go_wp2_with fail
        clear y0 y1 y2
        refine (drop_bad (HIX.out.1.below HB4.out) (HIX.out.2.below HB4.out) hR0.out k).mono ?_
        rintro e w5 ⟨kD, vD, rfl, htD, hbD⟩
        obtain ⟨aD, nD, cD, rfl, hnD⟩ := htD.hk.form
        obtain ⟨aE, nE, cE, rfl, -⟩ := htD.hv.form
        have hbY := bel_alloc w5 (.cells #[.int .i64 0, .slice aD nD cD, .slice aE nE cE] 26)
        have HBY := hide (nextB HB4.out (nextB hbD hbY))
        have HB4Y := hide (nextB hbD hbY)
        have HID0 := hide (And.intro (htD.ints.1.below hbY) (htD.ints.2.below hbY))
        have HXD := hide (BoxN.new 26 w5 0 (.slice aD nD cD) (.slice aE nE cE))
        obtain rfl : nD = 0 := hnD.out
        obtain ⟨y0, y1, y2⟩ := (HXX.out.below HBY.out).cells
        obtain ⟨x0, x1, x2⟩ := (HX.out.below (nextB HBX.out HBY.out)).cells
        clear htD hbD hbY hnD
        go_wp2_with fail
        obtain ⟨bd, hbd⟩ : ∃ b, w5.heap.size = b := ⟨_, rfl⟩
        obtain ⟨wY, hwY⟩ : ∃ x, w5.alloc (.cells #[.int .i64 0, .slice aD 0 cD, .slice aE nE cE] 26) = x := ⟨_, rfl⟩
        simp only [hwY, hbd] at HBY HB4Y HID0 HXD y0 y1 y2 x0 x1 x2 ⊢
        clear hwY hbd
        refine (same_any L L (HIX.out.1.below HBY.out) (HIX.out.2.below HBY.out) (HK.out.below (nextB HBX.out HBY.out)) (HV.out.below (nextB HBX.out HBY.out))).mono ?_
        rintro e w6 ⟨rfl, hb6⟩
        rw [sameB_self]
        have HB6 := hide hb6
        clear hb6 y0 y1 y2 x0 x1 x2
        have HXW := hide (nextB HBX.out (nextB HBY.out HB6.out))
        obtain ⟨x0, x1, x2⟩ := (HX.out.below HXW.out).cells
        go_wp2_with fail
        clear x0 x1 x2
        refine (right_any L (HK.out.below HXW.out) (HV.out.below HXW.out)).mono ?_
        rintro e w7 ⟨rfl, hb7⟩
        rw [hrt]
        have HB7 := hide (nextB HB6.out hb7)
        have HXW7 := hide (nextB HXW.out hb7)
        clear hb7
        obtain ⟨z0, z1, z2⟩ := (HXD.out.below HB7.out).cells
        have HFIN := hide (nextB HBA.out HXW7.out)
        go_wp2_with (first
          | (go_at_call 14; refine (is_any 70 70 _).mono ?_; rintro e w8 ⟨rfl, rfl⟩)
          | (go_at_call 8; refine (awake_any _).mono ?_; rintro e w9 ⟨rfl, hb9⟩; have HB9 := hide (nextB HFIN.out hb9); clear hb9))
        go_ret
        exact ⟨rfl, HB9.out⟩
    · by_cases hbig : 200 < (n : Int)
      · go_enter Try.func3, Try.ntmps3
        go_wp2_with (go_at_call 8; refine (awake_any _).mono ?_; rintro e w3 ⟨rfl, hb3⟩; have HB3 := hide (nextB HBA.out hb3); clear hb3)
        go_ret
        exact ⟨rfl, HB3.out⟩
      · have hsm1 : n ≤ 200 := by omega
        have hsm2 : nv ≤ 200 := by omega
        go_enter Try.func3, Try.ntmps3
        go_wp2_with fail
        refine (of_any L HK.out HV.out (by rw [HN.out]; omega) (by rw [HNV.out]; omega)).mono ?_
        rintro e w3 ⟨kv3, vv3, rfl, ht3, hb3⟩
        obtain ⟨aK3, nK3, cK3, rfl, -⟩ := ht3.hk.form
        obtain ⟨aV3, nV3, cV3, rfl, -⟩ := ht3.hv.form
        have hbX := bel_alloc w3 (.cells #[.int .i64 L, .slice aK3 nK3 cK3, .slice aV3 nV3 cV3] 26)
        have HBX := hide (nextB hb3 hbX)
        have HIX := hide (And.intro (ht3.ints.1.below hbX) (ht3.ints.2.below hbX))
        have HXX := hide (BoxN.new 26 w3 L (.slice aK3 nK3 cK3) (.slice aV3 nV3 cV3))
        clear ht3 hb3 hbX
        go_wp2_with fail
        obtain ⟨b7, hb7⟩ : ∃ b, w3.heap.size = b := ⟨_, rfl⟩
        obtain ⟨wX, hwX⟩ : ∃ x, w3.alloc (.cells #[.int .i64 L, .slice aK3 nK3 cK3, .slice aV3 nV3 cV3] 26) = x := ⟨_, rfl⟩
        simp only [hwX, hb7] at HBX HIX HXX ⊢
        clear hwX hb7
        refine (put_bad HIX.out.1 HIX.out.2 hR0.out k v).mono ?_
        rintro e w4 ⟨v4, rfl, hn4, hb4⟩
        have HN4 := hide hn4
        have HB4 := hide hb4
        obtain ⟨aN, cN, gN, nN, rfl, hnN, -⟩ := hn4
        obtain rfl : nN = 0 := hnN.out
        obtain ⟨y0, y1, y2⟩ := (HXX.out.below HB4.out).cells
        clear hb4 hnN
        go_wp2_with fail
        clear y0 y1 y2
        refine (drop_bad (HIX.out.1.below HB4.out) (HIX.out.2.below HB4.out) hR0.out k).mono ?_
        rintro e w5 ⟨kD, vD, rfl, htD, hbD⟩
        obtain ⟨aD, nD, cD, rfl, hnD⟩ := htD.hk.form
        obtain ⟨aE, nE, cE, rfl, -⟩ := htD.hv.form
        have hbY := bel_alloc w5 (.cells #[.int .i64 0, .slice aD nD cD, .slice aE nE cE] 26)
        have HBY := hide (nextB HB4.out (nextB hbD hbY))
        have HB4Y := hide (nextB hbD hbY)
        have HID0 := hide (And.intro (htD.ints.1.below hbY) (htD.ints.2.below hbY))
        have HXD := hide (BoxN.new 26 w5 0 (.slice aD nD cD) (.slice aE nE cE))
        obtain rfl : nD = 0 := hnD.out
        obtain ⟨y0, y1, y2⟩ := (HXX.out.below HBY.out).cells
        obtain ⟨x0, x1, x2⟩ := (HX.out.below (nextB HBX.out HBY.out)).cells
        clear htD hbD hbY hnD
        go_wp2_with fail
        obtain ⟨bd, hbd⟩ : ∃ b, w5.heap.size = b := ⟨_, rfl⟩
        obtain ⟨wY, hwY⟩ : ∃ x, w5.alloc (.cells #[.int .i64 0, .slice aD 0 cD, .slice aE nE cE] 26) = x := ⟨_, rfl⟩
        simp only [hwY, hbd] at HBY HB4Y HID0 HXD y0 y1 y2 x0 x1 x2 ⊢
        clear hwY hbd
        refine (same_any L L (HIX.out.1.below HBY.out) (HIX.out.2.below HBY.out) (HK.out.below (nextB HBX.out HBY.out)) (HV.out.below (nextB HBX.out HBY.out))).mono ?_
        rintro e w6 ⟨rfl, hb6⟩
        rw [sameB_self]
        have HB6 := hide hb6
        clear hb6 y0 y1 y2 x0 x1 x2
        have HXW := hide (nextB HBX.out (nextB HBY.out HB6.out))
        obtain ⟨x0, x1, x2⟩ := (HX.out.below HXW.out).cells
        go_wp2_with fail
        clear x0 x1 x2
        refine (right_any L (HK.out.below HXW.out) (HV.out.below HXW.out)).mono ?_
        rintro e w7 ⟨rfl, hb7⟩
        rw [hrt]
        have HB7 := hide (nextB HB6.out hb7)
        have HXW7 := hide (nextB HXW.out hb7)
        clear hb7
        obtain ⟨z0, z1, z2⟩ := (HXD.out.below HB7.out).cells
        have HFIN := hide (nextB HBA.out HXW7.out)
        go_wp2_with (first
          | (go_at_call 14; refine (is_any 70 70 _).mono ?_; rintro e w8 ⟨rfl, rfl⟩)
          | (go_at_call 8; refine (awake_any _).mono ?_; rintro e w9 ⟨rfl, hb9⟩; have HB9 := hide (nextB HFIN.out hb9); clear hb9))
        go_ret
        exact ⟨rfl, HB9.out⟩
end Go.Proofs.Ytcidadikmmdalaa
