/- The law NodeBack. -/
import Derived.Test.YtcidadikmmdalaaBaF
namespace Go.Proofs.Ytcidadikmmdalaa
open Go.RowKit Go.Extern

set_option maxRecDepth 100000 in
set_option maxHeartbeats 16000000 in
theorem backL_any {w : World} {kv vv : Value} {K V : List Int} (L : Int) (hk : Ints w kv K) (hv : Ints w vv V) (k v : Int) :
    Calls Try.prog 5 #[.agg #[.int .i64 L, kv, vv], .int .i64 k, .int .i64 v] w fun e w' => e = .returned (.bool true) ∧ Below w.heap.size w w' := by
  have HBA := hide (bel_alloc w (.cells #[.int .i64 L, kv, vv] 24))
  have HK := hide (hk.below HBA.out)
  have HV := hide (hv.below HBA.out)
  have HX := hide (BoxN.new 24 w L kv vv)
  by_cases hR : Rt L K V
  rotate_left
  · have hrt := rtB_false.2 hR
    obtain ⟨aK, nK, cK, hkf, -⟩ := hk.form
    obtain ⟨aV, nV, cV, hvf, -⟩ := hv.form
    clear hk hv hR
    subst hkf hvf
    go_enter Try.func5, Try.ntmps5
    go_wp2_with (first
      | (go_at_call 13; refine (right_any L HK.out HV.out).mono ?_; rintro e w1 ⟨rfl, hb1⟩; rw [hrt]; have HB1 := hide (nextB HBA.out hb1); clear hb1)
      | (go_at_call 8; refine (awake_any _).mono ?_; rintro e w3 ⟨rfl, hb3⟩; have HB3 := hide (nextB HB1.out hb3); clear hb3))
    go_ret
    exact ⟨rfl, HB3.out⟩
  have hrt := rtB_iff.2 hR
  cases hfit : fitB k v with
  | false =>
    obtain ⟨aK, nK, cK, hkf, -⟩ := hk.form
    obtain ⟨aV, nV, cV, hvf, -⟩ := hv.form
    clear hk hv hR
    subst hkf hvf
    go_enter Try.func5, Try.ntmps5
    go_wp2_with (first
      | (go_at_call 13; refine (right_any L HK.out HV.out).mono ?_; rintro e w1 ⟨rfl, hb1⟩; rw [hrt]; have HB1 := hide (nextB HBA.out hb1); clear hb1)
      | (go_at_call 17; refine (fits_any k v _).mono ?_; rintro e w2 ⟨rfl, rfl⟩; rw [hfit])
      | (go_at_call 8; refine (awake_any _).mono ?_; rintro e w3 ⟨rfl, hb3⟩; have HB3 := hide (nextB HB1.out hb3); clear hb3))
    go_ret
    exact ⟨rfl, HB3.out⟩
  | true =>
  have HR := hide hR
  obtain ⟨aK, cK, gK, oK, hkf, hK1, hK2⟩ := hk.at_
  obtain ⟨aV, cV, gV, oV, hvf, hV1, hV2⟩ := hv.at_
  obtain ⟨n, hn⟩ : ∃ n, K.length = n := ⟨_, rfl⟩
  have hpos := hR.pos
  have hfew := hR.few
  rw [hR.same, hn] at hvf hV1
  rw [hn] at hkf hK1 hpos hfew
  obtain rfl := hK1 (by omega)
  obtain rfl := hV1 (by omega)
  have HN := hide hn
  have HK2 := hide hK2
  have HV2 := hide hV2
  have HF := hide (fitB_iff.1 hfit)
  clear hk hv hR hn hK1 hV1 hK2 hV2
  subst hkf hvf
  go_enter Try.func5, Try.ntmps5
  go_wp2_with fail
  refine (right_any L HK.out HV.out).mono ?_
  rintro e w1 ⟨rfl, hb1⟩
  rw [hrt]
  have HB1 := hide hb1
  clear hb1
  go_wp2_with fail
  refine (fits_any k v _).mono ?_
  rintro e w2 ⟨rfl, rfl⟩
  rw [hfit]
  obtain ⟨x0, x1, x2⟩ := (HX.out.below HB1.out).cells
  go_wp2_with fail
  clear x0 x1 x2
  refine (of_any L (HK.out.below HB1.out) (HV.out.below HB1.out) (by rw [HN.out]; omega) (by rw [HR.out.same, HN.out]; omega)).mono ?_
  rintro e w3 ⟨kv3, vv3, rfl, ht3, hb3⟩
  have HI3 := hide ht3.ints
  obtain ⟨aK3, nK3, cK3, rfl, -⟩ := ht3.hk.form
  obtain ⟨aV3, nV3, cV3, rfl, -⟩ := ht3.hv.form
  have HB3 := hide (nextB HB1.out hb3)
  clear ht3 hb3
  go_wp2_with fail
  refine (put_ok HI3.out.1 HI3.out.2 HR.out hfit).mono ?_
  rintro e w4 ⟨v4, rfl, hn4, hb4⟩
  rw [errV_zero]
  have HBW := hide (nextB HBA.out (nextB HB3.out hb4))
  have HXR := hide (HX.out.below (nextB HB3.out hb4))
  have HK4 := hide (HK.out.below (nextB HB3.out hb4))
  have HV4 := hide (HV.out.below (nextB HB3.out hb4))
  have HBK := hide (bkF HR.out HF.out)
  have hca := cnt_all L (putS (K.zip V) k v) (put_len HR.out k v).1
  have hmem : (k, v) ∈ putS (K.zip V) k v := mem_putS.2 (.inr rfl)
  have HLEN : Hid ((k ∈ K → (putS (K.zip V) k v).length = n) ∧ (k ∉ K → (putS (K.zip V) k v).length = n + 1)) := hide (by
    have hu : Up ((K.zip V).map Prod.fst) := by rw [zip_fst HR.out.same]; exact HR.out.up
    have hl := HR.out.len
    rw [HN.out] at hl
    constructor
    · intro hki
      rw [← zip_fst HR.out.same] at hki
      obtain ⟨i, hi⟩ := List.mem_iff_getElem?.1 hki
      have hs : Spot ((K.zip V).map Prod.fst) k i := ⟨by have := (List.getElem?_eq_some_iff.1 hi).1; omega, fun j x hx hj => hu.lt hx hi hj, fun j x hx hj => hu.le hi hx hj⟩
      rw [len_put_in hu hs hi]; exact hl
    · intro hkn
      have hp := putS_len_out (l := K.zip V) (k := k) (v := v) HR.out.ris (by rw [zip_fst HR.out.same]; exact hkn)
      omega)
  have HOR : Hid (((cutS L (putS (K.zip V) k v)) = [(L, putS (K.zip V) k v)]) ∨ ((cutS L (putS (K.zip V) k v)) = [(L, (putS (K.zip V) k v).take 4), (L, (putS (K.zip V) k v).drop 4)])) := hide (by
    by_cases h7 : (putS (K.zip V) k v).length ≤ 7
    · exact .inl (cutS_one (put_len HR.out k v).1 h7)
    · exact .inr (cutS_two h7))
  obtain ⟨P, hP⟩ : ∃ P, putS (K.zip V) k v = P := ⟨_, rfl⟩
  rw [hP] at HLEN HOR HBK hca hmem hn4
  obtain ⟨ns, hns⟩ : ∃ ns, cutS L P = ns := ⟨_, rfl⟩
  rw [hns] at HOR HBK hca hn4
  have HMEM := hide hmem
  have hnp := HBK.out.pos
  have hnf := HBK.out.few
  obtain ⟨g, cap, nn, rfl, hnn, hnat⟩ := hn4.at_ hnp
  rw [← hnn.out] at hnp hnf hca
  have HCA := hide hca
  have HNAT := hide hnat
  have HNN := hide hnn.out
  clear hb4 hP hns hmem hn4 hnat hca hnn
  go_wp2_with fail
  go_loopg [57, 9] nn (fun t i c wr => ∃ (j cc : Nat), j + t = nn ∧ i = .int .i64 (j : Int) ∧ c = .int .i64 (cc : Int) ∧ Hid (cc = cnt ns j) ∧ cc ≤ 7 * j ∧ Hid (Below w4.heap.size w4 wr))
  case atStart => exact ⟨0, 0, by omega, rfl, rfl, hide rfl, by omega, hide (Below.refl _ _)⟩
  case round =>
    obtain ⟨j, cn, hj, rfl, rfl, HC, hcj, HBR⟩ := hrel
    cases gk with
    | zero =>
      have hnl : ¬ (j : Int) < (nn : Int) := by omega
      have hjn : j = nn := by omega
      have HCNT : Hid (cn = P.length) := hide (by rw [HC.out, hjn]; exact HCA.out)
      have hcn : cn ≤ 14 := by omega
      clear HC hcj hjn
      obtain ⟨a16, b16, hb16⟩ : ∃ a b : Nat, wr.heap.size = b := ⟨0, wr.heap.size, rfl⟩
      have HB16 := hide hb16
      have HW16 : Hid (w4.heap.size ≤ b16) := hide (by rw [← hb16]; exact HBR.out.size)
      clear hb16
      rcases HOR.out with rfl | rfl
      · obtain rfl : nn = 1 := HNN.out
        obtain ⟨kq, vq, c0, c1, c2, hkq, hvq⟩ := (HNAT.out 0 _ rfl)
        simp only [Nat.zero_mul, Nat.zero_add] at c0 c1 c2 hkq hvq
        replace c0 := cell_bel HBR.out c0
        replace c1 := cell_bel HBR.out c1
        replace c2 := cell_bel HBR.out c2
        obtain ⟨aq, cq, ckq, rfl, -⟩ := hkq.form
        obtain ⟨aw, cw, cwq, rfl, -⟩ := hvq.form
        have hbX := bel_alloc wr (.cells #[.int .i64 L, .slice aq cq ckq, .slice aw cw cwq] 26)
        have HBX := hide (BoxN.new 26 wr L (.slice aq cq ckq) (.slice aw cw cwq))
        have HIT := hide (And.intro (hkq.below (nextB HBR.out hbX)) (hvq.below (nextB HBR.out hbX)))
        have HBT := hide (nextB HBR.out hbX)
        obtain ⟨-, hrq, hq1, hq7⟩ := HBK.out.rt 0 _ rfl
        simp only at hrq hq1 hq7
        have HRQ := hide hrq
        have HRT := hide (rt_of HR.out.lev hrq hq1 hq7)
        have HKQ := HMEM
        obtain ⟨q, hqq⟩ : ∃ q, P = q := ⟨_, rfl⟩
        simp only [hqq] at HIT HRQ HRT HKQ
        clear hkq hvq hbX hrq hq1 hq7 hqq
        go_wp2_with fail
        obtain ⟨wT, hwT⟩ : ∃ x, wr.alloc (.cells #[.int .i64 L, .slice aq cq ckq, .slice aw cw cwq] 26) = x := ⟨_, rfl⟩
        simp only [hwT, HB16.out] at HBX HIT HBT ⊢
        clear hwT c0 c1 c2
        refine (find_any L HIT.out.1 HRT.out.up (by have := HRT.out.few; omega) k ⟨_, _, _, rfl⟩).mono ?_
        rintro e wF ⟨⟨at_, ex, rfl, hfd⟩, hbF⟩
        obtain ⟨mi, hmi⟩ := List.mem_iff_getElem?.1 HKQ.out
        obtain ⟨rfl, rfl⟩ := found_at HRT.out.up (key_at.2 ⟨v, hmi⟩) hfd
        have HVQ : Hid ((q.map Prod.snd)[mi]? = some v) := hide (by rw [List.getElem?_map, hmi]; rfl)
        have HMI := hide hmi
        have HBF := hide (nextB HBT.out hbF)
        obtain ⟨x0, x1, x2⟩ := (HXR.out.below HBF.out).cells
        have HBX2 := hide (HBX.out.below hbF)
        have HIF := hide (And.intro (HIT.out.1.below hbF) (HIT.out.2.below hbF))
        clear hfd hmi hbF
        go_wp2_with fail
        clear x0 x1 x2
        refine (of_any L (HK4.out.below HBF.out) (HV4.out.below HBF.out) (by rw [HN.out]; omega) (by rw [HR.out.same, HN.out]; omega)).mono ?_
        rintro e wG ⟨kG, vG, rfl, htG, hbG⟩
        have HIG := hide htG.ints.1
        obtain ⟨aKG, nKG, cKG, rfl, -⟩ := htG.hk.form
        obtain ⟨aVG, nVG, cVG, rfl, -⟩ := htG.hv.form
        have HBG := hide hbG
        clear htG hbG
        go_wp2_with fail
        refine (find_any L HIG.out HR.out.up (by rw [HN.out]; omega) k ⟨_, _, _, rfl⟩).mono ?_
        rintro e wH ⟨⟨at2, was, rfl, hfd⟩, hbH⟩
        have hwas : (was = true ↔ k ∈ K) := by
          obtain ⟨m2, -, ⟨rfl, hm2, -⟩ | ⟨rfl, hm2, -⟩⟩ := hfd
          · simp [List.mem_of_getElem? hm2]
          · simp [hm2]
        have HBH := hide (nextB HBF.out (nextB HBG.out hbH))
        have HBX3 := hide (HBX2.out.below (nextB HBG.out hbH))
        have HI3 := hide (And.intro (HIF.out.1.below (nextB HBG.out hbH)) (HIF.out.2.below (nextB HBG.out hbH)))
        obtain ⟨x0, x1, x2⟩ := (HXR.out.below HBH.out).cells
        obtain ⟨y0, y1, y2⟩ := HBX3.out.cells
        obtain ⟨aU, cU, gU, oU, hvu, hU1, hU2⟩ := HI3.out.2.at_
        have hmlt : mi < (q.map Prod.snd).length := (List.getElem?_eq_some_iff.1 HVQ.out).1
        obtain ⟨nU, hnU⟩ : ∃ n, (q.map Prod.snd).length = n := ⟨_, rfl⟩
        rw [hnU] at hvu hmlt hU1
        obtain rfl := hU1 (by omega)
        have u1 := hU2 mi v HVQ.out
        obtain ⟨aT, cqT, ckT, hkT, hcT⟩ := HI3.out.1.form
        simp only [Value.slice.injEq] at hvu hkT
        obtain ⟨e1, e2, e3⟩ := hvu
        replace e2 := e2.symm
        replace e3 := e3.symm
        subst e1 e2 e3
        obtain ⟨e1, e2, e3⟩ := hkT
        replace e2 := e2.symm
        replace e3 := e3.symm
        subst e1 e2 e3
        have hmI : (mi : Int) < (nU : Int) := by omega
        have hm0 : (0 : Int) ≤ (mi : Int) := by omega
        have HCT := hide hcT
        have hcnt := HCNT.out
        have hwasc : (was = true → (cn : Int) = (n : Int)) ∧ (was = false → (cn : Int) = (n : Int) + 1) := by
          constructor
          · intro h
            have := (HLEN.out.1 (hwas.1 h))
            omega
          · intro h
            have := HLEN.out.2 (fun h2 => by rw [hwas.2 h2] at h; cases h)
            omega
        have e1 : IntKind.i64.wrap ((n : Int) + 1) = (n : Int) + 1 := IntWalk.i64_in _ ⟨by omega, by omega⟩
        clear hfd hbH hU1 hU2 hwas hcnt hmlt hnU hcT
        cases was with
        | true =>
          have ec : ((cn : Int) == (n : Int)) = true := by have := hwasc.1 rfl; simp; omega
          have ec2 : (cn == n) = true := by have := hwasc.1 rfl; simp; omega
          clear hwasc
          go_wp2_with fail
          clear x0 x1 x2 y0 y1 y2 u1
          refine (drop_ok HI3.out.1 HI3.out.2 HRT.out (List.mem_map.2 ⟨(k, v), HKQ.out, rfl⟩)).mono ?_
          rintro e wD ⟨kD, vD, rfl, htD, hbD⟩
          rw [errV_zero]
          rw [zip_maps] at htD
          have hdl := drop_len HRT.out.up (List.mem_map.2 ⟨(k, v), HKQ.out, rfl⟩)
          have hdn := drop_not (l := q) k
          have hdu := (ris_dropS HRQ.out k).up
          obtain ⟨qd, hqd⟩ : ∃ x, dropS q k = x := ⟨_, rfl⟩
          rw [hqd] at htD hdl hdn hdu
          obtain ⟨aKD, cD, cKD, rfl, hcD⟩ := htD.hk.form
          obtain ⟨aVD, nVD, cVD, rfl, -⟩ := htD.hv.form
          have hbE := bel_alloc wD (.cells #[.int .i64 L, .slice aKD cD cKD, .slice aVD nVD cVD] 26)
          have HBE := hide (BoxN.new 26 wD L (.slice aKD cD cKD) (.slice aVD nVD cVD))
          have HIE := hide (htD.ints.1.below hbE)
          have HBD := hide (nextB hbD hbE)
          have HDU := hide (And.intro hdu (And.intro hdn hdl))
          have HQD := hide hqd
          have HCD := hide hcD
          obtain ⟨z0, z1, z2⟩ := HBE.out.cells
          clear htD hbD hdl hdn hdu hbE hqd hcD
          go_wp2_with fail
          clear z0 z1 z2
          refine (find_any L HIE.out HDU.out.1 (by rw [List.length_map]; have h1 := HDU.out.2.2; have h2 := HRT.out.few; rw [List.length_map] at h2; omega) k ⟨_, _, _, rfl⟩).mono ?_
          rintro e wI ⟨⟨at3, ex3, rfl, hfd⟩, hbI⟩
          obtain rfl := found_none HDU.out.2.1 hfd
          obtain ⟨z0, z1, z2⟩ := (HBE.out.below hbI).cells
          obtain ⟨y0, y1, y2⟩ := (HBX3.out.below (nextB HBD.out hbI)).cells
          have HBZ := hide (nextB HBW.out (nextB HBH.out (nextB HBD.out hbI)))
          have hcc : (cD : Int) = (cqT : Int) - 1 := by
            have h1 := HDU.out.2.2
            have h2 := HCD.out.out
            have h3 := HCT.out.out
            rw [List.length_map] at h2 h3
            omega
          have eq1 : ((cD : Int) == (cqT : Int) - 1) = true := by simp; omega
          have ew : IntKind.i64.wrap ((cqT : Int) - 1) = (cqT : Int) - 1 := IntWalk.i64_in _ ⟨by have := HCT.out.out; omega, by have h3 := HCT.out.out; have h4 := HRT.out.few; omega⟩
          clear hfd hbI hcc
          go_wp2_with (go_at_call 8; refine (awake_any _).mono ?_; rintro e wJ ⟨rfl, hbJ⟩; have HBJ := hide (nextB HBZ.out hbJ); clear hbJ)
          go_ret
          exact ⟨rfl, HBJ.out⟩
        | false =>
          have ec : ((cn : Int) == (n : Int)) = false := by have := hwasc.2 rfl; simp; omega
          have ec2 : (cn == n) = false := by have := hwasc.2 rfl; simp; omega
          have ed : ((cn : Int) == (n : Int) + 1) = true := by have := hwasc.2 rfl; simp; omega
          have ed2 : ((cn : Int) != (n : Int) + 1) = false := by have := hwasc.2 rfl; simp; omega
          clear hwasc
          go_wp2_with fail
          clear x0 x1 x2 y0 y1 y2 u1
          refine (drop_ok HI3.out.1 HI3.out.2 HRT.out (List.mem_map.2 ⟨(k, v), HKQ.out, rfl⟩)).mono ?_
          rintro e wD ⟨kD, vD, rfl, htD, hbD⟩
          rw [errV_zero]
          rw [zip_maps] at htD
          have hdl := drop_len HRT.out.up (List.mem_map.2 ⟨(k, v), HKQ.out, rfl⟩)
          have hdn := drop_not (l := q) k
          have hdu := (ris_dropS HRQ.out k).up
          obtain ⟨qd, hqd⟩ : ∃ x, dropS q k = x := ⟨_, rfl⟩
          rw [hqd] at htD hdl hdn hdu
          obtain ⟨aKD, cD, cKD, rfl, hcD⟩ := htD.hk.form
          obtain ⟨aVD, nVD, cVD, rfl, -⟩ := htD.hv.form
          have hbE := bel_alloc wD (.cells #[.int .i64 L, .slice aKD cD cKD, .slice aVD nVD cVD] 26)
          have HBE := hide (BoxN.new 26 wD L (.slice aKD cD cKD) (.slice aVD nVD cVD))
          have HIE := hide (htD.ints.1.below hbE)
          have HBD := hide (nextB hbD hbE)
          have HDU := hide (And.intro hdu (And.intro hdn hdl))
          have HQD := hide hqd
          have HCD := hide hcD
          obtain ⟨z0, z1, z2⟩ := HBE.out.cells
          clear htD hbD hdl hdn hdu hbE hqd hcD
          go_wp2_with fail
          clear z0 z1 z2
          refine (find_any L HIE.out HDU.out.1 (by rw [List.length_map]; have h1 := HDU.out.2.2; have h2 := HRT.out.few; rw [List.length_map] at h2; omega) k ⟨_, _, _, rfl⟩).mono ?_
          rintro e wI ⟨⟨at3, ex3, rfl, hfd⟩, hbI⟩
          obtain rfl := found_none HDU.out.2.1 hfd
          obtain ⟨z0, z1, z2⟩ := (HBE.out.below hbI).cells
          obtain ⟨y0, y1, y2⟩ := (HBX3.out.below (nextB HBD.out hbI)).cells
          have HBZ := hide (nextB HBW.out (nextB HBH.out (nextB HBD.out hbI)))
          have hcc : (cD : Int) = (cqT : Int) - 1 := by
            have h1 := HDU.out.2.2
            have h2 := HCD.out.out
            have h3 := HCT.out.out
            rw [List.length_map] at h2 h3
            omega
          have eq1 : ((cD : Int) == (cqT : Int) - 1) = true := by simp; omega
          have ew : IntKind.i64.wrap ((cqT : Int) - 1) = (cqT : Int) - 1 := IntWalk.i64_in _ ⟨by have := HCT.out.out; omega, by have h3 := HCT.out.out; have h4 := HRT.out.few; omega⟩
          clear hfd hbI hcc
          go_wp2_with (go_at_call 8; refine (awake_any _).mono ?_; rintro e wJ ⟨rfl, hbJ⟩; have HBJ := hide (nextB HBZ.out hbJ); clear hbJ)
          go_ret
          exact ⟨rfl, HBJ.out⟩
      · obtain rfl : nn = 2 := HNN.out
        obtain ⟨kq0, vq0, d0, d1, d2, hkq0, hvq0⟩ := (HNAT.out 0 _ rfl)
        obtain ⟨kq, vq, c0, c1, c2, hkq, hvq⟩ := (HNAT.out 1 _ rfl)
        simp only [Nat.zero_mul, Nat.zero_add, Nat.one_mul] at c0 c1 c2 hkq hvq d0 d1 d2 hkq0 hvq0
        replace c0 := cell_bel HBR.out c0
        replace c1 := cell_bel HBR.out c1
        replace c2 := cell_bel HBR.out c2
        obtain ⟨aq, cq, ckq, rfl, hcq⟩ := hkq.form
        obtain ⟨aw, cw, cwq, rfl, -⟩ := hvq.form
        obtain ⟨aq0, cq0, ckq0, rfl, -⟩ := hkq0.form
        obtain ⟨aw0, cw0, cwq0, rfl, -⟩ := hvq0.form
        have hbX := bel_alloc wr (.cells #[.int .i64 L, .slice aq cq ckq, .slice aw cw cwq] 26)
        have HBX0 := hide (BoxN.new 26 wr L (.slice aq cq ckq) (.slice aw cw cwq))
        have HIT1 := hide (And.intro (hkq.below (nextB HBR.out hbX)) (hvq.below (nextB HBR.out hbX)))
        have HI0 := hide (And.intro hkq0 hvq0)
        have HBT0 := hide (nextB HBR.out hbX)
        obtain ⟨-, hra, ha1, ha7⟩ := HBK.out.rt 0 _ rfl
        obtain ⟨-, hrb, hb1, hb7⟩ := HBK.out.rt 1 _ rfl
        simp only at hra ha1 ha7 hrb hb1 hb7
        have hord := HBK.out.ord _ _ rfl rfl
        simp only at hord
        obtain ⟨⟨kf, vf⟩, hkf⟩ : ∃ p, (P.drop 4)[0]? = some p := ⟨(P.drop 4)[0]'(by omega), by rw [List.getElem?_eq_getElem]⟩
        have hkc := HIT1.out.1.at_
        obtain ⟨aq', ckq', gq, oq, hsl, hA1, hA2⟩ := hkc
        simp only [Value.slice.injEq] at hsl
        obtain ⟨rfl, -, rfl⟩ := hsl
        have hcqp : 1 ≤ cq := by rw [hcq.out, List.length_map]; exact hb1
        obtain rfl := hA1 (by rw [List.length_map]; omega)
        have kfc := hA2 0 kf (key_at.2 ⟨vf, hkf⟩)
        rw [Nat.add_zero] at kfc
        have hcqI : (0 : Int) < (cq : Int) := by omega
        have HSPL : Hid (∀ p ∈ P, p ∈ P.take 4 ∨ p ∈ P.drop 4) := hide (fun p hp => by rw [← List.take_append_drop 4 P] at hp; exact List.mem_append.1 hp)
        have hkfm : (kf, vf) ∈ P.drop 4 := List.mem_of_getElem? hkf
        have HFI : Hid (∀ p ∈ P.drop 4, kf ≤ p.1) := hide (fun p hp => by
          obtain ⟨i, hi⟩ := List.mem_iff_getElem?.1 hp
          rcases Nat.eq_zero_or_pos i with e | e
          · subst e; rw [hkf] at hi; cases hi; exact Int.le_refl _
          · have := hrb.at_lt hkf hi e; simp only at this; omega)
        by_cases hkkf : k < kf
        · have HRQ := hide hra
          have HRT := hide (rt_of HR.out.lev hra ha1 ha7)
          have HKQ : Hid ((k, v) ∈ P.take 4) := hide (by
            rcases HSPL.out _ HMEM.out with h | h
            · exact h
            · have := HFI.out _ h; simp only at this; omega)
          have d0' := cell_bel HBT0.out d0
          have d1' := cell_bel HBT0.out d1
          have d2' := cell_bel HBT0.out d2
          have hbY := bel_alloc wr (.cells #[.int .i64 L, .slice aq0 cq0 ckq0, .slice aw0 cw0 cwq0] 26)
          have HBX := hide (BoxN.new 26 wr L (.slice aq0 cq0 ckq0) (.slice aw0 cw0 cwq0))
          have HBT := hide (nextB HBR.out hbY)
          have HIT := hide (And.intro (HI0.out.1.below HBT.out) (HI0.out.2.below HBT.out))
          obtain ⟨q, hqq⟩ : ∃ q, P.take 4 = q := ⟨_, rfl⟩
          simp only [hqq] at HIT HRQ HRT HKQ
          clear hkq hvq hbX hbY hra ha1 ha7 hrb hb1 hb7 hqq hord hkf hA1 hA2 hkfm hcq hkq0 hvq0 d0 d1 d2 HBX0 HBT0 HIT1
          go_wp2_with fail
          obtain ⟨wT, hwT⟩ : ∃ x, wr.alloc (.cells #[.int .i64 L, .slice aq0 cq0 ckq0, .slice aw0 cw0 cwq0] 26) = x := ⟨_, rfl⟩
          simp only [hwT, HB16.out] at HBX HIT HBT ⊢
          clear hwT c0 c1 c2 d0' d1' d2' kfc hkkf hcqI hcqp
          refine (find_any L HIT.out.1 HRT.out.up (by have := HRT.out.few; omega) k ⟨_, _, _, rfl⟩).mono ?_
          rintro e wF ⟨⟨at_, ex, rfl, hfd⟩, hbF⟩
          obtain ⟨mi, hmi⟩ := List.mem_iff_getElem?.1 HKQ.out
          obtain ⟨rfl, rfl⟩ := found_at HRT.out.up (key_at.2 ⟨v, hmi⟩) hfd
          have HVQ : Hid ((q.map Prod.snd)[mi]? = some v) := hide (by rw [List.getElem?_map, hmi]; rfl)
          have HMI := hide hmi
          have HBF := hide (nextB HBT.out hbF)
          obtain ⟨x0, x1, x2⟩ := (HXR.out.below HBF.out).cells
          have HBX2 := hide (HBX.out.below hbF)
          have HIF := hide (And.intro (HIT.out.1.below hbF) (HIT.out.2.below hbF))
          clear hfd hmi hbF
          go_wp2_with fail
          clear x0 x1 x2
          refine (of_any L (HK4.out.below HBF.out) (HV4.out.below HBF.out) (by rw [HN.out]; omega) (by rw [HR.out.same, HN.out]; omega)).mono ?_
          rintro e wG ⟨kG, vG, rfl, htG, hbG⟩
          have HIG := hide htG.ints.1
          obtain ⟨aKG, nKG, cKG, rfl, -⟩ := htG.hk.form
          obtain ⟨aVG, nVG, cVG, rfl, -⟩ := htG.hv.form
          have HBG := hide hbG
          clear htG hbG
          go_wp2_with fail
          refine (find_any L HIG.out HR.out.up (by rw [HN.out]; omega) k ⟨_, _, _, rfl⟩).mono ?_
          rintro e wH ⟨⟨at2, was, rfl, hfd⟩, hbH⟩
          have hwas : (was = true ↔ k ∈ K) := by
            obtain ⟨m2, -, ⟨rfl, hm2, -⟩ | ⟨rfl, hm2, -⟩⟩ := hfd
            · simp [List.mem_of_getElem? hm2]
            · simp [hm2]
          have HBH := hide (nextB HBF.out (nextB HBG.out hbH))
          have HBX3 := hide (HBX2.out.below (nextB HBG.out hbH))
          have HI3 := hide (And.intro (HIF.out.1.below (nextB HBG.out hbH)) (HIF.out.2.below (nextB HBG.out hbH)))
          obtain ⟨x0, x1, x2⟩ := (HXR.out.below HBH.out).cells
          obtain ⟨y0, y1, y2⟩ := HBX3.out.cells
          obtain ⟨aU, cU, gU, oU, hvu, hU1, hU2⟩ := HI3.out.2.at_
          have hmlt : mi < (q.map Prod.snd).length := (List.getElem?_eq_some_iff.1 HVQ.out).1
          obtain ⟨nU, hnU⟩ : ∃ n, (q.map Prod.snd).length = n := ⟨_, rfl⟩
          rw [hnU] at hvu hmlt hU1
          obtain rfl := hU1 (by omega)
          have u1 := hU2 mi v HVQ.out
          obtain ⟨aT, cqT, ckT, hkT, hcT⟩ := HI3.out.1.form
          simp only [Value.slice.injEq] at hvu hkT
          obtain ⟨e1, e2, e3⟩ := hvu
          replace e2 := e2.symm
          replace e3 := e3.symm
          subst e1 e2 e3
          obtain ⟨e1, e2, e3⟩ := hkT
          replace e2 := e2.symm
          replace e3 := e3.symm
          subst e1 e2 e3
          have hmI : (mi : Int) < (nU : Int) := by omega
          have hm0 : (0 : Int) ≤ (mi : Int) := by omega
          have HCT := hide hcT
          have hcnt := HCNT.out
          have hwasc : (was = true → (cn : Int) = (n : Int)) ∧ (was = false → (cn : Int) = (n : Int) + 1) := by
            constructor
            · intro h
              have := (HLEN.out.1 (hwas.1 h))
              omega
            · intro h
              have := HLEN.out.2 (fun h2 => by rw [hwas.2 h2] at h; cases h)
              omega
          have e1 : IntKind.i64.wrap ((n : Int) + 1) = (n : Int) + 1 := IntWalk.i64_in _ ⟨by omega, by omega⟩
          clear hfd hbH hU1 hU2 hwas hcnt hmlt hnU hcT
          cases was with
          | true =>
            have ec : ((cn : Int) == (n : Int)) = true := by have := hwasc.1 rfl; simp; omega
            have ec2 : (cn == n) = true := by have := hwasc.1 rfl; simp; omega
            clear hwasc
            go_wp2_with fail
            clear x0 x1 x2 y0 y1 y2 u1
            refine (drop_ok HI3.out.1 HI3.out.2 HRT.out (List.mem_map.2 ⟨(k, v), HKQ.out, rfl⟩)).mono ?_
            rintro e wD ⟨kD, vD, rfl, htD, hbD⟩
            rw [errV_zero]
            rw [zip_maps] at htD
            have hdl := drop_len HRT.out.up (List.mem_map.2 ⟨(k, v), HKQ.out, rfl⟩)
            have hdn := drop_not (l := q) k
            have hdu := (ris_dropS HRQ.out k).up
            obtain ⟨qd, hqd⟩ : ∃ x, dropS q k = x := ⟨_, rfl⟩
            rw [hqd] at htD hdl hdn hdu
            obtain ⟨aKD, cD, cKD, rfl, hcD⟩ := htD.hk.form
            obtain ⟨aVD, nVD, cVD, rfl, -⟩ := htD.hv.form
            have hbE := bel_alloc wD (.cells #[.int .i64 L, .slice aKD cD cKD, .slice aVD nVD cVD] 26)
            have HBE := hide (BoxN.new 26 wD L (.slice aKD cD cKD) (.slice aVD nVD cVD))
            have HIE := hide (htD.ints.1.below hbE)
            have HBD := hide (nextB hbD hbE)
            have HDU := hide (And.intro hdu (And.intro hdn hdl))
            have HQD := hide hqd
            have HCD := hide hcD
            obtain ⟨z0, z1, z2⟩ := HBE.out.cells
            clear htD hbD hdl hdn hdu hbE hqd hcD
            go_wp2_with fail
            clear z0 z1 z2
            refine (find_any L HIE.out HDU.out.1 (by rw [List.length_map]; have h1 := HDU.out.2.2; have h2 := HRT.out.few; rw [List.length_map] at h2; omega) k ⟨_, _, _, rfl⟩).mono ?_
            rintro e wI ⟨⟨at3, ex3, rfl, hfd⟩, hbI⟩
            obtain rfl := found_none HDU.out.2.1 hfd
            obtain ⟨z0, z1, z2⟩ := (HBE.out.below hbI).cells
            obtain ⟨y0, y1, y2⟩ := (HBX3.out.below (nextB HBD.out hbI)).cells
            have HBZ := hide (nextB HBW.out (nextB HBH.out (nextB HBD.out hbI)))
            have hcc : (cD : Int) = (cqT : Int) - 1 := by
              have h1 := HDU.out.2.2
              have h2 := HCD.out.out
              have h3 := HCT.out.out
              rw [List.length_map] at h2 h3
              omega
            have eq1 : ((cD : Int) == (cqT : Int) - 1) = true := by simp; omega
            have ew : IntKind.i64.wrap ((cqT : Int) - 1) = (cqT : Int) - 1 := IntWalk.i64_in _ ⟨by have := HCT.out.out; omega, by have h3 := HCT.out.out; have h4 := HRT.out.few; omega⟩
            clear hfd hbI hcc
            go_wp2_with (go_at_call 8; refine (awake_any _).mono ?_; rintro e wJ ⟨rfl, hbJ⟩; have HBJ := hide (nextB HBZ.out hbJ); clear hbJ)
            go_ret
            exact ⟨rfl, HBJ.out⟩
          | false =>
            have ec : ((cn : Int) == (n : Int)) = false := by have := hwasc.2 rfl; simp; omega
            have ec2 : (cn == n) = false := by have := hwasc.2 rfl; simp; omega
            have ed : ((cn : Int) == (n : Int) + 1) = true := by have := hwasc.2 rfl; simp; omega
            have ed2 : ((cn : Int) != (n : Int) + 1) = false := by have := hwasc.2 rfl; simp; omega
            clear hwasc
            go_wp2_with fail
            clear x0 x1 x2 y0 y1 y2 u1
            refine (drop_ok HI3.out.1 HI3.out.2 HRT.out (List.mem_map.2 ⟨(k, v), HKQ.out, rfl⟩)).mono ?_
            rintro e wD ⟨kD, vD, rfl, htD, hbD⟩
            rw [errV_zero]
            rw [zip_maps] at htD
            have hdl := drop_len HRT.out.up (List.mem_map.2 ⟨(k, v), HKQ.out, rfl⟩)
            have hdn := drop_not (l := q) k
            have hdu := (ris_dropS HRQ.out k).up
            obtain ⟨qd, hqd⟩ : ∃ x, dropS q k = x := ⟨_, rfl⟩
            rw [hqd] at htD hdl hdn hdu
            obtain ⟨aKD, cD, cKD, rfl, hcD⟩ := htD.hk.form
            obtain ⟨aVD, nVD, cVD, rfl, -⟩ := htD.hv.form
            have hbE := bel_alloc wD (.cells #[.int .i64 L, .slice aKD cD cKD, .slice aVD nVD cVD] 26)
            have HBE := hide (BoxN.new 26 wD L (.slice aKD cD cKD) (.slice aVD nVD cVD))
            have HIE := hide (htD.ints.1.below hbE)
            have HBD := hide (nextB hbD hbE)
            have HDU := hide (And.intro hdu (And.intro hdn hdl))
            have HQD := hide hqd
            have HCD := hide hcD
            obtain ⟨z0, z1, z2⟩ := HBE.out.cells
            clear htD hbD hdl hdn hdu hbE hqd hcD
            go_wp2_with fail
            clear z0 z1 z2
            refine (find_any L HIE.out HDU.out.1 (by rw [List.length_map]; have h1 := HDU.out.2.2; have h2 := HRT.out.few; rw [List.length_map] at h2; omega) k ⟨_, _, _, rfl⟩).mono ?_
            rintro e wI ⟨⟨at3, ex3, rfl, hfd⟩, hbI⟩
            obtain rfl := found_none HDU.out.2.1 hfd
            obtain ⟨z0, z1, z2⟩ := (HBE.out.below hbI).cells
            obtain ⟨y0, y1, y2⟩ := (HBX3.out.below (nextB HBD.out hbI)).cells
            have HBZ := hide (nextB HBW.out (nextB HBH.out (nextB HBD.out hbI)))
            have hcc : (cD : Int) = (cqT : Int) - 1 := by
              have h1 := HDU.out.2.2
              have h2 := HCD.out.out
              have h3 := HCT.out.out
              rw [List.length_map] at h2 h3
              omega
            have eq1 : ((cD : Int) == (cqT : Int) - 1) = true := by simp; omega
            have ew : IntKind.i64.wrap ((cqT : Int) - 1) = (cqT : Int) - 1 := IntWalk.i64_in _ ⟨by have := HCT.out.out; omega, by have h3 := HCT.out.out; have h4 := HRT.out.few; omega⟩
            clear hfd hbI hcc
            go_wp2_with (go_at_call 8; refine (awake_any _).mono ?_; rintro e wJ ⟨rfl, hbJ⟩; have HBJ := hide (nextB HBZ.out hbJ); clear hbJ)
            go_ret
            exact ⟨rfl, HBJ.out⟩
        · have HRQ := hide hrb
          have HRT := hide (rt_of HR.out.lev hrb hb1 hb7)
          have HKQ : Hid ((k, v) ∈ P.drop 4) := hide (by
            rcases HSPL.out _ HMEM.out with h | h
            · have := hord _ h _ hkfm; simp only at this; omega
            · exact h)
          have HBX := HBX0
          have HBT := HBT0
          have HIT := HIT1
          obtain ⟨q, hqq⟩ : ∃ q, P.drop 4 = q := ⟨_, rfl⟩
          simp only [hqq] at HIT HRQ HRT HKQ
          clear hkq hvq hbX hra ha1 ha7 hrb hb1 hb7 hqq hord hkf hA1 hA2 hkfm hcq hkq0 hvq0 d0 d1 d2 HIT1 HBX0 HBT0
          go_wp2_with fail
          obtain ⟨wT, hwT⟩ : ∃ x, wr.alloc (.cells #[.int .i64 L, .slice (some ⟨gq, oq, none⟩) cq ckq, .slice aw cw cwq] 26) = x := ⟨_, rfl⟩
          simp only [hwT, HB16.out] at HBX HIT HBT ⊢
          clear hwT c0 c1 c2 kfc hkkf hcqI hcqp
          refine (find_any L HIT.out.1 HRT.out.up (by have := HRT.out.few; omega) k ⟨_, _, _, rfl⟩).mono ?_
          rintro e wF ⟨⟨at_, ex, rfl, hfd⟩, hbF⟩
          obtain ⟨mi, hmi⟩ := List.mem_iff_getElem?.1 HKQ.out
          obtain ⟨rfl, rfl⟩ := found_at HRT.out.up (key_at.2 ⟨v, hmi⟩) hfd
          have HVQ : Hid ((q.map Prod.snd)[mi]? = some v) := hide (by rw [List.getElem?_map, hmi]; rfl)
          have HMI := hide hmi
          have HBF := hide (nextB HBT.out hbF)
          obtain ⟨x0, x1, x2⟩ := (HXR.out.below HBF.out).cells
          have HBX2 := hide (HBX.out.below hbF)
          have HIF := hide (And.intro (HIT.out.1.below hbF) (HIT.out.2.below hbF))
          clear hfd hmi hbF
          go_wp2_with fail
          clear x0 x1 x2
          refine (of_any L (HK4.out.below HBF.out) (HV4.out.below HBF.out) (by rw [HN.out]; omega) (by rw [HR.out.same, HN.out]; omega)).mono ?_
          rintro e wG ⟨kG, vG, rfl, htG, hbG⟩
          have HIG := hide htG.ints.1
          obtain ⟨aKG, nKG, cKG, rfl, -⟩ := htG.hk.form
          obtain ⟨aVG, nVG, cVG, rfl, -⟩ := htG.hv.form
          have HBG := hide hbG
          clear htG hbG
          go_wp2_with fail
          refine (find_any L HIG.out HR.out.up (by rw [HN.out]; omega) k ⟨_, _, _, rfl⟩).mono ?_
          rintro e wH ⟨⟨at2, was, rfl, hfd⟩, hbH⟩
          have hwas : (was = true ↔ k ∈ K) := by
            obtain ⟨m2, -, ⟨rfl, hm2, -⟩ | ⟨rfl, hm2, -⟩⟩ := hfd
            · simp [List.mem_of_getElem? hm2]
            · simp [hm2]
          have HBH := hide (nextB HBF.out (nextB HBG.out hbH))
          have HBX3 := hide (HBX2.out.below (nextB HBG.out hbH))
          have HI3 := hide (And.intro (HIF.out.1.below (nextB HBG.out hbH)) (HIF.out.2.below (nextB HBG.out hbH)))
          obtain ⟨x0, x1, x2⟩ := (HXR.out.below HBH.out).cells
          obtain ⟨y0, y1, y2⟩ := HBX3.out.cells
          obtain ⟨aU, cU, gU, oU, hvu, hU1, hU2⟩ := HI3.out.2.at_
          have hmlt : mi < (q.map Prod.snd).length := (List.getElem?_eq_some_iff.1 HVQ.out).1
          obtain ⟨nU, hnU⟩ : ∃ n, (q.map Prod.snd).length = n := ⟨_, rfl⟩
          rw [hnU] at hvu hmlt hU1
          obtain rfl := hU1 (by omega)
          have u1 := hU2 mi v HVQ.out
          obtain ⟨aT, cqT, ckT, hkT, hcT⟩ := HI3.out.1.form
          simp only [Value.slice.injEq] at hvu hkT
          obtain ⟨e1, e2, e3⟩ := hvu
          replace e2 := e2.symm
          replace e3 := e3.symm
          subst e1 e2 e3
          obtain ⟨e1, e2, e3⟩ := hkT
          replace e2 := e2.symm
          replace e3 := e3.symm
          subst e1 e2 e3
          have hmI : (mi : Int) < (nU : Int) := by omega
          have hm0 : (0 : Int) ≤ (mi : Int) := by omega
          have HCT := hide hcT
          have hcnt := HCNT.out
          have hwasc : (was = true → (cn : Int) = (n : Int)) ∧ (was = false → (cn : Int) = (n : Int) + 1) := by
            constructor
            · intro h
              have := (HLEN.out.1 (hwas.1 h))
              omega
            · intro h
              have := HLEN.out.2 (fun h2 => by rw [hwas.2 h2] at h; cases h)
              omega
          have e1 : IntKind.i64.wrap ((n : Int) + 1) = (n : Int) + 1 := IntWalk.i64_in _ ⟨by omega, by omega⟩
          clear hfd hbH hU1 hU2 hwas hcnt hmlt hnU hcT
          cases was with
          | true =>
            have ec : ((cn : Int) == (n : Int)) = true := by have := hwasc.1 rfl; simp; omega
            have ec2 : (cn == n) = true := by have := hwasc.1 rfl; simp; omega
            clear hwasc
            go_wp2_with fail
            clear x0 x1 x2 y0 y1 y2 u1
            refine (drop_ok HI3.out.1 HI3.out.2 HRT.out (List.mem_map.2 ⟨(k, v), HKQ.out, rfl⟩)).mono ?_
            rintro e wD ⟨kD, vD, rfl, htD, hbD⟩
            rw [errV_zero]
            rw [zip_maps] at htD
            have hdl := drop_len HRT.out.up (List.mem_map.2 ⟨(k, v), HKQ.out, rfl⟩)
            have hdn := drop_not (l := q) k
            have hdu := (ris_dropS HRQ.out k).up
            obtain ⟨qd, hqd⟩ : ∃ x, dropS q k = x := ⟨_, rfl⟩
            rw [hqd] at htD hdl hdn hdu
            obtain ⟨aKD, cD, cKD, rfl, hcD⟩ := htD.hk.form
            obtain ⟨aVD, nVD, cVD, rfl, -⟩ := htD.hv.form
            have hbE := bel_alloc wD (.cells #[.int .i64 L, .slice aKD cD cKD, .slice aVD nVD cVD] 26)
            have HBE := hide (BoxN.new 26 wD L (.slice aKD cD cKD) (.slice aVD nVD cVD))
            have HIE := hide (htD.ints.1.below hbE)
            have HBD := hide (nextB hbD hbE)
            have HDU := hide (And.intro hdu (And.intro hdn hdl))
            have HQD := hide hqd
            have HCD := hide hcD
            obtain ⟨z0, z1, z2⟩ := HBE.out.cells
            clear htD hbD hdl hdn hdu hbE hqd hcD
            go_wp2_with fail
            clear z0 z1 z2
            refine (find_any L HIE.out HDU.out.1 (by rw [List.length_map]; have h1 := HDU.out.2.2; have h2 := HRT.out.few; rw [List.length_map] at h2; omega) k ⟨_, _, _, rfl⟩).mono ?_
            rintro e wI ⟨⟨at3, ex3, rfl, hfd⟩, hbI⟩
            obtain rfl := found_none HDU.out.2.1 hfd
            obtain ⟨z0, z1, z2⟩ := (HBE.out.below hbI).cells
            obtain ⟨y0, y1, y2⟩ := (HBX3.out.below (nextB HBD.out hbI)).cells
            have HBZ := hide (nextB HBW.out (nextB HBH.out (nextB HBD.out hbI)))
            have hcc : (cD : Int) = (cqT : Int) - 1 := by
              have h1 := HDU.out.2.2
              have h2 := HCD.out.out
              have h3 := HCT.out.out
              rw [List.length_map] at h2 h3
              omega
            have eq1 : ((cD : Int) == (cqT : Int) - 1) = true := by simp; omega
            have ew : IntKind.i64.wrap ((cqT : Int) - 1) = (cqT : Int) - 1 := IntWalk.i64_in _ ⟨by have := HCT.out.out; omega, by have h3 := HCT.out.out; have h4 := HRT.out.few; omega⟩
            clear hfd hbI hcc
            go_wp2_with (go_at_call 8; refine (awake_any _).mono ?_; rintro e wJ ⟨rfl, hbJ⟩; have HBJ := hide (nextB HBZ.out hbJ); clear hbJ)
            go_ret
            exact ⟨rfl, HBJ.out⟩
          | false =>
            have ec : ((cn : Int) == (n : Int)) = false := by have := hwasc.2 rfl; simp; omega
            have ec2 : (cn == n) = false := by have := hwasc.2 rfl; simp; omega
            have ed : ((cn : Int) == (n : Int) + 1) = true := by have := hwasc.2 rfl; simp; omega
            have ed2 : ((cn : Int) != (n : Int) + 1) = false := by have := hwasc.2 rfl; simp; omega
            clear hwasc
            go_wp2_with fail
            clear x0 x1 x2 y0 y1 y2 u1
            refine (drop_ok HI3.out.1 HI3.out.2 HRT.out (List.mem_map.2 ⟨(k, v), HKQ.out, rfl⟩)).mono ?_
            rintro e wD ⟨kD, vD, rfl, htD, hbD⟩
            rw [errV_zero]
            rw [zip_maps] at htD
            have hdl := drop_len HRT.out.up (List.mem_map.2 ⟨(k, v), HKQ.out, rfl⟩)
            have hdn := drop_not (l := q) k
            have hdu := (ris_dropS HRQ.out k).up
            obtain ⟨qd, hqd⟩ : ∃ x, dropS q k = x := ⟨_, rfl⟩
            rw [hqd] at htD hdl hdn hdu
            obtain ⟨aKD, cD, cKD, rfl, hcD⟩ := htD.hk.form
            obtain ⟨aVD, nVD, cVD, rfl, -⟩ := htD.hv.form
            have hbE := bel_alloc wD (.cells #[.int .i64 L, .slice aKD cD cKD, .slice aVD nVD cVD] 26)
            have HBE := hide (BoxN.new 26 wD L (.slice aKD cD cKD) (.slice aVD nVD cVD))
            have HIE := hide (htD.ints.1.below hbE)
            have HBD := hide (nextB hbD hbE)
            have HDU := hide (And.intro hdu (And.intro hdn hdl))
            have HQD := hide hqd
            have HCD := hide hcD
            obtain ⟨z0, z1, z2⟩ := HBE.out.cells
            clear htD hbD hdl hdn hdu hbE hqd hcD
            go_wp2_with fail
            clear z0 z1 z2
            refine (find_any L HIE.out HDU.out.1 (by rw [List.length_map]; have h1 := HDU.out.2.2; have h2 := HRT.out.few; rw [List.length_map] at h2; omega) k ⟨_, _, _, rfl⟩).mono ?_
            rintro e wI ⟨⟨at3, ex3, rfl, hfd⟩, hbI⟩
            obtain rfl := found_none HDU.out.2.1 hfd
            obtain ⟨z0, z1, z2⟩ := (HBE.out.below hbI).cells
            obtain ⟨y0, y1, y2⟩ := (HBX3.out.below (nextB HBD.out hbI)).cells
            have HBZ := hide (nextB HBW.out (nextB HBH.out (nextB HBD.out hbI)))
            have hcc : (cD : Int) = (cqT : Int) - 1 := by
              have h1 := HDU.out.2.2
              have h2 := HCD.out.out
              have h3 := HCT.out.out
              rw [List.length_map] at h2 h3
              omega
            have eq1 : ((cD : Int) == (cqT : Int) - 1) = true := by simp; omega
            have ew : IntKind.i64.wrap ((cqT : Int) - 1) = (cqT : Int) - 1 := IntWalk.i64_in _ ⟨by have := HCT.out.out; omega, by have h3 := HCT.out.out; have h4 := HRT.out.few; omega⟩
            clear hfd hbI hcc
            go_wp2_with (go_at_call 8; refine (awake_any _).mono ?_; rintro e wJ ⟨rfl, hbJ⟩; have HBJ := hide (nextB HBZ.out hbJ); clear hbJ)
            go_ret
            exact ⟨rfl, HBJ.out⟩
    | succ m =>
      have hlt : (j : Int) < (nn : Int) := by omega
      have hb0 : (0 : Int) ≤ (j : Int) := by omega
      obtain ⟨⟨L', q⟩, hq⟩ : ∃ nd, ns[j]? = some nd := ⟨ns[j]'(by rw [← HNN.out]; omega), by rw [List.getElem?_eq_getElem]⟩
      obtain ⟨hL', hrq, hq1, hq7⟩ := HBK.out.rt j _ hq
      simp only at hL' hrq hq1 hq7
      have hL2 := hL'.symm
      subst hL2
      clear hL'
      obtain ⟨kq, vq, c0, c1, c2, hkq, hvq⟩ := HNAT.out j _ hq
      simp only at c0 hkq hvq
      replace c0 := cell_bel HBR.out c0
      replace c1 := cell_bel HBR.out c1
      replace c2 := cell_bel HBR.out c2
      obtain ⟨aq, ckq, gq, oq, hkqe, hA1, hA2⟩ := (hkq.below HBR.out).at_
      obtain ⟨au, cuq, gu, ou, hvqe, hU1, hU2⟩ := (hvq.below HBR.out).at_
      obtain ⟨cq, hcq⟩ : ∃ c, q.length = c := ⟨_, rfl⟩
      rw [List.length_map, hcq] at hkqe hvqe hA1 hU1
      rw [hcq] at hq1 hq7
      obtain rfl := hA1 (by omega)
      obtain rfl := hU1 (by omega)
      have HQ := hide hq
      have HCQ := hide hcq
      have HRQ : Hid (Rt L (q.map Prod.fst) (q.map Prod.snd)) := hide (rt_of HR.out.lev hrq (by omega) (by omega))
      have HRS := hide hrq
      obtain ⟨bx, hbx⟩ : ∃ b, wr.heap.size = b := ⟨_, rfl⟩
      have HBX := hide hbx
      have hbB := bel_alloc wr (.cells #[.int .i64 L, kq, vq] 26)
      have HXB := hide (BoxN.new 26 wr L kq vq)
      have HIQ := hide (And.intro (hkq.below (nextB HBR.out hbB)) (hvq.below (nextB HBR.out hbB)))
      have HBN := hide (nextB HBR.out hbB)
      have HA2 := hide (fun i k' hi => cell_bel hbB (hA2 i k' hi))
      have HU2 := hide (fun i k' hi => cell_bel hbB (hU2 i k' hi))
      have HSB := hide (below_drew0 (wr.alloc (.cells #[.int .i64 L, kq, vq] 26)))
      subst hkqe hvqe
      clear hq hrq hkq hvq hA1 hU1 hA2 hU2 hcq hbx hbB
      go_wp2_with fail
      clear c0 c1 c2
      obtain ⟨wB, hwB⟩ : ∃ x, wr.alloc (.cells #[.int .i64 L, .slice (some ⟨gq, oq, none⟩) cq ckq, .slice (some ⟨gu, ou, none⟩) cq cuq] 26) = x := ⟨_, rfl⟩
      simp only [hwB, HBX.out] at HXB HIQ HBN HA2 HU2 HSB ⊢
      clear hwB
      obtain ⟨X0, X1, X2⟩ := HXB.out.cells
      have HREST : True := trivial
      cases j with
      | zero =>
        have hgt : decide ((0 : Int) < ((0 : Nat) : Int)) = false := by simp
        refine wp_region_held_drew (S := Below wB.heap.size wB) (by kernel_rfl) HSB.out (fun hS => ?_)
        refine take_want 0 (some 62) (.agg #[.int .i64 L, .slice (some ⟨gq, oq, none⟩) cq ckq, .slice (some ⟨gu, ou, none⟩) cq cuq]) rfl rfl rfl (by kernel_rfl) (by kernel_rfl) (by kernel_rfl) (fun _ _ _ h => h) (fun wx hx => exec_load rfl (load_nodeP ⟨cell_bel hx X0, cell_bel hx X1, cell_bel hx X2⟩) rfl) hS ?_
        simp only [Act.put, List.setIfInBounds_toArray, List.set_cons_zero, List.set_cons_succ]
        refine call_want 1 (some 63) rfl rfl rfl (by kernel_rfl) (exec_call1 rfl enterCheck rfl rfl) ((check_ok (HIQ.out.1.below hS) (HIQ.out.2.below hS) HRQ.out).mono ?_)
        rintro e' w9 ⟨rfl, hb9⟩
        have hS9 := nextB hS hb9
        refine ⟨_, rfl, hS9, ?_⟩
        simp only [Act.put, List.setIfInBounds_toArray, List.set_cons_zero, List.set_cons_succ]
        refine take_want 2 (some 64) (.bool false) rfl rfl rfl (by kernel_rfl) (by kernel_rfl) (by kernel_rfl) (fun _ _ _ h => h) (fun wx hx => exec_neqNil rfl rfl rfl) hS9 ?_
        simp only [Act.put, List.setIfInBounds_toArray, List.set_cons_zero, List.set_cons_succ]
        refine take_want 3 (some 65) (.bool false) rfl rfl rfl (by kernel_rfl) (by kernel_rfl) (by kernel_rfl) (fun _ _ _ h => h) (fun wx hx => exec_move rfl rfl) hS9 ?_
        simp only [Act.put, List.setIfInBounds_toArray, List.set_cons_zero, List.set_cons_succ]
        refine take_want 4 (some 66) (.int .i64 ((0 : Nat) : Int)) rfl rfl rfl (by kernel_rfl) (by kernel_rfl) (by kernel_rfl) (fun _ _ _ h => h) (fun wx hx => exec_move rfl rfl) hS9 ?_
        simp only [Act.put, List.setIfInBounds_toArray, List.set_cons_zero, List.set_cons_succ]
        refine take_want 5 (some 67) (.bool false) rfl rfl rfl (by kernel_rfl) (by kernel_rfl) (by kernel_rfl) (fun _ _ _ h => h) (fun wx hx => exec_gtr rfl rfl rfl hgt) hS9 ?_
        simp only [Act.put, List.setIfInBounds_toArray, List.set_cons_zero, List.set_cons_succ]
        refine take_want 6 (some 68) (.bool false) rfl rfl rfl (by kernel_rfl) (by kernel_rfl) (by kernel_rfl) (fun _ _ _ h => h) (fun wx hx => exec_move rfl rfl) hS9 ?_
        simp only [Act.put, List.setIfInBounds_toArray, List.set_cons_zero, List.set_cons_succ]
        refine skip_want 7 (some 69) rfl rfl rfl (by kernel_rfl) (by kernel_rfl) (by kernel_rfl) (fun _ _ _ h => h) hS9 ?_
        simp only [Act.put, List.setIfInBounds_toArray, List.set_cons_zero, List.set_cons_succ]
        refine skip_want 8 (some 70) rfl rfl rfl (by kernel_rfl) (by kernel_rfl) (by kernel_rfl) (fun _ _ _ h => h) hS9 ?_
        simp only [Act.put, List.setIfInBounds_toArray, List.set_cons_zero, List.set_cons_succ]
        refine skip_want 9 (some 71) rfl rfl rfl (by kernel_rfl) (by kernel_rfl) (by kernel_rfl) (fun _ _ _ h => h) hS9 ?_
        simp only [Act.put, List.setIfInBounds_toArray, List.set_cons_zero, List.set_cons_succ]
        refine skip_want 10 (some 72) rfl rfl rfl (by kernel_rfl) (by kernel_rfl) (by kernel_rfl) (fun _ _ _ h => h) hS9 ?_
        simp only [Act.put, List.setIfInBounds_toArray, List.set_cons_zero, List.set_cons_succ]
        refine skip_want 11 (some 73) rfl rfl rfl (by kernel_rfl) (by kernel_rfl) (by kernel_rfl) (fun _ _ _ h => h) hS9 ?_
        simp only [Act.put, List.setIfInBounds_toArray, List.set_cons_zero, List.set_cons_succ]
        refine skip_want 12 (some 74) rfl rfl rfl (by kernel_rfl) (by kernel_rfl) (by kernel_rfl) (fun _ _ _ h => h) hS9 ?_
        simp only [Act.put, List.setIfInBounds_toArray, List.set_cons_zero, List.set_cons_succ]
        refine skip_want 13 (some 75) rfl rfl rfl (by kernel_rfl) (by kernel_rfl) (by kernel_rfl) (fun _ _ _ h => h) hS9 ?_
        simp only [Act.put, List.setIfInBounds_toArray, List.set_cons_zero, List.set_cons_succ]
        refine skip_want 14 (some 76) rfl rfl rfl (by kernel_rfl) (by kernel_rfl) (by kernel_rfl) (fun _ _ _ h => h) hS9 ?_
        simp only [Act.put, List.setIfInBounds_toArray, List.set_cons_zero, List.set_cons_succ]
        refine skip_want 15 (some 77) rfl rfl rfl (by kernel_rfl) (by kernel_rfl) (by kernel_rfl) (fun _ _ _ h => h) hS9 ?_
        simp only [Act.put, List.setIfInBounds_toArray, List.set_cons_zero, List.set_cons_succ]
        refine skip_want 16 (some 78) rfl rfl rfl (by kernel_rfl) (by kernel_rfl) (by kernel_rfl) (fun _ _ _ h => h) hS9 ?_
        simp only [Act.put, List.setIfInBounds_toArray, List.set_cons_zero, List.set_cons_succ]
        refine skip_want 17 (some 79) rfl rfl rfl (by kernel_rfl) (by kernel_rfl) (by kernel_rfl) (fun _ _ _ h => h) hS9 ?_
        simp only [Act.put, List.setIfInBounds_toArray, List.set_cons_zero, List.set_cons_succ]
        refine skip_want 18 (some 80) rfl rfl rfl (by kernel_rfl) (by kernel_rfl) (by kernel_rfl) (fun _ _ _ h => h) hS9 ?_
        simp only [Act.put, List.setIfInBounds_toArray, List.set_cons_zero, List.set_cons_succ]
        refine skip_want 19 (some 81) rfl rfl rfl (by kernel_rfl) (by kernel_rfl) (by kernel_rfl) (fun _ _ _ h => h) hS9 ?_
        simp only [Act.put, List.setIfInBounds_toArray, List.set_cons_zero, List.set_cons_succ]
        refine skip_want 20 (some 82) rfl rfl rfl (by kernel_rfl) (by kernel_rfl) (by kernel_rfl) (fun _ _ _ h => h) hS9 ?_
        simp only [Act.put, List.setIfInBounds_toArray, List.set_cons_zero, List.set_cons_succ]
        refine skip_want 21 (some 83) rfl rfl rfl (by kernel_rfl) (by kernel_rfl) (by kernel_rfl) (fun _ _ _ h => h) hS9 ?_
        simp only [Act.put, List.setIfInBounds_toArray, List.set_cons_zero, List.set_cons_succ]
        refine skip_want 22 (some 84) rfl rfl rfl (by kernel_rfl) (by kernel_rfl) (by kernel_rfl) (fun _ _ _ h => h) hS9 ?_
        simp only [Act.put, List.setIfInBounds_toArray, List.set_cons_zero, List.set_cons_succ]
        refine skip_want 23 (some 85) rfl rfl rfl (by kernel_rfl) (by kernel_rfl) (by kernel_rfl) (fun _ _ _ h => h) hS9 ?_
        simp only [Act.put, List.setIfInBounds_toArray, List.set_cons_zero, List.set_cons_succ]
        refine take_want 24 (some 86) (.bool false) rfl rfl rfl (by kernel_rfl) (by kernel_rfl) (by kernel_rfl) (fun _ _ _ h => h) (fun wx hx => exec_pickF rfl rfl rfl) hS9 ?_
        simp only [Act.put, List.setIfInBounds_toArray, List.set_cons_zero, List.set_cons_succ]
        refine take_want 25 (some 87) (.bool false) rfl rfl rfl (by kernel_rfl) (by kernel_rfl) (by kernel_rfl) (fun _ _ _ h => h) (fun wx hx => exec_pickF rfl rfl rfl) hS9 ?_
        simp only [Act.put, List.setIfInBounds_toArray, List.set_cons_zero, List.set_cons_succ]
        refine wpAnyH_done (by kernel_rfl) ?_ _
        clear hgt
        obtain ⟨w5, hw5⟩ : ∃ x, w9 = x := ⟨_, rfl⟩
        simp only [hw5] at hS9 ⊢
        clear hw5 X0 X1 X2
        have HB9 := hide hS9
        clear hS hb9 hS9
        obtain ⟨y0, y1, y2⟩ := (HXB.out.below HB9.out).cells
        obtain ⟨x0, x1, x2⟩ := (HXR.out.below (nextB HBN.out HB9.out)).cells
        have ec : IntKind.i64.wrap ((cn : Int) + (cq : Int)) = ((cn + cq : Nat) : Int) := by rw [← Int.natCast_add]; exact IntWalk.i64_in _ ⟨by omega, by omega⟩
        go_wp2_with fail
        clear x0 x1 x2 y0 y1 y2 ec
        go_loopg [96] n (fun t i wr => ∃ (j2 : Nat), j2 + t = n ∧ i = .int .i64 (j2 : Int) ∧ Hid (Below wB.heap.size wB wr))
        case atStart => exact ⟨0, by omega, rfl, HB9⟩
        case round =>
          obtain ⟨j2, hj2, rfl, HBI⟩ := hrel
          cases gk with
          | zero =>
            have hnl : ¬ (j2 : Int) < (n : Int) := by omega
            have e7 : IntKind.i64.wrap (((0 : Nat) : Int) + 1) = ((0 : Nat) : Int) + 1 := IntWalk.i64_in _ ⟨by omega, by omega⟩
            go_wp2_with fail
            go_roundg m
            case measure => omega
            case rel => exact ⟨0 + 1, cn + cq, by omega, by go_num, by go_num, hide (by rw [cnt_snoc HQ.out, HC.out, HCQ.out]), by omega, hide (nextB HBN.out HBI.out)⟩
          | succ t =>
            have hlt2 : (j2 : Int) < (n : Int) := by omega
            have hb2 : (0 : Int) ≤ (j2 : Int) := by omega
            obtain ⟨old, hold⟩ : ∃ k, K[j2]? = some k := ⟨K[j2]'(by rw [HN.out]; omega), by rw [List.getElem?_eq_getElem]⟩
            obtain ⟨vo, hvo⟩ : ∃ k, V[j2]? = some k := ⟨V[j2]'(by rw [HR.out.same, HN.out]; omega), by rw [List.getElem?_eq_getElem]⟩
            have k1 := cell_bel (nextB HBW.out (nextB HBN.out HBI.out)) (HK2.out j2 old hold)
            have HVO := hide (cell_bel (nextB HBW.out (nextB HBN.out HBI.out)) (HV2.out j2 vo hvo))
            have HZ : Hid ((old, vo) ∈ K.zip V) := hide (List.mem_of_getElem? (i := j2) (by rw [List.getElem?_zip_eq_some]; exact ⟨hold, hvo⟩))
            obtain ⟨y0, y1, y2⟩ := (HXB.out.below HBI.out).cells
            have e7 : IntKind.i64.wrap ((j2 : Int) + 1) = (j2 : Int) + 1 := IntWalk.i64_in _ ⟨by omega, by omega⟩
            have HE7 := hide e7
            clear hold hvo e7
            go_wp2_with fail
            clear k1 y0 y1 y2
            refine (find_any L (HIQ.out.1.below HBI.out) HRQ.out.up (by have := HRQ.out.few; omega) old ⟨_, _, _, rfl⟩).mono ?_
            rintro e w6 ⟨⟨at9, ex, rfl, hfd⟩, hb6⟩
            have HB6 := hide (nextB HBI.out hb6)
            have HSB6 := hide (below_drew0 w6)
            obtain ⟨A0, A1, A2⟩ := (HXR.out.below (nextB HBN.out HB6.out)).cells
            obtain ⟨X0, X1, X2⟩ := (HXB.out.below HB6.out).cells
            have HCELLS := hide (And.intro A2 X2)
            have HCV := hide (cell_bel hb6 HVO.out)
            have HJ2 := hide hj2
            have hor : (ex = false) ∨ (ex = true ∧ old = k) ∨ (ex = true ∧ old ≠ k ∧ ∃ mi : Nat, at9 = (mi : Int) ∧ (q.map Prod.snd)[mi]? = some vo) := by
              obtain ⟨mi, -, ⟨rfl, hmi, rfl⟩ | ⟨rfl, hmi, rfl⟩⟩ := hfd
              · by_cases hok : old = k
                · exact .inr (.inl ⟨rfl, hok⟩)
                · obtain ⟨u, hu⟩ := key_at.1 hmi
                  have := HBK.out.old _ _ HQ.out old vo u HZ.out (List.mem_of_getElem? hu) hok
                  subst this
                  exact .inr (.inr ⟨rfl, hok, mi, rfl, by rw [List.getElem?_map, hu]; rfl⟩)
              · exact .inl rfl
            clear hfd hb6 A0 A1 A2 X0 X1 X2
            rcases hor with rfl | ⟨rfl, rfl⟩ | ⟨rfl, hok0, m1, rfl, hmi⟩
            · go_wp2_with fail
              refine wp_region_held_drew (S := Below w6.heap.size w6) (by kernel_rfl) HSB6.out (fun hS => ?_)
              refine take_want 0 (some 107) (.bool false) rfl rfl rfl (by kernel_rfl) (by kernel_rfl) (by kernel_rfl) (fun _ _ _ h => h) (fun wx hx => exec_move rfl rfl) hS ?_
              simp only [Act.put, List.setIfInBounds_toArray, List.set_cons_zero, List.set_cons_succ]
              refine take_want 1 (some 108) (.bool false) rfl rfl rfl (by kernel_rfl) (by kernel_rfl) (by kernel_rfl) (fun _ _ _ h => h) (fun wx hx => exec_move rfl rfl) hS ?_
              simp only [Act.put, List.setIfInBounds_toArray, List.set_cons_zero, List.set_cons_succ]
              refine skip_want 2 (some 109) rfl rfl rfl (by kernel_rfl) (by kernel_rfl) (by kernel_rfl) (fun _ _ _ h => h) hS ?_
              simp only [Act.put, List.setIfInBounds_toArray, List.set_cons_zero, List.set_cons_succ]
              refine skip_want 3 (some 110) rfl rfl rfl (by kernel_rfl) (by kernel_rfl) (by kernel_rfl) (fun _ _ _ h => h) hS ?_
              simp only [Act.put, List.setIfInBounds_toArray, List.set_cons_zero, List.set_cons_succ]
              refine skip_want 4 (some 111) rfl rfl rfl (by kernel_rfl) (by kernel_rfl) (by kernel_rfl) (fun _ _ _ h => h) hS ?_
              simp only [Act.put, List.setIfInBounds_toArray, List.set_cons_zero, List.set_cons_succ]
              refine take_want 5 (some 112) (.bool false) rfl rfl rfl (by kernel_rfl) (by kernel_rfl) (by kernel_rfl) (fun _ _ _ h => h) (fun wx hx => exec_pickF rfl rfl rfl) hS ?_
              simp only [Act.put, List.setIfInBounds_toArray, List.set_cons_zero, List.set_cons_succ]
              refine take_want 6 (some 113) (.bool false) rfl rfl rfl (by kernel_rfl) (by kernel_rfl) (by kernel_rfl) (fun _ _ _ h => h) (fun wx hx => exec_move rfl rfl) hS ?_
              simp only [Act.put, List.setIfInBounds_toArray, List.set_cons_zero, List.set_cons_succ]
              refine skip_want 7 (some 114) rfl rfl rfl (by kernel_rfl) (by kernel_rfl) (by kernel_rfl) (fun _ _ _ h => h) hS ?_
              simp only [Act.put, List.setIfInBounds_toArray, List.set_cons_zero, List.set_cons_succ]
              refine skip_want 8 (some 115) rfl rfl rfl (by kernel_rfl) (by kernel_rfl) (by kernel_rfl) (fun _ _ _ h => h) hS ?_
              simp only [Act.put, List.setIfInBounds_toArray, List.set_cons_zero, List.set_cons_succ]
              refine skip_want 9 (some 116) rfl rfl rfl (by kernel_rfl) (by kernel_rfl) (by kernel_rfl) (fun _ _ _ h => h) hS ?_
              simp only [Act.put, List.setIfInBounds_toArray, List.set_cons_zero, List.set_cons_succ]
              refine skip_want 10 (some 117) rfl rfl rfl (by kernel_rfl) (by kernel_rfl) (by kernel_rfl) (fun _ _ _ h => h) hS ?_
              simp only [Act.put, List.setIfInBounds_toArray, List.set_cons_zero, List.set_cons_succ]
              refine skip_want 11 (some 118) rfl rfl rfl (by kernel_rfl) (by kernel_rfl) (by kernel_rfl) (fun _ _ _ h => h) hS ?_
              simp only [Act.put, List.setIfInBounds_toArray, List.set_cons_zero, List.set_cons_succ]
              refine skip_want 12 (some 119) rfl rfl rfl (by kernel_rfl) (by kernel_rfl) (by kernel_rfl) (fun _ _ _ h => h) hS ?_
              simp only [Act.put, List.setIfInBounds_toArray, List.set_cons_zero, List.set_cons_succ]
              refine skip_want 13 (some 120) rfl rfl rfl (by kernel_rfl) (by kernel_rfl) (by kernel_rfl) (fun _ _ _ h => h) hS ?_
              simp only [Act.put, List.setIfInBounds_toArray, List.set_cons_zero, List.set_cons_succ]
              refine skip_want 14 (some 121) rfl rfl rfl (by kernel_rfl) (by kernel_rfl) (by kernel_rfl) (fun _ _ _ h => h) hS ?_
              simp only [Act.put, List.setIfInBounds_toArray, List.set_cons_zero, List.set_cons_succ]
              refine skip_want 15 (some 122) rfl rfl rfl (by kernel_rfl) (by kernel_rfl) (by kernel_rfl) (fun _ _ _ h => h) hS ?_
              simp only [Act.put, List.setIfInBounds_toArray, List.set_cons_zero, List.set_cons_succ]
              refine skip_want 16 (some 123) rfl rfl rfl (by kernel_rfl) (by kernel_rfl) (by kernel_rfl) (fun _ _ _ h => h) hS ?_
              simp only [Act.put, List.setIfInBounds_toArray, List.set_cons_zero, List.set_cons_succ]
              refine skip_want 17 (some 124) rfl rfl rfl (by kernel_rfl) (by kernel_rfl) (by kernel_rfl) (fun _ _ _ h => h) hS ?_
              simp only [Act.put, List.setIfInBounds_toArray, List.set_cons_zero, List.set_cons_succ]
              refine take_want 18 (some 125) (.bool false) rfl rfl rfl (by kernel_rfl) (by kernel_rfl) (by kernel_rfl) (fun _ _ _ h => h) (fun wx hx => exec_pickF rfl rfl rfl) hS ?_
              simp only [Act.put, List.setIfInBounds_toArray, List.set_cons_zero, List.set_cons_succ]
              refine wpAnyH_done (by kernel_rfl) ?_ _
              have e7 := HE7.out
              go_wp2_with fail
              go_roundg t
              case measure => omega
              case rel => exact ⟨j2 + 1, by omega, by go_num, hide (nextB HB6.out hS)⟩
            · go_wp2_with fail
              have hok : decide (old ≠ old) = false := by simp
              refine wp_region_held_drew (S := Below w6.heap.size w6) (by kernel_rfl) HSB6.out (fun hS => ?_)
              refine take_want 0 (some 107) (.bool true) rfl rfl rfl (by kernel_rfl) (by kernel_rfl) (by kernel_rfl) (fun _ _ _ h => h) (fun wx hx => exec_move rfl rfl) hS ?_
              simp only [Act.put, List.setIfInBounds_toArray, List.set_cons_zero, List.set_cons_succ]
              refine take_want 1 (some 108) (.bool true) rfl rfl rfl (by kernel_rfl) (by kernel_rfl) (by kernel_rfl) (fun _ _ _ h => h) (fun wx hx => exec_move rfl rfl) hS ?_
              simp only [Act.put, List.setIfInBounds_toArray, List.set_cons_zero, List.set_cons_succ]
              refine take_want 2 (some 109) (.int .i64 old) rfl rfl rfl (by kernel_rfl) (by kernel_rfl) (by kernel_rfl) (fun _ _ _ h => h) (fun wx hx => exec_move rfl rfl) hS ?_
              simp only [Act.put, List.setIfInBounds_toArray, List.set_cons_zero, List.set_cons_succ]
              refine take_want 3 (some 110) (.int .i64 old) rfl rfl rfl (by kernel_rfl) (by kernel_rfl) (by kernel_rfl) (fun _ _ _ h => h) (fun wx hx => exec_move rfl rfl) hS ?_
              simp only [Act.put, List.setIfInBounds_toArray, List.set_cons_zero, List.set_cons_succ]
              refine take_want 4 (some 111) (.bool false) rfl rfl rfl (by kernel_rfl) (by kernel_rfl) (by kernel_rfl) (fun _ _ _ h => h) (fun wx hx => exec_neq rfl rfl rfl hok) hS ?_
              simp only [Act.put, List.setIfInBounds_toArray, List.set_cons_zero, List.set_cons_succ]
              refine take_want 5 (some 112) (.bool false) rfl rfl rfl (by kernel_rfl) (by kernel_rfl) (by kernel_rfl) (fun _ _ _ h => h) (fun wx hx => exec_pickT rfl rfl rfl) hS ?_
              simp only [Act.put, List.setIfInBounds_toArray, List.set_cons_zero, List.set_cons_succ]
              refine take_want 6 (some 113) (.bool false) rfl rfl rfl (by kernel_rfl) (by kernel_rfl) (by kernel_rfl) (fun _ _ _ h => h) (fun wx hx => exec_move rfl rfl) hS ?_
              simp only [Act.put, List.setIfInBounds_toArray, List.set_cons_zero, List.set_cons_succ]
              refine skip_want 7 (some 114) rfl rfl rfl (by kernel_rfl) (by kernel_rfl) (by kernel_rfl) (fun _ _ _ h => h) hS ?_
              simp only [Act.put, List.setIfInBounds_toArray, List.set_cons_zero, List.set_cons_succ]
              refine skip_want 8 (some 115) rfl rfl rfl (by kernel_rfl) (by kernel_rfl) (by kernel_rfl) (fun _ _ _ h => h) hS ?_
              simp only [Act.put, List.setIfInBounds_toArray, List.set_cons_zero, List.set_cons_succ]
              refine skip_want 9 (some 116) rfl rfl rfl (by kernel_rfl) (by kernel_rfl) (by kernel_rfl) (fun _ _ _ h => h) hS ?_
              simp only [Act.put, List.setIfInBounds_toArray, List.set_cons_zero, List.set_cons_succ]
              refine skip_want 10 (some 117) rfl rfl rfl (by kernel_rfl) (by kernel_rfl) (by kernel_rfl) (fun _ _ _ h => h) hS ?_
              simp only [Act.put, List.setIfInBounds_toArray, List.set_cons_zero, List.set_cons_succ]
              refine skip_want 11 (some 118) rfl rfl rfl (by kernel_rfl) (by kernel_rfl) (by kernel_rfl) (fun _ _ _ h => h) hS ?_
              simp only [Act.put, List.setIfInBounds_toArray, List.set_cons_zero, List.set_cons_succ]
              refine skip_want 12 (some 119) rfl rfl rfl (by kernel_rfl) (by kernel_rfl) (by kernel_rfl) (fun _ _ _ h => h) hS ?_
              simp only [Act.put, List.setIfInBounds_toArray, List.set_cons_zero, List.set_cons_succ]
              refine skip_want 13 (some 120) rfl rfl rfl (by kernel_rfl) (by kernel_rfl) (by kernel_rfl) (fun _ _ _ h => h) hS ?_
              simp only [Act.put, List.setIfInBounds_toArray, List.set_cons_zero, List.set_cons_succ]
              refine skip_want 14 (some 121) rfl rfl rfl (by kernel_rfl) (by kernel_rfl) (by kernel_rfl) (fun _ _ _ h => h) hS ?_
              simp only [Act.put, List.setIfInBounds_toArray, List.set_cons_zero, List.set_cons_succ]
              refine skip_want 15 (some 122) rfl rfl rfl (by kernel_rfl) (by kernel_rfl) (by kernel_rfl) (fun _ _ _ h => h) hS ?_
              simp only [Act.put, List.setIfInBounds_toArray, List.set_cons_zero, List.set_cons_succ]
              refine skip_want 16 (some 123) rfl rfl rfl (by kernel_rfl) (by kernel_rfl) (by kernel_rfl) (fun _ _ _ h => h) hS ?_
              simp only [Act.put, List.setIfInBounds_toArray, List.set_cons_zero, List.set_cons_succ]
              refine skip_want 17 (some 124) rfl rfl rfl (by kernel_rfl) (by kernel_rfl) (by kernel_rfl) (fun _ _ _ h => h) hS ?_
              simp only [Act.put, List.setIfInBounds_toArray, List.set_cons_zero, List.set_cons_succ]
              refine take_want 18 (some 125) (.bool false) rfl rfl rfl (by kernel_rfl) (by kernel_rfl) (by kernel_rfl) (fun _ _ _ h => h) (fun wx hx => exec_pickF rfl rfl rfl) hS ?_
              simp only [Act.put, List.setIfInBounds_toArray, List.set_cons_zero, List.set_cons_succ]
              refine wpAnyH_done (by kernel_rfl) ?_ _
              clear hok
              have e7 := HE7.out
              go_wp2_with fail
              go_roundg t
              case measure => omega
              case rel => exact ⟨j2 + 1, by omega, by go_num, hide (nextB HB6.out hS)⟩
            · have HMI := hide hmi
              have HOK := hide hok0
              clear hmi hok0
              go_wp2_with fail
              have hok : decide (old ≠ k) = true := decide_eq_true HOK.out
              obtain ⟨A2, X2⟩ := HCELLS.out
              have CU := cell_bel HB6.out (HU2.out m1 vo HMI.out)
              have CV := HCV.out
              have hmq : m1 < cq := by have := (List.getElem?_eq_some_iff.1 HMI.out).1; rw [List.length_map, HCQ.out] at this; exact this
              have hjn : j2 < n := by have := HJ2.out; omega
              refine wp_region_held_drew (S := Below w6.heap.size w6) (by kernel_rfl) HSB6.out (fun hS => ?_)
              refine take_want 0 (some 107) (.bool true) rfl rfl rfl (by kernel_rfl) (by kernel_rfl) (by kernel_rfl) (fun _ _ _ h => h) (fun wx hx => exec_move rfl rfl) hS ?_
              simp only [Act.put, List.setIfInBounds_toArray, List.set_cons_zero, List.set_cons_succ]
              refine take_want 1 (some 108) (.bool true) rfl rfl rfl (by kernel_rfl) (by kernel_rfl) (by kernel_rfl) (fun _ _ _ h => h) (fun wx hx => exec_move rfl rfl) hS ?_
              simp only [Act.put, List.setIfInBounds_toArray, List.set_cons_zero, List.set_cons_succ]
              refine take_want 2 (some 109) (.int .i64 old) rfl rfl rfl (by kernel_rfl) (by kernel_rfl) (by kernel_rfl) (fun _ _ _ h => h) (fun wx hx => exec_move rfl rfl) hS ?_
              simp only [Act.put, List.setIfInBounds_toArray, List.set_cons_zero, List.set_cons_succ]
              refine take_want 3 (some 110) (.int .i64 k) rfl rfl rfl (by kernel_rfl) (by kernel_rfl) (by kernel_rfl) (fun _ _ _ h => h) (fun wx hx => exec_move rfl rfl) hS ?_
              simp only [Act.put, List.setIfInBounds_toArray, List.set_cons_zero, List.set_cons_succ]
              refine take_want 4 (some 111) (.bool true) rfl rfl rfl (by kernel_rfl) (by kernel_rfl) (by kernel_rfl) (fun _ _ _ h => h) (fun wx hx => exec_neq rfl rfl rfl hok) hS ?_
              simp only [Act.put, List.setIfInBounds_toArray, List.set_cons_zero, List.set_cons_succ]
              refine take_want 5 (some 112) (.bool true) rfl rfl rfl (by kernel_rfl) (by kernel_rfl) (by kernel_rfl) (fun _ _ _ h => h) (fun wx hx => exec_pickT rfl rfl rfl) hS ?_
              simp only [Act.put, List.setIfInBounds_toArray, List.set_cons_zero, List.set_cons_succ]
              refine take_want 6 (some 113) (.bool true) rfl rfl rfl (by kernel_rfl) (by kernel_rfl) (by kernel_rfl) (fun _ _ _ h => h) (fun wx hx => exec_move rfl rfl) hS ?_
              simp only [Act.put, List.setIfInBounds_toArray, List.set_cons_zero, List.set_cons_succ]
              refine take_want 7 (some 114) (.pointer (some ⟨bx, 0 + 2, none⟩)) rfl rfl rfl (by kernel_rfl) (by kernel_rfl) (by kernel_rfl) (fun _ _ _ h => h) (fun wx hx => exec_field rfl (fldN2 _ _ wx) rfl) hS ?_
              simp only [Act.put, List.setIfInBounds_toArray, List.set_cons_zero, List.set_cons_succ]
              refine take_want 8 (some 115) (.slice (some ⟨gu, ou, none⟩) cq cuq) rfl rfl rfl (by kernel_rfl) (by kernel_rfl) (by kernel_rfl) (fun _ _ _ h => h) (fun wx hx => exec_load rfl (load_intsP (cell_bel hx X2)) rfl) hS ?_
              simp only [Act.put, List.setIfInBounds_toArray, List.set_cons_zero, List.set_cons_succ]
              refine take_want 9 (some 116) (.int .i64 (m1 : Int)) rfl rfl rfl (by kernel_rfl) (by kernel_rfl) (by kernel_rfl) (fun _ _ _ h => h) (fun wx hx => exec_move rfl rfl) hS ?_
              simp only [Act.put, List.setIfInBounds_toArray, List.set_cons_zero, List.set_cons_succ]
              refine take_want 10 (some 117) (.pointer (some ⟨gu, ou + m1, none⟩)) rfl rfl rfl (by kernel_rfl) (by kernel_rfl) (by kernel_rfl) (fun _ _ _ h => h) (fun wx hx => exec_index rfl (index_ints (i := m1) hmq) rfl rfl) hS ?_
              simp only [Act.put, List.setIfInBounds_toArray, List.set_cons_zero, List.set_cons_succ]
              refine take_want 11 (some 118) (.int .i64 vo) rfl rfl rfl (by kernel_rfl) (by kernel_rfl) (by kernel_rfl) (fun _ _ _ h => h) (fun wx hx => exec_load rfl (load_intP (cell_bel hx CU)) rfl) hS ?_
              simp only [Act.put, List.setIfInBounds_toArray, List.set_cons_zero, List.set_cons_succ]
              refine take_want 12 (some 119) (.pointer (some ⟨w.heap.size, 0 + 2, none⟩)) rfl rfl rfl (by kernel_rfl) (by kernel_rfl) (by kernel_rfl) (fun _ _ _ h => h) (fun wx hx => exec_field rfl (fldR2 _ _ wx) rfl) hS ?_
              simp only [Act.put, List.setIfInBounds_toArray, List.set_cons_zero, List.set_cons_succ]
              refine take_want 13 (some 120) (.slice (some ⟨gV, oV, none⟩) n cV) rfl rfl rfl (by kernel_rfl) (by kernel_rfl) (by kernel_rfl) (fun _ _ _ h => h) (fun wx hx => exec_load rfl (load_intsP (cell_bel hx A2)) rfl) hS ?_
              simp only [Act.put, List.setIfInBounds_toArray, List.set_cons_zero, List.set_cons_succ]
              refine take_want 14 (some 121) (.int .i64 (j2 : Int)) rfl rfl rfl (by kernel_rfl) (by kernel_rfl) (by kernel_rfl) (fun _ _ _ h => h) (fun wx hx => exec_move rfl rfl) hS ?_
              simp only [Act.put, List.setIfInBounds_toArray, List.set_cons_zero, List.set_cons_succ]
              refine take_want 15 (some 122) (.pointer (some ⟨gV, oV + j2, none⟩)) rfl rfl rfl (by kernel_rfl) (by kernel_rfl) (by kernel_rfl) (fun _ _ _ h => h) (fun wx hx => exec_index rfl (index_ints (i := j2) hjn) rfl rfl) hS ?_
              simp only [Act.put, List.setIfInBounds_toArray, List.set_cons_zero, List.set_cons_succ]
              refine take_want 16 (some 123) (.int .i64 vo) rfl rfl rfl (by kernel_rfl) (by kernel_rfl) (by kernel_rfl) (fun _ _ _ h => h) (fun wx hx => exec_load rfl (load_intP (cell_bel hx CV)) rfl) hS ?_
              simp only [Act.put, List.setIfInBounds_toArray, List.set_cons_zero, List.set_cons_succ]
              refine take_want 17 (some 124) (.bool false) rfl rfl rfl (by kernel_rfl) (by kernel_rfl) (by kernel_rfl) (fun _ _ _ h => h) (fun wx hx => exec_neq rfl rfl rfl (decide_eq_false (by simp))) hS ?_
              simp only [Act.put, List.setIfInBounds_toArray, List.set_cons_zero, List.set_cons_succ]
              refine take_want 18 (some 125) (.bool false) rfl rfl rfl (by kernel_rfl) (by kernel_rfl) (by kernel_rfl) (fun _ _ _ h => h) (fun wx hx => exec_pickT rfl rfl rfl) hS ?_
              simp only [Act.put, List.setIfInBounds_toArray, List.set_cons_zero, List.set_cons_succ]
              refine wpAnyH_done (by kernel_rfl) ?_ _
              clear hok A2 X2 CU CV hmq hjn
              have e7 := HE7.out
              go_wp2_with fail
              go_roundg t
              case measure => omega
              case rel => exact ⟨j2 + 1, by omega, by go_num, hide (nextB HB6.out hS)⟩
      | succ j =>
        obtain rfl : j = 0 := by omega
        obtain ⟨⟨L0, q0⟩, hq0⟩ : ∃ nd, ns[0]? = some nd := ⟨ns[0]'(by rw [← HNN.out]; omega), by rw [List.getElem?_eq_getElem]⟩
        obtain ⟨-, hrz, hz1, hz7⟩ := HBK.out.rt 0 _ hq0
        have hord := HBK.out.ord _ _ hq0 HQ.out
        obtain ⟨kz0, vz0, z0, z1, z2, hkz, -⟩ := HNAT.out 0 _ hq0
        simp only [Nat.zero_mul, Nat.zero_add] at hrz hz1 hz7 hord z0 z1 z2 hkz
        obtain ⟨az, ckz, gz, oz, rfl, hZ1, hZ2⟩ := hkz.at_
        obtain ⟨cz, hcz⟩ : ∃ c, q0.length = c := ⟨_, rfl⟩
        rw [List.length_map, hcz] at z1 hZ1
        rw [hcz] at hz1 hz7
        obtain rfl := hZ1 (by omega)
        obtain ⟨cz1, rfl⟩ : ∃ c, cz = c + 1 := ⟨cz - 1, by omega⟩
        obtain ⟨⟨kz, vz⟩, hkzl⟩ : ∃ p, q0[cz1]? = some p := ⟨q0[cz1]'(by omega), by rw [List.getElem?_eq_getElem]⟩
        obtain ⟨⟨ka, va⟩, hka⟩ : ∃ p, q[0]? = some p := ⟨q[0]'(by rw [HCQ.out]; omega), by rw [List.getElem?_eq_getElem]⟩
        have hlt3 := hord _ (List.mem_of_getElem? hkzl) _ (List.mem_of_getElem? hka)
        simp only at hlt3
        have CZ := cell_bel HBN.out (hZ2 cz1 kz (key_at.2 ⟨vz, hkzl⟩))
        have Z1 := cell_bel HBN.out z1
        have CA := HA2.out 0 ka (key_at.2 ⟨va, hka⟩)
        have hgt : decide ((0 : Int) < ((0 + 1 : Nat) : Int)) = true := by simp
        have hcz1 : ((cz1 + 1 : Nat) : Int) - 1 = (cz1 : Int) := by omega
        have hcz2 : (-9223372036854775808 : Int) ≤ (cz1 : Int) := by omega
        have hcz3 : (cz1 : Int) < 9223372036854775808 := by omega
        refine wp_region_held_drew (S := Below wB.heap.size wB) (by kernel_rfl) HSB.out (fun hS => ?_)
        refine take_want 0 (some 62) (.agg #[.int .i64 L, .slice (some ⟨gq, oq, none⟩) cq ckq, .slice (some ⟨gu, ou, none⟩) cq cuq]) rfl rfl rfl (by kernel_rfl) (by kernel_rfl) (by kernel_rfl) (fun _ _ _ h => h) (fun wx hx => exec_load rfl (load_nodeP ⟨cell_bel hx X0, cell_bel hx X1, cell_bel hx X2⟩) rfl) hS ?_
        simp only [Act.put, List.setIfInBounds_toArray, List.set_cons_zero, List.set_cons_succ]
        refine call_want 1 (some 63) rfl rfl rfl (by kernel_rfl) (exec_call1 rfl enterCheck rfl rfl) ((check_ok (HIQ.out.1.below hS) (HIQ.out.2.below hS) HRQ.out).mono ?_)
        rintro e' w9 ⟨rfl, hb9⟩
        have hS9 := nextB hS hb9
        refine ⟨_, rfl, hS9, ?_⟩
        simp only [Act.put, List.setIfInBounds_toArray, List.set_cons_zero, List.set_cons_succ]
        refine take_want 2 (some 64) (.bool false) rfl rfl rfl (by kernel_rfl) (by kernel_rfl) (by kernel_rfl) (fun _ _ _ h => h) (fun wx hx => exec_neqNil rfl rfl rfl) hS9 ?_
        simp only [Act.put, List.setIfInBounds_toArray, List.set_cons_zero, List.set_cons_succ]
        refine take_want 3 (some 65) (.bool false) rfl rfl rfl (by kernel_rfl) (by kernel_rfl) (by kernel_rfl) (fun _ _ _ h => h) (fun wx hx => exec_move rfl rfl) hS9 ?_
        simp only [Act.put, List.setIfInBounds_toArray, List.set_cons_zero, List.set_cons_succ]
        refine take_want 4 (some 66) (.int .i64 ((0 + 1 : Nat) : Int)) rfl rfl rfl (by kernel_rfl) (by kernel_rfl) (by kernel_rfl) (fun _ _ _ h => h) (fun wx hx => exec_move rfl rfl) hS9 ?_
        simp only [Act.put, List.setIfInBounds_toArray, List.set_cons_zero, List.set_cons_succ]
        refine take_want 5 (some 67) (.bool true) rfl rfl rfl (by kernel_rfl) (by kernel_rfl) (by kernel_rfl) (fun _ _ _ h => h) (fun wx hx => exec_gtr rfl rfl rfl hgt) hS9 ?_
        simp only [Act.put, List.setIfInBounds_toArray, List.set_cons_zero, List.set_cons_succ]
        refine take_want 6 (some 68) (.bool true) rfl rfl rfl (by kernel_rfl) (by kernel_rfl) (by kernel_rfl) (fun _ _ _ h => h) (fun wx hx => exec_move rfl rfl) hS9 ?_
        simp only [Act.put, List.setIfInBounds_toArray, List.set_cons_zero, List.set_cons_succ]
        refine take_want 7 (some 69) (.pointer (some ⟨bx, 0 + 1, none⟩)) rfl rfl rfl (by kernel_rfl) (by kernel_rfl) (by kernel_rfl) (fun _ _ _ h => h) (fun wx hx => exec_field rfl (fldN1 _ _ wx) rfl) hS9 ?_
        simp only [Act.put, List.setIfInBounds_toArray, List.set_cons_zero, List.set_cons_succ]
        refine take_want 8 (some 70) (.slice (some ⟨gq, oq, none⟩) cq ckq) rfl rfl rfl (by kernel_rfl) (by kernel_rfl) (by kernel_rfl) (fun _ _ _ h => h) (fun wx hx => exec_load rfl (load_intsP (cell_bel hx X1)) rfl) hS9 ?_
        simp only [Act.put, List.setIfInBounds_toArray, List.set_cons_zero, List.set_cons_succ]
        refine take_want 9 (some 71) (.pointer (some ⟨gq, oq + 0, none⟩)) rfl rfl rfl (by kernel_rfl) (by kernel_rfl) (by kernel_rfl) (fun _ _ _ h => h) (fun wx hx => exec_index rfl (index_ints (i := 0) (by omega)) rfl rfl) hS9 ?_
        simp only [Act.put, List.setIfInBounds_toArray, List.set_cons_zero, List.set_cons_succ]
        refine take_want 10 (some 72) (.int .i64 ka) rfl rfl rfl (by kernel_rfl) (by kernel_rfl) (by kernel_rfl) (fun _ _ _ h => h) (fun wx hx => exec_load rfl (load_intP (cell_bel hx CA)) rfl) hS9 ?_
        simp only [Act.put, List.setIfInBounds_toArray, List.set_cons_zero, List.set_cons_succ]
        refine take_want 11 (some 73) (.slice (some ⟨g, 0, none⟩) nn cap) rfl rfl rfl (by kernel_rfl) (by kernel_rfl) (by kernel_rfl) (fun _ _ _ h => h) (fun wx hx => exec_move rfl rfl) hS9 ?_
        simp only [Act.put, List.setIfInBounds_toArray, List.set_cons_zero, List.set_cons_succ]
        refine take_want 12 (some 74) (.pointer (some ⟨g, 0 + 0 * 3, none⟩)) rfl rfl rfl (by kernel_rfl) (by kernel_rfl) (by kernel_rfl) (fun _ _ _ h => h) (fun wx hx => exec_index rfl (index_nodes (i := 0) (by omega)) rfl rfl) hS9 ?_
        simp only [Act.put, List.setIfInBounds_toArray, List.set_cons_zero, List.set_cons_succ]
        refine take_want 13 (some 75) (.pointer (some ⟨g, 0 + 0 * 3 + 1, none⟩)) rfl rfl rfl (by kernel_rfl) (by kernel_rfl) (by kernel_rfl) (fun _ _ _ h => h) (fun wx hx => exec_field rfl (fldN1 _ _ wx) rfl) hS9 ?_
        simp only [Act.put, List.setIfInBounds_toArray, List.set_cons_zero, List.set_cons_succ]
        refine take_want 14 (some 76) (.slice (some ⟨gz, oz, none⟩) (cz1 + 1) ckz) rfl rfl rfl (by kernel_rfl) (by kernel_rfl) (by kernel_rfl) (fun _ _ _ h => h) (fun wx hx => exec_load rfl (load_intsP (cell_bel hx Z1)) rfl) hS9 ?_
        simp only [Act.put, List.setIfInBounds_toArray, List.set_cons_zero, List.set_cons_succ]
        refine take_want 15 (some 77) (.slice (some ⟨g, 0, none⟩) nn cap) rfl rfl rfl (by kernel_rfl) (by kernel_rfl) (by kernel_rfl) (fun _ _ _ h => h) (fun wx hx => exec_move rfl rfl) hS9 ?_
        simp only [Act.put, List.setIfInBounds_toArray, List.set_cons_zero, List.set_cons_succ]
        refine take_want 16 (some 78) (.pointer (some ⟨g, 0 + 0 * 3, none⟩)) rfl rfl rfl (by kernel_rfl) (by kernel_rfl) (by kernel_rfl) (fun _ _ _ h => h) (fun wx hx => exec_index rfl (index_nodes (i := 0) (by omega)) rfl rfl) hS9 ?_
        simp only [Act.put, List.setIfInBounds_toArray, List.set_cons_zero, List.set_cons_succ]
        refine take_want 17 (some 79) (.pointer (some ⟨g, 0 + 0 * 3 + 1, none⟩)) rfl rfl rfl (by kernel_rfl) (by kernel_rfl) (by kernel_rfl) (fun _ _ _ h => h) (fun wx hx => exec_field rfl (fldN1 _ _ wx) rfl) hS9 ?_
        simp only [Act.put, List.setIfInBounds_toArray, List.set_cons_zero, List.set_cons_succ]
        refine take_want 18 (some 80) (.slice (some ⟨gz, oz, none⟩) (cz1 + 1) ckz) rfl rfl rfl (by kernel_rfl) (by kernel_rfl) (by kernel_rfl) (fun _ _ _ h => h) (fun wx hx => exec_load rfl (load_intsP (cell_bel hx Z1)) rfl) hS9 ?_
        simp only [Act.put, List.setIfInBounds_toArray, List.set_cons_zero, List.set_cons_succ]
        refine take_want 19 (some 81) (.int .i64 ((cz1 + 1 : Nat) : Int)) rfl rfl rfl (by kernel_rfl) (by kernel_rfl) (by kernel_rfl) (fun _ _ _ h => h) (fun wx hx => exec_len rfl (len_ints _ _ _ _) rfl) hS9 ?_
        simp only [Act.put, List.setIfInBounds_toArray, List.set_cons_zero, List.set_cons_succ]
        refine take_want 20 (some 82) (.int .i64 (cz1 : Int)) rfl rfl rfl (by kernel_rfl) (by kernel_rfl) (by kernel_rfl) (fun _ _ _ h => h) (fun wx hx => exec_subN rfl rfl rfl hcz1 hcz2 hcz3) hS9 ?_
        simp only [Act.put, List.setIfInBounds_toArray, List.set_cons_zero, List.set_cons_succ]
        refine take_want 21 (some 83) (.pointer (some ⟨gz, oz + cz1, none⟩)) rfl rfl rfl (by kernel_rfl) (by kernel_rfl) (by kernel_rfl) (fun _ _ _ h => h) (fun wx hx => exec_index rfl (index_ints (i := cz1) (by omega)) rfl rfl) hS9 ?_
        simp only [Act.put, List.setIfInBounds_toArray, List.set_cons_zero, List.set_cons_succ]
        refine take_want 22 (some 84) (.int .i64 kz) rfl rfl rfl (by kernel_rfl) (by kernel_rfl) (by kernel_rfl) (fun _ _ _ h => h) (fun wx hx => exec_load rfl (load_intP (cell_bel hx CZ)) rfl) hS9 ?_
        simp only [Act.put, List.setIfInBounds_toArray, List.set_cons_zero, List.set_cons_succ]
        refine take_want 23 (some 85) (.bool false) rfl rfl rfl (by kernel_rfl) (by kernel_rfl) (by kernel_rfl) (fun _ _ _ h => h) (fun wx hx => exec_leq rfl rfl rfl (decide_eq_false (by omega))) hS9 ?_
        simp only [Act.put, List.setIfInBounds_toArray, List.set_cons_zero, List.set_cons_succ]
        refine take_want 24 (some 86) (.bool false) rfl rfl rfl (by kernel_rfl) (by kernel_rfl) (by kernel_rfl) (fun _ _ _ h => h) (fun wx hx => exec_pickT rfl rfl rfl) hS9 ?_
        simp only [Act.put, List.setIfInBounds_toArray, List.set_cons_zero, List.set_cons_succ]
        refine take_want 25 (some 87) (.bool false) rfl rfl rfl (by kernel_rfl) (by kernel_rfl) (by kernel_rfl) (fun _ _ _ h => h) (fun wx hx => exec_pickF rfl rfl rfl) hS9 ?_
        simp only [Act.put, List.setIfInBounds_toArray, List.set_cons_zero, List.set_cons_succ]
        refine wpAnyH_done (by kernel_rfl) ?_ _
        clear hgt hcz1 hcz2 hcz3 CZ Z1 CA hlt3 hkzl hka hcz hZ2 hkz z0 z1 z2 hrz hz1 hz7 hord hq0
        obtain ⟨w5, hw5⟩ : ∃ x, w9 = x := ⟨_, rfl⟩
        simp only [hw5] at hS9 ⊢
        clear hw5 X0 X1 X2
        have HB9 := hide hS9
        clear hS hb9 hS9
        obtain ⟨y0, y1, y2⟩ := (HXB.out.below HB9.out).cells
        obtain ⟨x0, x1, x2⟩ := (HXR.out.below (nextB HBN.out HB9.out)).cells
        have ec : IntKind.i64.wrap ((cn : Int) + (cq : Int)) = ((cn + cq : Nat) : Int) := by rw [← Int.natCast_add]; exact IntWalk.i64_in _ ⟨by omega, by omega⟩
        go_wp2_with fail
        clear x0 x1 x2 y0 y1 y2 ec
        go_loopg [96] n (fun t i wr => ∃ (j2 : Nat), j2 + t = n ∧ i = .int .i64 (j2 : Int) ∧ Hid (Below wB.heap.size wB wr))
        case atStart => exact ⟨0, by omega, rfl, HB9⟩
        case round =>
          obtain ⟨j2, hj2, rfl, HBI⟩ := hrel
          cases gk with
          | zero =>
            have hnl : ¬ (j2 : Int) < (n : Int) := by omega
            have e7 : IntKind.i64.wrap (((0 + 1 : Nat) : Int) + 1) = ((0 + 1 : Nat) : Int) + 1 := IntWalk.i64_in _ ⟨by omega, by omega⟩
            go_wp2_with fail
            go_roundg m
            case measure => omega
            case rel => exact ⟨(0 + 1) + 1, cn + cq, by omega, by go_num, by go_num, hide (by rw [cnt_snoc HQ.out, HC.out, HCQ.out]), by omega, hide (nextB HBN.out HBI.out)⟩
          | succ t =>
            have hlt2 : (j2 : Int) < (n : Int) := by omega
            have hb2 : (0 : Int) ≤ (j2 : Int) := by omega
            obtain ⟨old, hold⟩ : ∃ k, K[j2]? = some k := ⟨K[j2]'(by rw [HN.out]; omega), by rw [List.getElem?_eq_getElem]⟩
            obtain ⟨vo, hvo⟩ : ∃ k, V[j2]? = some k := ⟨V[j2]'(by rw [HR.out.same, HN.out]; omega), by rw [List.getElem?_eq_getElem]⟩
            have k1 := cell_bel (nextB HBW.out (nextB HBN.out HBI.out)) (HK2.out j2 old hold)
            have HVO := hide (cell_bel (nextB HBW.out (nextB HBN.out HBI.out)) (HV2.out j2 vo hvo))
            have HZ : Hid ((old, vo) ∈ K.zip V) := hide (List.mem_of_getElem? (i := j2) (by rw [List.getElem?_zip_eq_some]; exact ⟨hold, hvo⟩))
            obtain ⟨y0, y1, y2⟩ := (HXB.out.below HBI.out).cells
            have e7 : IntKind.i64.wrap ((j2 : Int) + 1) = (j2 : Int) + 1 := IntWalk.i64_in _ ⟨by omega, by omega⟩
            have HE7 := hide e7
            clear hold hvo e7
            go_wp2_with fail
            clear k1 y0 y1 y2
            refine (find_any L (HIQ.out.1.below HBI.out) HRQ.out.up (by have := HRQ.out.few; omega) old ⟨_, _, _, rfl⟩).mono ?_
            rintro e w6 ⟨⟨at9, ex, rfl, hfd⟩, hb6⟩
            have HB6 := hide (nextB HBI.out hb6)
            have HSB6 := hide (below_drew0 w6)
            obtain ⟨A0, A1, A2⟩ := (HXR.out.below (nextB HBN.out HB6.out)).cells
            obtain ⟨X0, X1, X2⟩ := (HXB.out.below HB6.out).cells
            have HCELLS := hide (And.intro A2 X2)
            have HCV := hide (cell_bel hb6 HVO.out)
            have HJ2 := hide hj2
            have hor : (ex = false) ∨ (ex = true ∧ old = k) ∨ (ex = true ∧ old ≠ k ∧ ∃ mi : Nat, at9 = (mi : Int) ∧ (q.map Prod.snd)[mi]? = some vo) := by
              obtain ⟨mi, -, ⟨rfl, hmi, rfl⟩ | ⟨rfl, hmi, rfl⟩⟩ := hfd
              · by_cases hok : old = k
                · exact .inr (.inl ⟨rfl, hok⟩)
                · obtain ⟨u, hu⟩ := key_at.1 hmi
                  have := HBK.out.old _ _ HQ.out old vo u HZ.out (List.mem_of_getElem? hu) hok
                  subst this
                  exact .inr (.inr ⟨rfl, hok, mi, rfl, by rw [List.getElem?_map, hu]; rfl⟩)
              · exact .inl rfl
            clear hfd hb6 A0 A1 A2 X0 X1 X2
            rcases hor with rfl | ⟨rfl, rfl⟩ | ⟨rfl, hok0, m1, rfl, hmi⟩
            · go_wp2_with fail
              refine wp_region_held_drew (S := Below w6.heap.size w6) (by kernel_rfl) HSB6.out (fun hS => ?_)
              refine take_want 0 (some 107) (.bool false) rfl rfl rfl (by kernel_rfl) (by kernel_rfl) (by kernel_rfl) (fun _ _ _ h => h) (fun wx hx => exec_move rfl rfl) hS ?_
              simp only [Act.put, List.setIfInBounds_toArray, List.set_cons_zero, List.set_cons_succ]
              refine take_want 1 (some 108) (.bool false) rfl rfl rfl (by kernel_rfl) (by kernel_rfl) (by kernel_rfl) (fun _ _ _ h => h) (fun wx hx => exec_move rfl rfl) hS ?_
              simp only [Act.put, List.setIfInBounds_toArray, List.set_cons_zero, List.set_cons_succ]
              refine skip_want 2 (some 109) rfl rfl rfl (by kernel_rfl) (by kernel_rfl) (by kernel_rfl) (fun _ _ _ h => h) hS ?_
              simp only [Act.put, List.setIfInBounds_toArray, List.set_cons_zero, List.set_cons_succ]
              refine skip_want 3 (some 110) rfl rfl rfl (by kernel_rfl) (by kernel_rfl) (by kernel_rfl) (fun _ _ _ h => h) hS ?_
              simp only [Act.put, List.setIfInBounds_toArray, List.set_cons_zero, List.set_cons_succ]
              refine skip_want 4 (some 111) rfl rfl rfl (by kernel_rfl) (by kernel_rfl) (by kernel_rfl) (fun _ _ _ h => h) hS ?_
              simp only [Act.put, List.setIfInBounds_toArray, List.set_cons_zero, List.set_cons_succ]
              refine take_want 5 (some 112) (.bool false) rfl rfl rfl (by kernel_rfl) (by kernel_rfl) (by kernel_rfl) (fun _ _ _ h => h) (fun wx hx => exec_pickF rfl rfl rfl) hS ?_
              simp only [Act.put, List.setIfInBounds_toArray, List.set_cons_zero, List.set_cons_succ]
              refine take_want 6 (some 113) (.bool false) rfl rfl rfl (by kernel_rfl) (by kernel_rfl) (by kernel_rfl) (fun _ _ _ h => h) (fun wx hx => exec_move rfl rfl) hS ?_
              simp only [Act.put, List.setIfInBounds_toArray, List.set_cons_zero, List.set_cons_succ]
              refine skip_want 7 (some 114) rfl rfl rfl (by kernel_rfl) (by kernel_rfl) (by kernel_rfl) (fun _ _ _ h => h) hS ?_
              simp only [Act.put, List.setIfInBounds_toArray, List.set_cons_zero, List.set_cons_succ]
              refine skip_want 8 (some 115) rfl rfl rfl (by kernel_rfl) (by kernel_rfl) (by kernel_rfl) (fun _ _ _ h => h) hS ?_
              simp only [Act.put, List.setIfInBounds_toArray, List.set_cons_zero, List.set_cons_succ]
              refine skip_want 9 (some 116) rfl rfl rfl (by kernel_rfl) (by kernel_rfl) (by kernel_rfl) (fun _ _ _ h => h) hS ?_
              simp only [Act.put, List.setIfInBounds_toArray, List.set_cons_zero, List.set_cons_succ]
              refine skip_want 10 (some 117) rfl rfl rfl (by kernel_rfl) (by kernel_rfl) (by kernel_rfl) (fun _ _ _ h => h) hS ?_
              simp only [Act.put, List.setIfInBounds_toArray, List.set_cons_zero, List.set_cons_succ]
              refine skip_want 11 (some 118) rfl rfl rfl (by kernel_rfl) (by kernel_rfl) (by kernel_rfl) (fun _ _ _ h => h) hS ?_
              simp only [Act.put, List.setIfInBounds_toArray, List.set_cons_zero, List.set_cons_succ]
              refine skip_want 12 (some 119) rfl rfl rfl (by kernel_rfl) (by kernel_rfl) (by kernel_rfl) (fun _ _ _ h => h) hS ?_
              simp only [Act.put, List.setIfInBounds_toArray, List.set_cons_zero, List.set_cons_succ]
              refine skip_want 13 (some 120) rfl rfl rfl (by kernel_rfl) (by kernel_rfl) (by kernel_rfl) (fun _ _ _ h => h) hS ?_
              simp only [Act.put, List.setIfInBounds_toArray, List.set_cons_zero, List.set_cons_succ]
              refine skip_want 14 (some 121) rfl rfl rfl (by kernel_rfl) (by kernel_rfl) (by kernel_rfl) (fun _ _ _ h => h) hS ?_
              simp only [Act.put, List.setIfInBounds_toArray, List.set_cons_zero, List.set_cons_succ]
              refine skip_want 15 (some 122) rfl rfl rfl (by kernel_rfl) (by kernel_rfl) (by kernel_rfl) (fun _ _ _ h => h) hS ?_
              simp only [Act.put, List.setIfInBounds_toArray, List.set_cons_zero, List.set_cons_succ]
              refine skip_want 16 (some 123) rfl rfl rfl (by kernel_rfl) (by kernel_rfl) (by kernel_rfl) (fun _ _ _ h => h) hS ?_
              simp only [Act.put, List.setIfInBounds_toArray, List.set_cons_zero, List.set_cons_succ]
              refine skip_want 17 (some 124) rfl rfl rfl (by kernel_rfl) (by kernel_rfl) (by kernel_rfl) (fun _ _ _ h => h) hS ?_
              simp only [Act.put, List.setIfInBounds_toArray, List.set_cons_zero, List.set_cons_succ]
              refine take_want 18 (some 125) (.bool false) rfl rfl rfl (by kernel_rfl) (by kernel_rfl) (by kernel_rfl) (fun _ _ _ h => h) (fun wx hx => exec_pickF rfl rfl rfl) hS ?_
              simp only [Act.put, List.setIfInBounds_toArray, List.set_cons_zero, List.set_cons_succ]
              refine wpAnyH_done (by kernel_rfl) ?_ _
              have e7 := HE7.out
              go_wp2_with fail
              go_roundg t
              case measure => omega
              case rel => exact ⟨j2 + 1, by omega, by go_num, hide (nextB HB6.out hS)⟩
            · go_wp2_with fail
              have hok : decide (old ≠ old) = false := by simp
              refine wp_region_held_drew (S := Below w6.heap.size w6) (by kernel_rfl) HSB6.out (fun hS => ?_)
              refine take_want 0 (some 107) (.bool true) rfl rfl rfl (by kernel_rfl) (by kernel_rfl) (by kernel_rfl) (fun _ _ _ h => h) (fun wx hx => exec_move rfl rfl) hS ?_
              simp only [Act.put, List.setIfInBounds_toArray, List.set_cons_zero, List.set_cons_succ]
              refine take_want 1 (some 108) (.bool true) rfl rfl rfl (by kernel_rfl) (by kernel_rfl) (by kernel_rfl) (fun _ _ _ h => h) (fun wx hx => exec_move rfl rfl) hS ?_
              simp only [Act.put, List.setIfInBounds_toArray, List.set_cons_zero, List.set_cons_succ]
              refine take_want 2 (some 109) (.int .i64 old) rfl rfl rfl (by kernel_rfl) (by kernel_rfl) (by kernel_rfl) (fun _ _ _ h => h) (fun wx hx => exec_move rfl rfl) hS ?_
              simp only [Act.put, List.setIfInBounds_toArray, List.set_cons_zero, List.set_cons_succ]
              refine take_want 3 (some 110) (.int .i64 old) rfl rfl rfl (by kernel_rfl) (by kernel_rfl) (by kernel_rfl) (fun _ _ _ h => h) (fun wx hx => exec_move rfl rfl) hS ?_
              simp only [Act.put, List.setIfInBounds_toArray, List.set_cons_zero, List.set_cons_succ]
              refine take_want 4 (some 111) (.bool false) rfl rfl rfl (by kernel_rfl) (by kernel_rfl) (by kernel_rfl) (fun _ _ _ h => h) (fun wx hx => exec_neq rfl rfl rfl hok) hS ?_
              simp only [Act.put, List.setIfInBounds_toArray, List.set_cons_zero, List.set_cons_succ]
              refine take_want 5 (some 112) (.bool false) rfl rfl rfl (by kernel_rfl) (by kernel_rfl) (by kernel_rfl) (fun _ _ _ h => h) (fun wx hx => exec_pickT rfl rfl rfl) hS ?_
              simp only [Act.put, List.setIfInBounds_toArray, List.set_cons_zero, List.set_cons_succ]
              refine take_want 6 (some 113) (.bool false) rfl rfl rfl (by kernel_rfl) (by kernel_rfl) (by kernel_rfl) (fun _ _ _ h => h) (fun wx hx => exec_move rfl rfl) hS ?_
              simp only [Act.put, List.setIfInBounds_toArray, List.set_cons_zero, List.set_cons_succ]
              refine skip_want 7 (some 114) rfl rfl rfl (by kernel_rfl) (by kernel_rfl) (by kernel_rfl) (fun _ _ _ h => h) hS ?_
              simp only [Act.put, List.setIfInBounds_toArray, List.set_cons_zero, List.set_cons_succ]
              refine skip_want 8 (some 115) rfl rfl rfl (by kernel_rfl) (by kernel_rfl) (by kernel_rfl) (fun _ _ _ h => h) hS ?_
              simp only [Act.put, List.setIfInBounds_toArray, List.set_cons_zero, List.set_cons_succ]
              refine skip_want 9 (some 116) rfl rfl rfl (by kernel_rfl) (by kernel_rfl) (by kernel_rfl) (fun _ _ _ h => h) hS ?_
              simp only [Act.put, List.setIfInBounds_toArray, List.set_cons_zero, List.set_cons_succ]
              refine skip_want 10 (some 117) rfl rfl rfl (by kernel_rfl) (by kernel_rfl) (by kernel_rfl) (fun _ _ _ h => h) hS ?_
              simp only [Act.put, List.setIfInBounds_toArray, List.set_cons_zero, List.set_cons_succ]
              refine skip_want 11 (some 118) rfl rfl rfl (by kernel_rfl) (by kernel_rfl) (by kernel_rfl) (fun _ _ _ h => h) hS ?_
              simp only [Act.put, List.setIfInBounds_toArray, List.set_cons_zero, List.set_cons_succ]
              refine skip_want 12 (some 119) rfl rfl rfl (by kernel_rfl) (by kernel_rfl) (by kernel_rfl) (fun _ _ _ h => h) hS ?_
              simp only [Act.put, List.setIfInBounds_toArray, List.set_cons_zero, List.set_cons_succ]
              refine skip_want 13 (some 120) rfl rfl rfl (by kernel_rfl) (by kernel_rfl) (by kernel_rfl) (fun _ _ _ h => h) hS ?_
              simp only [Act.put, List.setIfInBounds_toArray, List.set_cons_zero, List.set_cons_succ]
              refine skip_want 14 (some 121) rfl rfl rfl (by kernel_rfl) (by kernel_rfl) (by kernel_rfl) (fun _ _ _ h => h) hS ?_
              simp only [Act.put, List.setIfInBounds_toArray, List.set_cons_zero, List.set_cons_succ]
              refine skip_want 15 (some 122) rfl rfl rfl (by kernel_rfl) (by kernel_rfl) (by kernel_rfl) (fun _ _ _ h => h) hS ?_
              simp only [Act.put, List.setIfInBounds_toArray, List.set_cons_zero, List.set_cons_succ]
              refine skip_want 16 (some 123) rfl rfl rfl (by kernel_rfl) (by kernel_rfl) (by kernel_rfl) (fun _ _ _ h => h) hS ?_
              simp only [Act.put, List.setIfInBounds_toArray, List.set_cons_zero, List.set_cons_succ]
              refine skip_want 17 (some 124) rfl rfl rfl (by kernel_rfl) (by kernel_rfl) (by kernel_rfl) (fun _ _ _ h => h) hS ?_
              simp only [Act.put, List.setIfInBounds_toArray, List.set_cons_zero, List.set_cons_succ]
              refine take_want 18 (some 125) (.bool false) rfl rfl rfl (by kernel_rfl) (by kernel_rfl) (by kernel_rfl) (fun _ _ _ h => h) (fun wx hx => exec_pickF rfl rfl rfl) hS ?_
              simp only [Act.put, List.setIfInBounds_toArray, List.set_cons_zero, List.set_cons_succ]
              refine wpAnyH_done (by kernel_rfl) ?_ _
              clear hok
              have e7 := HE7.out
              go_wp2_with fail
              go_roundg t
              case measure => omega
              case rel => exact ⟨j2 + 1, by omega, by go_num, hide (nextB HB6.out hS)⟩
            · have HMI := hide hmi
              have HOK := hide hok0
              clear hmi hok0
              go_wp2_with fail
              have hok : decide (old ≠ k) = true := decide_eq_true HOK.out
              obtain ⟨A2, X2⟩ := HCELLS.out
              have CU := cell_bel HB6.out (HU2.out m1 vo HMI.out)
              have CV := HCV.out
              have hmq : m1 < cq := by have := (List.getElem?_eq_some_iff.1 HMI.out).1; rw [List.length_map, HCQ.out] at this; exact this
              have hjn : j2 < n := by have := HJ2.out; omega
              refine wp_region_held_drew (S := Below w6.heap.size w6) (by kernel_rfl) HSB6.out (fun hS => ?_)
              refine take_want 0 (some 107) (.bool true) rfl rfl rfl (by kernel_rfl) (by kernel_rfl) (by kernel_rfl) (fun _ _ _ h => h) (fun wx hx => exec_move rfl rfl) hS ?_
              simp only [Act.put, List.setIfInBounds_toArray, List.set_cons_zero, List.set_cons_succ]
              refine take_want 1 (some 108) (.bool true) rfl rfl rfl (by kernel_rfl) (by kernel_rfl) (by kernel_rfl) (fun _ _ _ h => h) (fun wx hx => exec_move rfl rfl) hS ?_
              simp only [Act.put, List.setIfInBounds_toArray, List.set_cons_zero, List.set_cons_succ]
              refine take_want 2 (some 109) (.int .i64 old) rfl rfl rfl (by kernel_rfl) (by kernel_rfl) (by kernel_rfl) (fun _ _ _ h => h) (fun wx hx => exec_move rfl rfl) hS ?_
              simp only [Act.put, List.setIfInBounds_toArray, List.set_cons_zero, List.set_cons_succ]
              refine take_want 3 (some 110) (.int .i64 k) rfl rfl rfl (by kernel_rfl) (by kernel_rfl) (by kernel_rfl) (fun _ _ _ h => h) (fun wx hx => exec_move rfl rfl) hS ?_
              simp only [Act.put, List.setIfInBounds_toArray, List.set_cons_zero, List.set_cons_succ]
              refine take_want 4 (some 111) (.bool true) rfl rfl rfl (by kernel_rfl) (by kernel_rfl) (by kernel_rfl) (fun _ _ _ h => h) (fun wx hx => exec_neq rfl rfl rfl hok) hS ?_
              simp only [Act.put, List.setIfInBounds_toArray, List.set_cons_zero, List.set_cons_succ]
              refine take_want 5 (some 112) (.bool true) rfl rfl rfl (by kernel_rfl) (by kernel_rfl) (by kernel_rfl) (fun _ _ _ h => h) (fun wx hx => exec_pickT rfl rfl rfl) hS ?_
              simp only [Act.put, List.setIfInBounds_toArray, List.set_cons_zero, List.set_cons_succ]
              refine take_want 6 (some 113) (.bool true) rfl rfl rfl (by kernel_rfl) (by kernel_rfl) (by kernel_rfl) (fun _ _ _ h => h) (fun wx hx => exec_move rfl rfl) hS ?_
              simp only [Act.put, List.setIfInBounds_toArray, List.set_cons_zero, List.set_cons_succ]
              refine take_want 7 (some 114) (.pointer (some ⟨bx, 0 + 2, none⟩)) rfl rfl rfl (by kernel_rfl) (by kernel_rfl) (by kernel_rfl) (fun _ _ _ h => h) (fun wx hx => exec_field rfl (fldN2 _ _ wx) rfl) hS ?_
              simp only [Act.put, List.setIfInBounds_toArray, List.set_cons_zero, List.set_cons_succ]
              refine take_want 8 (some 115) (.slice (some ⟨gu, ou, none⟩) cq cuq) rfl rfl rfl (by kernel_rfl) (by kernel_rfl) (by kernel_rfl) (fun _ _ _ h => h) (fun wx hx => exec_load rfl (load_intsP (cell_bel hx X2)) rfl) hS ?_
              simp only [Act.put, List.setIfInBounds_toArray, List.set_cons_zero, List.set_cons_succ]
              refine take_want 9 (some 116) (.int .i64 (m1 : Int)) rfl rfl rfl (by kernel_rfl) (by kernel_rfl) (by kernel_rfl) (fun _ _ _ h => h) (fun wx hx => exec_move rfl rfl) hS ?_
              simp only [Act.put, List.setIfInBounds_toArray, List.set_cons_zero, List.set_cons_succ]
              refine take_want 10 (some 117) (.pointer (some ⟨gu, ou + m1, none⟩)) rfl rfl rfl (by kernel_rfl) (by kernel_rfl) (by kernel_rfl) (fun _ _ _ h => h) (fun wx hx => exec_index rfl (index_ints (i := m1) hmq) rfl rfl) hS ?_
              simp only [Act.put, List.setIfInBounds_toArray, List.set_cons_zero, List.set_cons_succ]
              refine take_want 11 (some 118) (.int .i64 vo) rfl rfl rfl (by kernel_rfl) (by kernel_rfl) (by kernel_rfl) (fun _ _ _ h => h) (fun wx hx => exec_load rfl (load_intP (cell_bel hx CU)) rfl) hS ?_
              simp only [Act.put, List.setIfInBounds_toArray, List.set_cons_zero, List.set_cons_succ]
              refine take_want 12 (some 119) (.pointer (some ⟨w.heap.size, 0 + 2, none⟩)) rfl rfl rfl (by kernel_rfl) (by kernel_rfl) (by kernel_rfl) (fun _ _ _ h => h) (fun wx hx => exec_field rfl (fldR2 _ _ wx) rfl) hS ?_
              simp only [Act.put, List.setIfInBounds_toArray, List.set_cons_zero, List.set_cons_succ]
              refine take_want 13 (some 120) (.slice (some ⟨gV, oV, none⟩) n cV) rfl rfl rfl (by kernel_rfl) (by kernel_rfl) (by kernel_rfl) (fun _ _ _ h => h) (fun wx hx => exec_load rfl (load_intsP (cell_bel hx A2)) rfl) hS ?_
              simp only [Act.put, List.setIfInBounds_toArray, List.set_cons_zero, List.set_cons_succ]
              refine take_want 14 (some 121) (.int .i64 (j2 : Int)) rfl rfl rfl (by kernel_rfl) (by kernel_rfl) (by kernel_rfl) (fun _ _ _ h => h) (fun wx hx => exec_move rfl rfl) hS ?_
              simp only [Act.put, List.setIfInBounds_toArray, List.set_cons_zero, List.set_cons_succ]
              refine take_want 15 (some 122) (.pointer (some ⟨gV, oV + j2, none⟩)) rfl rfl rfl (by kernel_rfl) (by kernel_rfl) (by kernel_rfl) (fun _ _ _ h => h) (fun wx hx => exec_index rfl (index_ints (i := j2) hjn) rfl rfl) hS ?_
              simp only [Act.put, List.setIfInBounds_toArray, List.set_cons_zero, List.set_cons_succ]
              refine take_want 16 (some 123) (.int .i64 vo) rfl rfl rfl (by kernel_rfl) (by kernel_rfl) (by kernel_rfl) (fun _ _ _ h => h) (fun wx hx => exec_load rfl (load_intP (cell_bel hx CV)) rfl) hS ?_
              simp only [Act.put, List.setIfInBounds_toArray, List.set_cons_zero, List.set_cons_succ]
              refine take_want 17 (some 124) (.bool false) rfl rfl rfl (by kernel_rfl) (by kernel_rfl) (by kernel_rfl) (fun _ _ _ h => h) (fun wx hx => exec_neq rfl rfl rfl (decide_eq_false (by simp))) hS ?_
              simp only [Act.put, List.setIfInBounds_toArray, List.set_cons_zero, List.set_cons_succ]
              refine take_want 18 (some 125) (.bool false) rfl rfl rfl (by kernel_rfl) (by kernel_rfl) (by kernel_rfl) (fun _ _ _ h => h) (fun wx hx => exec_pickT rfl rfl rfl) hS ?_
              simp only [Act.put, List.setIfInBounds_toArray, List.set_cons_zero, List.set_cons_succ]
              refine wpAnyH_done (by kernel_rfl) ?_ _
              clear hok A2 X2 CU CV hmq hjn
              have e7 := HE7.out
              go_wp2_with fail
              go_roundg t
              case measure => omega
              case rel => exact ⟨j2 + 1, by omega, by go_num, hide (nextB HB6.out hS)⟩
end Go.Proofs.Ytcidadikmmdalaa
