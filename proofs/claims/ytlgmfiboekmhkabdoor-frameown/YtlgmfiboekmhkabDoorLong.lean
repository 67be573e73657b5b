/- FrameLong walked: it answers true. -/
import Derived.Test.YtlgmfiboekmhkabDoorPk3
import Derived.Test.YtlgmfiboekmhkabDoorAwake
namespace Go.Proofs.YtlgmfiboekmhkabDoor
open Go.RowKit Go.Extern

theorem err_true : errV (if true = true then 0 else 20) = .nilIface := rfl
theorem lst_true (xs : List Nat) : (if true = true then xs else []) = xs := rfl
theorem all_one (n : Int) (wd : Nat) : [n].all (fitB · wd) = fitB n wd := by simp
theorem all_two (n m : Int) (wd : Nat) : [n, m].all (fitB · wd) = (fitB n wd && fitB m wd) := by simp
theorem long_lists (a b c : Int) : [] ++ bytesOf 8 [a] ++ bytesOf 8 [b] ++ bytesOf 4 [c] = [] ++ bytesOf 8 [a, b] ++ bytesOf 4 [c] := by simp [bytesOf]

set_option maxRecDepth 100000 in
set_option maxHeartbeats 1000000 in
theorem long_any (a b c : Int) (w : World) (hL : Laid w) (ha : -9223372036854775808 ≤ a ∧ a < 9223372036854775808) (hb : -9223372036854775808 ≤ b ∧ b < 9223372036854775808) (hc : -9223372036854775808 ≤ c ∧ c < 9223372036854775808) :
    Calls Tryd.prog 4 #[.int .i64 a, .int .i64 b, .int .i64 c] w fun e w' => e = .returned (.bool true) ∧ Below w.heap.size w w' := by
  have HL := hide hL
  have HA := hide ha
  have HBb := hide hb
  have HC := hide hc
  have hia : ∀ n ∈ [a], -9223372036854775808 ≤ n ∧ n < 9223372036854775808 := by simpa using ha
  have hib : ∀ n ∈ [b], -9223372036854775808 ≤ n ∧ n < 9223372036854775808 := by simpa using hb
  have hic : ∀ n ∈ [c], -9223372036854775808 ≤ n ∧ n < 9223372036854775808 := by simpa using hc
  have hiab : ∀ n ∈ [a, b], -9223372036854775808 ≤ n ∧ n < 9223372036854775808 := by simp; exact ⟨ha, hb⟩
  have HIA := hide hia
  have HIB := hide hib
  have HIC := hide hic
  have HIAB := hide hiab
  clear hL ha hb hc hia hib hic hiab
  go_enter Tryd.func4, Tryd.ntmps4
  go_wp2_with fail
  refine (newPacker_any w).mono ?_
  rintro e w1 ⟨rfl, hp1, hb1⟩
  have HP1 : Hid (PkS w1 w.heap.size w.heap.size none true []) := hp1
  have HB1 := hide hb1
  clear hp1 hb1
  go_wp2_with fail
  refine (PLong_step w.heap.size w.heap.size none true [] [a] _ _ (HP1.out.alloc _) (ints_lit w1 [a] HIA.out (by simp)) (by simp) (hnr_lit HP1.out 1 1 1)).mono ?_
  rintro e w2 ⟨rfl, row2, hp2, hf2, -⟩
  have HP2 := hide hp2
  have HB2 := hide ((HB1.out.alloc HB1.out.size _).trans (Stepped.below (HP1.out.alloc _) hf2))
  clear hp2 hf2 HP1 HB1
  go_wp2_with fail
  refine (PLong_step w.heap.size w.heap.size row2 _ _ [b] _ _ (HP2.out.alloc _) (ints_lit w2 [b] HIB.out (by simp)) (by simp [bytesOf_length]) (hnr_lit HP2.out 1 1 1)).mono ?_
  rintro e w3 ⟨rfl, row3, hp3, hf3, -⟩
  have HP3 := hide hp3
  have HB3 := hide ((HB2.out.alloc HB2.out.size _).trans (Stepped.below (HP2.out.alloc _) hf3))
  clear hp3 hf3 HP2 HB2
  go_wp2_with fail
  refine (PWord_step w.heap.size w.heap.size row3 _ _ [c] _ _ (HP3.out.alloc _) (ints_lit w3 [c] HIC.out (by simp)) (by simp [bytesOf_length]) (hnr_lit HP3.out 1 1 1)).mono ?_
  rintro e w4 ⟨rfl, row4, hp4, hf4, -⟩
  have HB4 := hide ((HB3.out.alloc HB3.out.size _).trans (Stepped.below (HP3.out.alloc _) hf4))
  rw [all_one, all_one, all_one] at hp4
  have HP4 := hide hp4
  clear hp4 hf4 HP3 HB3
  go_wp2_with fail
  refine (newPacker_any w4).mono ?_
  rintro e w5 ⟨rfl, hp5, hb5⟩
  have HQ5 : Hid (PkS w5 w4.heap.size w4.heap.size none true []) := hp5
  have HP5 := hide (HP4.out.below hb5)
  have HB5 := hide (HB4.out.trans (hb5.mono HB4.out.size))
  have HBL : Hid (w.heap.size < w4.heap.size) := Pk.block HP4.out
  have HRL : Hid (∀ k, row4 = some k → k < w4.heap.size) := fun k hk => (Pk.row_ge HP4.out k hk).2
  have HS5 : Hid (w4.heap.size ≤ w5.heap.size) := hb5.size
  clear hp5 hb5 HP4 HB4
  go_wp2_with fail
  refine (PLong_step w4.heap.size w4.heap.size none true [] [a, b] _ _ (HQ5.out.alloc _) (ints_lit w5 [a, b] HIAB.out (by simp)) (by simp) (hnr_lit HQ5.out 2 2 2)).mono ?_
  rintro e w6 ⟨rfl, row6, hp6, hf6, hr6⟩
  have HP6 := hide (PkS.older (HP5.out.alloc _) HBL.out HRL.out hf6 (Nat.le_refl _) (by simp))
  have HB6 := hide ((HB5.out.alloc HB5.out.size _).trans ((Stepped.below (HQ5.out.alloc _) hf6).mono (Nat.le_of_lt HBL.out)))
  rw [all_two] at hp6
  have HQ6 := hide hp6
  clear hp6 hf6 hr6 HP5 HB5 HQ5
  go_wp2_with fail
  refine (PWord_step w4.heap.size w4.heap.size row6 _ _ [c] _ _ (HQ6.out.alloc _) (ints_lit w6 [c] HIC.out (by simp)) (by simp [bytesOf_length]) (hnr_lit HQ6.out 1 1 1)).mono ?_
  rintro e w7 ⟨rfl, row7, hp7, hf7, hr7⟩
  have HP7 := hide (PkS.older (HP6.out.alloc _) HBL.out HRL.out hf7 (Nat.le_refl _) (fun k hk => (Pk.row_ge HQ6.out k hk).1))
  have HB7 := hide ((HB6.out.alloc HB6.out.size _).trans ((Stepped.below (HQ6.out.alloc _) hf7).mono (Nat.le_of_lt HBL.out)))
  rw [all_one] at hp7
  have HQ7 := hide hp7
  rw [← long_lists] at HQ7
  clear hp7 hf7 hr7 HP6 HB6 HQ6
  have HX : Hid ([] ++ bytesOf 8 [a] ++ bytesOf 8 [b] ++ bytesOf 4 [c] = be 8 a.toNat ++ (be 8 b.toNat ++ (be 4 c.toNat ++ []))) := by show _ = _; simp [bytesOf]
  generalize [] ++ bytesOf 8 [a] ++ bytesOf 8 [b] ++ bytesOf 4 [c] = xs at HP7 HQ7 HX
  have HOK : Hid ((true && fitB a 8 && fitB b 8 && fitB c 4) = (true && (fitB a 8 && fitB b 8) && fitB c 4)) := by show _ = _; simp [Bool.and_assoc]
  rw [← HOK.out] at HQ7
  have HOK2 : Hid ((true && fitB a 8 && fitB b 8 && fitB c 4) = (fitB a 8 && (fitB b 8 && fitB c 4))) := by show _ = _; simp [Bool.and_assoc]
  rw [HOK2.out] at HP7 HQ7
  have HFA : Hid (∀ wz, Calls Tryd.prog 18 #[.int .i64 a, .int .i64 8] wz fun e w' => e = .returned (.bool (fitB a 8)) ∧ w' = wz) := fun wz => fits_any a 8 (by simp) HA.out wz
  have HFB : Hid (∀ wz, Calls Tryd.prog 18 #[.int .i64 b, .int .i64 8] wz fun e w' => e = .returned (.bool (fitB b 8)) ∧ w' = wz) := fun wz => fits_any b 8 (by simp) HBb.out wz
  have HFC : Hid (∀ wz, Calls Tryd.prog 18 #[.int .i64 c, .int .i64 4] wz fun e w' => e = .returned (.bool (fitB c 4)) ∧ w' = wz) := fun wz => fits_any c 4 (by simp) HC.out wz
  generalize hok : (fitB a 8 && (fitB b 8 && fitB c 4)) = ok at HP7 HQ7
  have HOK3 := hide hok
  clear hok HOK HOK2
  clear HIA HIB HIC HIAB HBL HRL HS5 HA HBb HC
  cases ok with
  | false =>
    have e20 : errV (if false = true then 0 else 20) = .iface 47 (.int .i64 20) := rfl
    have eL : (if false = true then xs else []) = ([] : List Nat) := rfl
    have HY1 := hide (pkS_bytes _ _ _ _ _ w7 HP7.out)
    rw [e20, eL] at HY1
    go_wp2_with fail
    refine HY1.out.mono ?_
    rintro e w8 ⟨x, rfl, hox, hb8⟩
    have HOX := hide hox
    have HB8 := hide (HB7.out.trans (hb8.mono HB7.out.size))
    have HY2 := hide (pkS_bytes _ _ _ _ _ w8 (HQ7.out.below hb8))
    rw [e20, eL] at HY2
    obtain ⟨ax, nx, cx, hxv, hxn⟩ : ∃ ao n cap, x = .slice ao n cap ∧ n = (([] : List Nat)).length := by
      obtain ⟨ao, cap, rfl⟩ := hox.form
      exact ⟨_, _, _, rfl, rfl⟩
    subst hxv
    have HXN := hide hxn
    clear hox hb8 hxn HP7 HQ7 HB7 HY1
    go_wp2_with fail
    refine HY2.out.mono ?_
    rintro e w9 ⟨y, rfl, hoy, hb9⟩
    have HOY := hide hoy
    have HOX9 := hide (HOX.out.below hb9)
    have HB9 := hide (HB8.out.trans (hb9.mono HB8.out.size))
    obtain ⟨ay, ny, cy, hyv, hyn⟩ : ∃ ao n cap, y = .slice ao n cap ∧ n = (([] : List Nat)).length := by
      obtain ⟨ao, cap, rfl⟩ := hoy.form
      exact ⟨_, _, _, rfl, rfl⟩
    subst hyv
    have HYN := hide hyn
    clear hoy hb9 hyn HY2 HB8 HOX e20 eL
    have HAW := hide (awake_any w9 (HL.out.below HB9.out))
    have HIS := hide (is_any 20 20 w9)
    have e20' : errV 20 = .iface 47 (.int .i64 20) := rfl
    rw [e20'] at HIS
    have hxn : nx = 0 := HXN.out
    have hyn : ny = 0 := HYN.out
    subst hxn hyn
    have HOK4 := HOK3.out
    clear e20' HOX9 HOY HXN HYN HX HOK3 HL
    cases hfa : fitB a 8 with
    | false =>
      rw [hfa] at HFA
      clear HOK4 hfa HFB HFC
      go_wp2_with fail
      refine (HFA.out _).mono ?_
      rintro e wf0 ⟨rfl, rfl⟩
      go_wp2_with fail
      refine HIS.out.mono ?_
      rintro e wi0 ⟨rfl, rfl⟩
      go_wp2_with fail
      refine HIS.out.mono ?_
      rintro e wi1 ⟨rfl, rfl⟩
      go_wp2_with fail
      refine HAW.out.mono ?_
      rintro e w10 ⟨rfl, hb10⟩
      have HB10 := hide hb10
      clear hb10
      go_wp2
      go_ret
      exact ⟨rfl, HB9.out.trans (HB10.out.mono HB9.out.size)⟩
    | true =>
      cases hfb : fitB b 8 with
      | false =>
        rw [hfa] at HFA
        rw [hfb] at HFB
        clear HOK4 hfa hfb HFC
        go_wp2_with fail
        refine (HFA.out _).mono ?_
        rintro e wf0 ⟨rfl, rfl⟩
        go_wp2_with fail
        refine (HFB.out _).mono ?_
        rintro e wf1 ⟨rfl, rfl⟩
        go_wp2_with fail
        refine HIS.out.mono ?_
        rintro e wi0 ⟨rfl, rfl⟩
        go_wp2_with fail
        refine HIS.out.mono ?_
        rintro e wi1 ⟨rfl, rfl⟩
        go_wp2_with fail
        refine HAW.out.mono ?_
        rintro e w10 ⟨rfl, hb10⟩
        have HB10 := hide hb10
        clear hb10
        go_wp2
        go_ret
        exact ⟨rfl, HB9.out.trans (HB10.out.mono HB9.out.size)⟩
      | true =>
        have hfc : fitB c 4 = false := by rw [hfa, hfb] at HOK4; simpa using HOK4
        rw [hfa] at HFA
        rw [hfb] at HFB
        rw [hfc] at HFC
        clear HOK4 hfa hfb hfc
        go_wp2_with fail
        refine (HFA.out _).mono ?_
        rintro e wf0 ⟨rfl, rfl⟩
        go_wp2_with fail
        refine (HFB.out _).mono ?_
        rintro e wf1 ⟨rfl, rfl⟩
        go_wp2_with fail
        refine (HFC.out _).mono ?_
        rintro e wf2 ⟨rfl, rfl⟩
        go_wp2_with fail
        refine HIS.out.mono ?_
        rintro e wi0 ⟨rfl, rfl⟩
        go_wp2_with fail
        refine HIS.out.mono ?_
        rintro e wi1 ⟨rfl, rfl⟩
        go_wp2_with fail
        refine HAW.out.mono ?_
        rintro e w10 ⟨rfl, hb10⟩
        have HB10 := hide hb10
        clear hb10
        go_wp2
        go_ret
        exact ⟨rfl, HB9.out.trans (HB10.out.mono HB9.out.size)⟩
  | true =>
    have HY1 := hide (pkS_bytes _ _ _ _ _ w7 HP7.out)
    rw [err_true, lst_true] at HY1
    go_wp2_with fail
    refine HY1.out.mono ?_
    rintro e w8 ⟨x, rfl, hox, hb8⟩
    have HOX := hide hox
    have HB8 := hide (HB7.out.trans (hb8.mono HB7.out.size))
    have HY2 := hide (pkS_bytes _ _ _ _ _ w8 (HQ7.out.below hb8))
    rw [err_true, lst_true] at HY2
    obtain ⟨ax, nx, cx, hxv, hxn⟩ : ∃ ao n cap, x = .slice ao n cap ∧ n = (xs).length := by
      obtain ⟨ao, cap, rfl⟩ := hox.form
      exact ⟨_, _, _, rfl, rfl⟩
    subst hxv
    have HXN := hide hxn
    clear hox hb8 hxn HP7 HQ7 HB7 HY1
    go_wp2_with fail
    refine HY2.out.mono ?_
    rintro e w9 ⟨y, rfl, hoy, hb9⟩
    have HOY := hide hoy
    have HOX9 := hide (HOX.out.below hb9)
    have HB9 := hide (HB8.out.trans (hb9.mono HB8.out.size))
    obtain ⟨ay, ny, cy, hyv, hyn⟩ : ∃ ao n cap, y = .slice ao n cap ∧ n = (xs).length := by
      obtain ⟨ao, cap, rfl⟩ := hoy.form
      exact ⟨_, _, _, rfl, rfl⟩
    subst hyv
    have HYN := hide hyn
    clear hoy hb9 hyn HY2 HB8 HOX
    have HAW := hide (awake_any w9 (HL.out.below HB9.out))
    have HOK4 : fitB a 8 = true ∧ fitB b 8 = true ∧ fitB c 4 = true := by have := HOK3.out; simpa [Bool.and_eq_true] using this
    obtain ⟨hfa, hfb, hfc⟩ := HOK4
    rw [hfa] at HFA
    rw [hfb] at HFB
    rw [hfc] at HFC
    obtain ⟨A, rfl, hA⟩ := fit_nat hfa
    obtain ⟨B, rfl, hB⟩ := fit_nat hfb
    obtain ⟨C, rfl, hC⟩ := fit_nat hfc
    have hxs : xs = be 8 A ++ (be 8 B ++ (be 4 C ++ [])) := by rw [HX.out]; simp
    have hxl : xs.length = 20 := by rw [hxs]; simp [be_length]
    have hxn : nx = 20 := by rw [HXN.out]; exact hxl
    subst hxn
    have r1 := read_be 8 A (be 8 B ++ (be 4 C ++ [])) hA (great_pow 8 A (by simp) hA)
    have r2 := read_be 8 B (be 4 C ++ []) hB (great_pow 8 B (by simp) hB)
    have r3 := read_be 4 C [] hC (great_pow 4 C (by simp) hC)
    rw [← hxs] at r1
    have HR1 := hide r1
    have HR2 := hide r2
    have HR3 := hide r3
    have HNU := hide (newUnpacker_any xs _ w9 HOX9.out.bytes)
    have HOY9 := HOY
    clear r1 r2 r3 hA hB hC hxs hxl hfa hfb hfc HX HOK3 HXN HYN HAW
    go_wp2_with fail
    refine (HFA.out _).mono ?_
    rintro e wf0 ⟨rfl, rfl⟩
    go_wp2_with fail
    refine (HFB.out _).mono ?_
    rintro e wf1 ⟨rfl, rfl⟩
    go_wp2_with fail
    refine (HFC.out _).mono ?_
    rintro e wf2 ⟨rfl, rfl⟩
    go_wp2_with fail
    refine HNU.out.mono ?_
    rintro e w10 ⟨ub, rfl, hub, hu10, hb10⟩
    have HUB := hide hub
    have HU10 := hide hu10
    have HSAME := hide (same_any xs xs _ _ w10 (HOX9.out.below hb10).bytes (HOY9.out.below hb10).bytes)
    rw [decide_eq_true rfl] at HSAME
    have HB10 := hide (HB9.out.trans (hb10.mono HB9.out.size))
    have HUW : Hid (w.heap.size ≤ ub) := Nat.le_trans HB9.out.size hub
    clear hub hu10 hb10 HNU HOX9 HOY9 HOY HB9 HFA HFB HFC HUB
    go_wp2_with fail
    refine HSAME.out.mono ?_
    rintro e ws ⟨rfl, rfl⟩
    clear HSAME
    go_wp2_with fail
    refine (ULong_any ub xs false _ HU10.out).mono ?_
    rw [HR1.out.2.1, HR1.out.2.2, rdS, HR1.out.1]
    rintro e w11 ⟨rfl, hu11, hg11⟩
    have HU11 := hide hu11
    have HB11 := hide (HB10.out.trans (below_grown hg11 HUW.out HB10.out.size))
    clear hu11 hg11 HU10 HR1 HB10
    go_wp2_with fail
    refine (ULong_any ub _ _ _ HU11.out).mono ?_
    rw [HR2.out.2.1, HR2.out.2.2, rdS, HR2.out.1]
    rintro e w12 ⟨rfl, hu12, hg12⟩
    have HU12 := hide hu12
    have HB12 := hide (HB11.out.trans (below_grown hg12 HUW.out HB11.out.size))
    clear hu12 hg12 HU11 HR2 HB11
    go_wp2_with fail
    refine (UWord_any ub _ _ _ HU12.out).mono ?_
    rw [HR3.out.2.1, HR3.out.2.2, rdS, HR3.out.1]
    rintro e w13 ⟨rfl, hu13, hg13⟩
    have HU13 := hide hu13
    have HB13 := hide (HB12.out.trans (below_grown hg13 HUW.out HB12.out.size))
    clear hu13 hg13 HU12 HR3 HB12
    go_wp2_with fail
    refine (done_any ub _ _ _ HU13.out).mono ?_
    rintro e wd ⟨rfl, rfl⟩
    have HAW := hide (awake_any _ (HL.out.below HB13.out))
    have e0 : errV (if (((false || !true) || !true) || !true || decide (0 < ([] : List Nat).length)) = true then 14 else 0) = .nilIface := rfl
    rw [e0]
    clear e0 HU13
    go_wp2_with fail
    refine HAW.out.mono ?_
    rintro e w14 ⟨rfl, hb14⟩
    have HB14 := hide (HB13.out.trans (hb14.mono HB13.out.size))
    clear hb14 HAW HB13
    go_wp2
    go_ret
    exact ⟨rfl, HB14.out⟩
end Go.Proofs.YtlgmfiboekmhkabDoor
