/- FramePuts walked: it answers true. -/
import Derived.Test.YtlgmfiboekmhkaaDoorRGet
import Derived.Test.YtlgmfiboekmhkaaDoorKind
import Derived.BigQuiet
namespace Go.Proofs.YtlgmfiboekmhkaaDoor
open Go.RowKit Go.Extern

set_option maxRecDepth 100000 in
set_option maxHeartbeats 2000000 in
theorem puts_any (kind want : Nat) (bs s : List Nat) (pv sv : Value) (w : World) (hk : kind < 256) (hL : Laid w) (hp : Bytes w pv bs) (hs : Bytes w sv s) :
    Calls Tryd.prog 4 #[.agg #[.int .u8 (kind : Int), pv, sv, .int .u8 (want : Int)]] w fun e w' => e = .returned (.bool true) ∧ Below w.heap.size w w' := by
  have HP := hide hp
  have HS := hide hs
  have HL := hide hL
  have HK := hide hk
  obtain ⟨ap, cp, gp, op, rfl, -⟩ := hp
  obtain ⟨as_, cs_, gs, os, rfl, -⟩ := hs
  go_enter Tryd.func4, Tryd.ntmps4
  go_wp2
  go_quiet (fail)
  have hb0 : Below w.heap.size w ((w.alloc (.cells #[.int .u8 (kind : Int), .slice ap bs.length cp, .slice as_ s.length cs_, .int .u8 (want : Int)] 30)).drewN nq) := ((Below.refl _ _).alloc (Nat.le_refl _) _).trans ((below_drewN _ _).mono (by simp))
  have HB0 := hide hb0
  generalize hw0 : (w.alloc (.cells #[.int .u8 (kind : Int), .slice ap bs.length cp, .slice as_ s.length cs_, .int .u8 (want : Int)] 30)).drewN nq = w0 at *
  clear hw0 hb0 hL hk
  have HP0 := hide (HP.out.below HB0.out)
  have HS0 := hide (HS.out.below HB0.out)
  by_cases hbig : 10000 < bs.length ∨ 10000 < s.length
  · have HAW := hide (awake_any w0 (HL.out.below HB0.out))
    by_cases h1 : 10000 < bs.length
    · have h1' : (10000 : Int) < (bs.length : Int) := by omega
      clear hbig
      go_wp2_with fail
      refine HAW.out.mono ?_
      rintro e w' ⟨rfl, hb2⟩
      have HB2 := hide (HB0.out.trans (hb2.mono HB0.out.size))
      clear hb2
      go_wp2
      go_ret
      exact ⟨rfl, HB2.out⟩
    · have h1' : ¬ (10000 : Int) < (bs.length : Int) := by omega
      have h2' : (10000 : Int) < (s.length : Int) := by omega
      clear hbig
      go_wp2_with fail
      refine HAW.out.mono ?_
      rintro e w' ⟨rfl, hb2⟩
      have HB2 := hide (HB0.out.trans (hb2.mono HB0.out.size))
      clear hb2
      go_wp2
      go_ret
      exact ⟨rfl, HB2.out⟩
  · have h1' : ¬ (10000 : Int) < (bs.length : Int) := by omega
    have h2' : ¬ (10000 : Int) < (s.length : Int) := by omega
    clear hbig
    have HC1 := hide (copy_any bs _ w0 HP0.out)
    go_wp2_with fail
    refine HC1.out.mono ?_
    rintro e w1 ⟨c1, rfl, ho1, hb1⟩
    have HO1 := hide ho1.bytes
    have HB1 := hide (HB0.out.trans (hb1.mono HB0.out.size))
    have HP1 := hide (HP0.out.below hb1)
    have HS1 := hide (HS0.out.below hb1)
    obtain ⟨a1, n1, cc1, rfl⟩ := ho1.form'
    clear ho1 hb1 HC1 HP0 HS0 HB0 HP HS
    by_cases hlong : 122 < bs.length
    · have hl' : (122 : Int) < (bs.length : Int) := by omega
      have HPU := hide (put_long kind bs _ w1 HO1.out hlong)
      have HIS := hide (is_any 10 10 w1)
      rw [errV_code (by decide)] at HIS HPU
      clear hlong
      go_wp2_with fail
      refine HPU.out.mono ?_
      rintro e w5 ⟨rfl, rfl⟩
      go_wp2_with fail
      refine HIS.out.mono ?_
      rintro e w5 ⟨rfl, rfl⟩
      have HB5 := HB1
      have HS5 := HS1
      clear HPU HIS HO1 HP1 HB1 HS1
      have HCS := hide (copy_any s _ w5 (HS5.out))
      go_wp2_with fail
      refine HCS.out.mono ?_
      rintro e w6 ⟨iv, rfl, hoi, hb6⟩
      have HI6 := hide hoi.bytes
      have HS6 := hide (HS5.out.below hb6)
      have HB6 := hide (HB5.out.trans (hb6.mono HB5.out.size))
      obtain ⟨ai, ni, ci, rfl⟩ := hoi.form'
      clear hoi hb6 HCS HB5 HS5
      have HG := hide (get_any want s _ w6 (HL.out.below HB6.out) HI6.out)
      have HIST : Hid (∀ wz, Calls Tryd.prog 14 #[errV (gErr want s), .int .i64 (gErr want s)] wz fun e w' => e = .returned (.bool true) ∧ w' = wz) := fun wz => by
        have := is_any (gErr want s) (gErr want s) wz
        rwa [decide_eq_true rfl] at this
      go_wp2_with fail
      refine HG.out.mono ?_
      rintro e w7 ⟨pv7, rfl, hp7, hb7⟩
      have HP7 := hide hp7.bytes
      have HI7 := hide (HI6.out.below hb7)
      have HS7 := hide (HS6.out.below hb7)
      have HB7 := hide (HB6.out.trans (hb7.mono HB6.out.size))
      obtain ⟨a7, n7, c7, rfl⟩ := hp7.form'
      clear hp7 hb7 HG HB6 HS6 HI6
      have HRG := hide (rget_any want s _ w7 HS7.out)
      go_wp2_with fail
      refine HRG.out.mono ?_
      rintro e w8 ⟨qv8, rfl, hq8, hb8⟩
      have HQ8 := hide hq8.bytes
      have HP8 := hide (HP7.out.below hb8)
      have HI8 := hide (HI7.out.below hb8)
      have HS8 := hide (HS7.out.below hb8)
      have HB8 := hide (HB7.out.trans (hb8.mono HB7.out.size))
      obtain ⟨a8, n8, c8, rfl⟩ := hq8.form'
      clear hq8 hb8 HRG HB7 HS7 HI7 HP7
      generalize gErr want s = r at *
      generalize gPay want s = py at *
      have HKD := hide (kind_any s _ w8 (HL.out.below HB8.out) HI8.out)
      go_wp2_with fail
      refine HKD.out.mono ?_
      rintro e w9 ⟨rfl, hb9⟩
      have HQ9 := hide (HQ8.out.below hb9)
      have HP9 := hide (HP8.out.below hb9)
      have HI9 := hide (HI8.out.below hb9)
      have HS9 := hide (HS8.out.below hb9)
      have HB9 := hide (HB8.out.trans (hb9.mono HB8.out.size))
      clear hb9 HKD HB8 HS8 HI8 HP8 HQ8
      have HEND : Hid (∀ wz, Below w.heap.size w wz → Bytes wz (.slice a7 n7 c7) py → Bytes wz (.slice a8 n8 c8) py → Bytes wz (.slice ai ni ci) s → Bytes wz (.slice as_ s.length cs_) s → (Calls Tryd.prog 15 #[.slice a7 n7 c7, .slice a8 n8 c8] wz fun e w' => e = .returned (.bool true) ∧ w' = wz) ∧ (Calls Tryd.prog 15 #[.slice ai ni ci, .slice as_ s.length cs_] wz fun e w' => e = .returned (.bool true) ∧ w' = wz) ∧ (Calls Tryd.prog 9 #[] wz fun ev w' => ev = .returned (.bool true) ∧ Below wz.heap.size wz w')) := fun wz h1 h2 h3 h4 h5 => by
        have s1 := same_any py py _ _ wz h2 h3
        have s2 := same_any s s _ _ wz h4 h5
        rw [decide_eq_true rfl] at s1 s2
        exact ⟨s1, s2, awake_any wz (HL.out.below h1)⟩
      by_cases hs : s.length = 128
      · have hok : kOk s = decide (gErr (s.getD 0 0) s = 0) := by simp [kOk, hs]
        have hkof : kOf s = if kOk s then s.getD 0 0 else 0 := rfl
        obtain ⟨g9, o9, cp9, hsv, hc9, -, -⟩ := HS9.out.at0 (by omega)
        have g0 : s[0]? = some (s.getD 0 0) := by
          rw [List.getD_eq_getElem?_getD, List.getElem?_eq_getElem (by omega)]; rfl
        have c0 : w9.cell? ⟨g9, o9, none⟩ = some (.int .u8 ((s.getD 0 0 : Nat) : Int)) := hc9 0 _ g0
        have HRG2 := hide (rget_any (s.getD 0 0) s _ w9 HS9.out)
        simp only [Value.slice.injEq, true_and] at hsv
        obtain ⟨rfl, rfl⟩ := hsv
        rw [hs] at *
        generalize gErr (s.getD 0 0) s = r0 at *
        generalize gPay (s.getD 0 0) s = py0 at *
        generalize s.getD 0 0 = k0 at *
        by_cases hr0 : r0 = 0
        · subst hr0
          have e1 : decide ((0 : Int) = 0) = true := rfl
          rw [hkof, hok, e1, if_pos rfl]
          clear e1 hok hkof hc9 g0
          go_wp2_with fail
          refine HRG2.out.mono ?_
          rintro e w10 ⟨zv, rfl, hz10, hb10⟩
          have HQ10 := hide (HQ9.out.below hb10)
          have HP10 := hide (HP9.out.below hb10)
          have HI10 := hide (HI9.out.below hb10)
          have HS10 := hide (HS9.out.below hb10)
          have HB10 := hide (HB9.out.trans (hb10.mono HB9.out.size))
          have d0 : w10.cell? ⟨g9, o9, none⟩ = some (.int .u8 (k0 : Int)) := by rw [hb10.cell (cell_lt c0)]; exact c0
          obtain ⟨s1, s2, s3⟩ := HEND.out w10 HB10.out HP10.out HQ10.out HI10.out HS10.out
          have HS1 := hide s1
          have HS2 := hide s2
          have HAW := hide s3
          obtain ⟨az, nz, cz, rfl⟩ := hz10.form'
          clear hz10 hb10 HRG2 c0 s1 s2 s3 HQ9 HP9 HI9 HS9 HB9 HEND HQ10 HP10 HI10 HS10
          go_wp2_with fail
          refine (HIST.out w10).mono ?_
          rintro e wq ⟨rfl, rfl⟩
          go_wp2_with fail
          refine HS1.out.mono ?_
          rintro e wq ⟨rfl, rfl⟩
          go_wp2_with fail
          refine HS2.out.mono ?_
          rintro e wq ⟨rfl, rfl⟩
          go_wp2_with fail
          refine HAW.out.mono ?_
          rintro e w11 ⟨rfl, hb11⟩
          have HB11 := hide (HB10.out.trans (hb11.mono HB10.out.size))
          clear hb11
          go_wp2
          go_ret
          exact ⟨rfl, HB11.out⟩
        · have e1 : decide (r0 = 0) = false := by simpa using hr0
          have e2 : (r0 == 0) = false := by simpa using hr0
          rw [hkof, hok, e1, if_neg (by simp)]
          clear e1 hr0 hok hkof hc9 g0
          go_wp2_with fail
          refine HRG2.out.mono ?_
          rintro e w10 ⟨zv, rfl, hz10, hb10⟩
          have HQ10 := hide (HQ9.out.below hb10)
          have HP10 := hide (HP9.out.below hb10)
          have HI10 := hide (HI9.out.below hb10)
          have HS10 := hide (HS9.out.below hb10)
          have HB10 := hide (HB9.out.trans (hb10.mono HB9.out.size))
          have d0 : w10.cell? ⟨g9, o9, none⟩ = some (.int .u8 (k0 : Int)) := by rw [hb10.cell (cell_lt c0)]; exact c0
          obtain ⟨s1, s2, s3⟩ := HEND.out w10 HB10.out HP10.out HQ10.out HI10.out HS10.out
          have HS1 := hide s1
          have HS2 := hide s2
          have HAW := hide s3
          obtain ⟨az, nz, cz, rfl⟩ := hz10.form'
          clear hz10 hb10 HRG2 c0 s1 s2 s3 HQ9 HP9 HI9 HS9 HB9 HEND HQ10 HP10 HI10 HS10
          go_wp2_with fail
          refine (HIST.out w10).mono ?_
          rintro e wq ⟨rfl, rfl⟩
          go_wp2_with fail
          refine HS1.out.mono ?_
          rintro e wq ⟨rfl, rfl⟩
          go_wp2_with fail
          refine HS2.out.mono ?_
          rintro e wq ⟨rfl, rfl⟩
          go_wp2_with fail
          refine HAW.out.mono ?_
          rintro e w11 ⟨rfl, hb11⟩
          have HB11 := hide (HB10.out.trans (hb11.mono HB10.out.size))
          clear hb11
          go_wp2
          go_ret
          exact ⟨rfl, HB11.out⟩
      · have hok : kOk s = false := by simp [kOk, hs]
        have hkof : kOf s = 0 := by simp [kOf, hok]
        have hs' : ((s.length : Int) == 128) = false := by simp; omega
        rw [hok, hkof]
        obtain ⟨s1, s2, s3⟩ := HEND.out w9 HB9.out HP9.out HQ9.out HI9.out HS9.out
        have HS1 := hide s1
        have HS2 := hide s2
        have HAW := hide s3
        clear hok hkof hs s1 s2 s3 HEND HQ9 HP9 HI9 HS9
        go_wp2_with fail
        refine (HIST.out w9).mono ?_
        rintro e wq ⟨rfl, rfl⟩
        go_wp2_with fail
        refine HS1.out.mono ?_
        rintro e wq ⟨rfl, rfl⟩
        go_wp2_with fail
        refine HS2.out.mono ?_
        rintro e wq ⟨rfl, rfl⟩
        go_wp2_with fail
        refine HAW.out.mono ?_
        rintro e w11 ⟨rfl, hb11⟩
        have HB11 := hide (HB9.out.trans (hb11.mono HB9.out.size))
        clear hb11
        go_wp2
        go_ret
        exact ⟨rfl, HB11.out⟩
    · have hl' : ¬ (122 : Int) < (bs.length : Int) := by omega
      have hle : bs.length ≤ 122 := by omega
      have HPU := hide (put_any kind HK.out bs _ w1 (HL.out.below HB1.out) HO1.out hle)
      go_wp2_with fail
      refine HPU.out.mono ?_
      rintro e w2 ⟨u2, rfl, ho2, hb2⟩
      rw [errV_zero]
      have HO2 := hide ho2.bytes
      have HB2 := hide (HB1.out.trans (hb2.mono HB1.out.size))
      have HP2 := hide (HP1.out.below hb2)
      have HS2 := hide (HS1.out.below hb2)
      obtain ⟨a2, n2, cc2, rfl⟩ := ho2.form'
      clear ho2 hb2 HPU HO1 HB1 HP1 HS1
      have HRP := hide (rput_any kind HK.out bs _ w2 HP2.out hle)
      go_wp2_with fail
      refine HRP.out.mono ?_
      rintro e w5 ⟨u3, rfl, ho3, hb3⟩
      have HB5 := hide (HB2.out.trans (hb3.mono HB2.out.size))
      have HS5 := hide (HS2.out.below hb3)
      have HSM := hide (same_any _ _ _ _ w5 (HO2.out.below hb3) ho3.bytes)
      rw [decide_eq_true rfl] at HSM
      obtain ⟨a3, n3, cc3, rfl⟩ := ho3.form'
      clear ho3 hb3 HRP HO2 HB2 HP2 HS2
      go_wp2_with fail
      refine HSM.out.mono ?_
      rintro e w5 ⟨rfl, rfl⟩
      clear HSM
      have HCS := hide (copy_any s _ w5 (HS5.out))
      go_wp2_with fail
      refine HCS.out.mono ?_
      rintro e w6 ⟨iv, rfl, hoi, hb6⟩
      have HI6 := hide hoi.bytes
      have HS6 := hide (HS5.out.below hb6)
      have HB6 := hide (HB5.out.trans (hb6.mono HB5.out.size))
      obtain ⟨ai, ni, ci, rfl⟩ := hoi.form'
      clear hoi hb6 HCS HB5 HS5
      have HG := hide (get_any want s _ w6 (HL.out.below HB6.out) HI6.out)
      have HIST : Hid (∀ wz, Calls Tryd.prog 14 #[errV (gErr want s), .int .i64 (gErr want s)] wz fun e w' => e = .returned (.bool true) ∧ w' = wz) := fun wz => by
        have := is_any (gErr want s) (gErr want s) wz
        rwa [decide_eq_true rfl] at this
      go_wp2_with fail
      refine HG.out.mono ?_
      rintro e w7 ⟨pv7, rfl, hp7, hb7⟩
      have HP7 := hide hp7.bytes
      have HI7 := hide (HI6.out.below hb7)
      have HS7 := hide (HS6.out.below hb7)
      have HB7 := hide (HB6.out.trans (hb7.mono HB6.out.size))
      obtain ⟨a7, n7, c7, rfl⟩ := hp7.form'
      clear hp7 hb7 HG HB6 HS6 HI6
      have HRG := hide (rget_any want s _ w7 HS7.out)
      go_wp2_with fail
      refine HRG.out.mono ?_
      rintro e w8 ⟨qv8, rfl, hq8, hb8⟩
      have HQ8 := hide hq8.bytes
      have HP8 := hide (HP7.out.below hb8)
      have HI8 := hide (HI7.out.below hb8)
      have HS8 := hide (HS7.out.below hb8)
      have HB8 := hide (HB7.out.trans (hb8.mono HB7.out.size))
      obtain ⟨a8, n8, c8, rfl⟩ := hq8.form'
      clear hq8 hb8 HRG HB7 HS7 HI7 HP7
      generalize gErr want s = r at *
      generalize gPay want s = py at *
      have HKD := hide (kind_any s _ w8 (HL.out.below HB8.out) HI8.out)
      go_wp2_with fail
      refine HKD.out.mono ?_
      rintro e w9 ⟨rfl, hb9⟩
      have HQ9 := hide (HQ8.out.below hb9)
      have HP9 := hide (HP8.out.below hb9)
      have HI9 := hide (HI8.out.below hb9)
      have HS9 := hide (HS8.out.below hb9)
      have HB9 := hide (HB8.out.trans (hb9.mono HB8.out.size))
      clear hb9 HKD HB8 HS8 HI8 HP8 HQ8
      have HEND : Hid (∀ wz, Below w.heap.size w wz → Bytes wz (.slice a7 n7 c7) py → Bytes wz (.slice a8 n8 c8) py → Bytes wz (.slice ai ni ci) s → Bytes wz (.slice as_ s.length cs_) s → (Calls Tryd.prog 15 #[.slice a7 n7 c7, .slice a8 n8 c8] wz fun e w' => e = .returned (.bool true) ∧ w' = wz) ∧ (Calls Tryd.prog 15 #[.slice ai ni ci, .slice as_ s.length cs_] wz fun e w' => e = .returned (.bool true) ∧ w' = wz) ∧ (Calls Tryd.prog 9 #[] wz fun ev w' => ev = .returned (.bool true) ∧ Below wz.heap.size wz w')) := fun wz h1 h2 h3 h4 h5 => by
        have s1 := same_any py py _ _ wz h2 h3
        have s2 := same_any s s _ _ wz h4 h5
        rw [decide_eq_true rfl] at s1 s2
        exact ⟨s1, s2, awake_any wz (HL.out.below h1)⟩
      by_cases hs : s.length = 128
      · have hok : kOk s = decide (gErr (s.getD 0 0) s = 0) := by simp [kOk, hs]
        have hkof : kOf s = if kOk s then s.getD 0 0 else 0 := rfl
        obtain ⟨g9, o9, cp9, hsv, hc9, -, -⟩ := HS9.out.at0 (by omega)
        have g0 : s[0]? = some (s.getD 0 0) := by
          rw [List.getD_eq_getElem?_getD, List.getElem?_eq_getElem (by omega)]; rfl
        have c0 : w9.cell? ⟨g9, o9, none⟩ = some (.int .u8 ((s.getD 0 0 : Nat) : Int)) := hc9 0 _ g0
        have HRG2 := hide (rget_any (s.getD 0 0) s _ w9 HS9.out)
        simp only [Value.slice.injEq, true_and] at hsv
        obtain ⟨rfl, rfl⟩ := hsv
        rw [hs] at *
        generalize gErr (s.getD 0 0) s = r0 at *
        generalize gPay (s.getD 0 0) s = py0 at *
        generalize s.getD 0 0 = k0 at *
        by_cases hr0 : r0 = 0
        · subst hr0
          have e1 : decide ((0 : Int) = 0) = true := rfl
          rw [hkof, hok, e1, if_pos rfl]
          clear e1 hok hkof hc9 g0
          go_wp2_with fail
          refine HRG2.out.mono ?_
          rintro e w10 ⟨zv, rfl, hz10, hb10⟩
          have HQ10 := hide (HQ9.out.below hb10)
          have HP10 := hide (HP9.out.below hb10)
          have HI10 := hide (HI9.out.below hb10)
          have HS10 := hide (HS9.out.below hb10)
          have HB10 := hide (HB9.out.trans (hb10.mono HB9.out.size))
          have d0 : w10.cell? ⟨g9, o9, none⟩ = some (.int .u8 (k0 : Int)) := by rw [hb10.cell (cell_lt c0)]; exact c0
          obtain ⟨s1, s2, s3⟩ := HEND.out w10 HB10.out HP10.out HQ10.out HI10.out HS10.out
          have HS1 := hide s1
          have HS2 := hide s2
          have HAW := hide s3
          obtain ⟨az, nz, cz, rfl⟩ := hz10.form'
          clear hz10 hb10 HRG2 c0 s1 s2 s3 HQ9 HP9 HI9 HS9 HB9 HEND HQ10 HP10 HI10 HS10
          go_wp2_with fail
          refine (HIST.out w10).mono ?_
          rintro e wq ⟨rfl, rfl⟩
          go_wp2_with fail
          refine HS1.out.mono ?_
          rintro e wq ⟨rfl, rfl⟩
          go_wp2_with fail
          refine HS2.out.mono ?_
          rintro e wq ⟨rfl, rfl⟩
          go_wp2_with fail
          refine HAW.out.mono ?_
          rintro e w11 ⟨rfl, hb11⟩
          have HB11 := hide (HB10.out.trans (hb11.mono HB10.out.size))
          clear hb11
          go_wp2
          go_ret
          exact ⟨rfl, HB11.out⟩
        · have e1 : decide (r0 = 0) = false := by simpa using hr0
          have e2 : (r0 == 0) = false := by simpa using hr0
          rw [hkof, hok, e1, if_neg (by simp)]
          clear e1 hr0 hok hkof hc9 g0
          go_wp2_with fail
          refine HRG2.out.mono ?_
          rintro e w10 ⟨zv, rfl, hz10, hb10⟩
          have HQ10 := hide (HQ9.out.below hb10)
          have HP10 := hide (HP9.out.below hb10)
          have HI10 := hide (HI9.out.below hb10)
          have HS10 := hide (HS9.out.below hb10)
          have HB10 := hide (HB9.out.trans (hb10.mono HB9.out.size))
          have d0 : w10.cell? ⟨g9, o9, none⟩ = some (.int .u8 (k0 : Int)) := by rw [hb10.cell (cell_lt c0)]; exact c0
          obtain ⟨s1, s2, s3⟩ := HEND.out w10 HB10.out HP10.out HQ10.out HI10.out HS10.out
          have HS1 := hide s1
          have HS2 := hide s2
          have HAW := hide s3
          obtain ⟨az, nz, cz, rfl⟩ := hz10.form'
          clear hz10 hb10 HRG2 c0 s1 s2 s3 HQ9 HP9 HI9 HS9 HB9 HEND HQ10 HP10 HI10 HS10
          go_wp2_with fail
          refine (HIST.out w10).mono ?_
          rintro e wq ⟨rfl, rfl⟩
          go_wp2_with fail
          refine HS1.out.mono ?_
          rintro e wq ⟨rfl, rfl⟩
          go_wp2_with fail
          refine HS2.out.mono ?_
          rintro e wq ⟨rfl, rfl⟩
          go_wp2_with fail
          refine HAW.out.mono ?_
          rintro e w11 ⟨rfl, hb11⟩
          have HB11 := hide (HB10.out.trans (hb11.mono HB10.out.size))
          clear hb11
          go_wp2
          go_ret
          exact ⟨rfl, HB11.out⟩
      · have hok : kOk s = false := by simp [kOk, hs]
        have hkof : kOf s = 0 := by simp [kOf, hok]
        have hs' : ((s.length : Int) == 128) = false := by simp; omega
        rw [hok, hkof]
        obtain ⟨s1, s2, s3⟩ := HEND.out w9 HB9.out HP9.out HQ9.out HI9.out HS9.out
        have HS1 := hide s1
        have HS2 := hide s2
        have HAW := hide s3
        clear hok hkof hs s1 s2 s3 HEND HQ9 HP9 HI9 HS9
        go_wp2_with fail
        refine (HIST.out w9).mono ?_
        rintro e wq ⟨rfl, rfl⟩
        go_wp2_with fail
        refine HS1.out.mono ?_
        rintro e wq ⟨rfl, rfl⟩
        go_wp2_with fail
        refine HS2.out.mono ?_
        rintro e wq ⟨rfl, rfl⟩
        go_wp2_with fail
        refine HAW.out.mono ?_
        rintro e w11 ⟨rfl, hb11⟩
        have HB11 := hide (HB9.out.trans (hb11.mono HB9.out.size))
        clear hb11
        go_wp2
        go_ret
        exact ⟨rfl, HB11.out⟩
end Go.Proofs.YtlgmfiboekmhkaaDoor
