/- FrameBack walked: it answers true. -/
import Derived.Test.YtlgmfiboekmhkaaDoorFrames
import Derived.Test.YtlgmfiboekmhkaaDoorKind
import Derived.BigQuiet
import Derived.Deep.RegionHeld3
namespace Go.Proofs.YtlgmfiboekmhkaaDoor
open Go.RowKit Go.Extern

theorem below_drew (w : World) : Below w.heap.size w w.drew := (Below.refl _ _).drew
/-- One byte written over. -/
theorem Own.set {w : World} {base g n cap i b : Nat} {bs : List Nat} (h : Own w base (.slice (some ⟨g, 0, none⟩) n cap) bs) (hi : i < n) (hb : b < 256) : Own (w.setCell ⟨g, i, none⟩ (.int .u8 (b : Int))) base (.slice (some ⟨g, 0, none⟩) n cap) (bs.set i b) := by
  obtain ⟨⟨h1, h2⟩, h3, h4⟩ := h
  have hl : ∀ x ∈ bs.set i b, x < 256 := fun x hx => by
    rcases List.mem_or_eq_of_mem_set hx with h | h
    · exact h3 x h
    · omega
  rcases h2 with ⟨h, -⟩ | ⟨g', cap', cur, hv, hg, hh, hc, hm, hs, ht⟩
  · cases h
  · simp only [Value.slice.injEq, Option.some.injEq, Addr.mk.injEq, and_true] at hv
    obtain ⟨rfl, hn, rfl⟩ := hv
    subst hn
    refine ⟨⟨by rw [cellsB_length, List.length_set]; simp, .inr ⟨g, cap, cur.setIfInBounds i (.int .u8 (b : Int)), by rw [List.length_set], hg, ?_, by rw [List.length_set]; exact hc, hm, by simpa using hs, ?_⟩⟩, hl, by rw [List.length_set]; exact h4⟩
    · rw [setCell_eq_setRow w g i _ _ _ _ hh]
      exact setRow_heap w g _ _ _ _ hh
    · rw [List.length_set, Array.toList_setIfInBounds, List.take_set, ht]
      simp [cellsB]

set_option maxRecDepth 100000 in
set_option maxHeartbeats 400000 in
theorem back_any (kind other : Nat) (bit : Int) (bs : List Nat) (pv : Value) (w : World) (hk : kind < 256) (hbit : -9223372036854775808 ≤ bit ∧ bit < 9223372036854775808) (hL : Laid w) (hp : Bytes w pv bs) :
    Calls Tryd.prog 5 #[.agg #[.int .u8 (kind : Int), .int .u8 (other : Int), pv, .int .i64 bit]] w fun e w' => e = .returned (.bool true) ∧ Below w.heap.size w w' := by
  have HP := hide hp
  have HL := hide hL
  have HK := hide hk
  obtain ⟨ao, cap, g, off, rfl, -⟩ := hp
  go_enter Tryd.func5, Tryd.ntmps5
  go_wp2
  go_quiet (fail)
  have hb0 : Below w.heap.size w ((w.alloc (.cells #[.int .u8 (kind : Int), .int .u8 (other : Int), .slice ao bs.length cap, .int .i64 bit] 45)).drewN nq) := ((Below.refl _ _).alloc (Nat.le_refl _) _).trans ((below_drewN _ _).mono (by simp))
  have HB0 := hide hb0
  generalize hw0 : (w.alloc (.cells #[.int .u8 (kind : Int), .int .u8 (other : Int), .slice ao bs.length cap, .int .i64 bit] 45)).drewN nq = w0 at *
  clear hw0 hb0 hL hk
  have HP0 := hide (HP.out.below HB0.out)
  have HL0 := hide (HL.out.below HB0.out)
  by_cases hlong : 122 < bs.length
  · have hl' : (122 : Int) < (bs.length : Int) := by omega
    have HAW := hide (awake_any w0 HL0.out)
    go_wp2_with (go_at_call 9; refine HAW.out.mono ?_; rintro e w' ⟨rfl, hb2⟩)
    go_ret
    exact ⟨rfl, HB0.out.trans (hb2.mono HB0.out.size)⟩
  · have hl' : ¬ (122 : Int) < (bs.length : Int) := by omega
    have hle : bs.length ≤ 122 := by omega
    have HPUT := hide (put_any kind HK.out bs _ w0 HL0.out HP0.out hle)
    go_wp2_with fail
    refine HPUT.out.mono ?_
    rintro e w1 ⟨u, rfl, hown1, hb1⟩
    rw [errV_zero]
    have HO1 := hide hown1
    have HB1 := hide (HB0.out.trans (hb1.mono HB0.out.size))
    have HL1 := hide (HL0.out.below hb1)
    have HP1 := hide (HP0.out.below hb1)
    have HBr := hide hb1
    obtain ⟨gu, cu, hu, hgu, -⟩ := hown1.1.form (by rw [frameOf_length hle]; decide)
    rw [frameOf_length hle] at hu
    subst hu
    have HGU := hide (Nat.le_trans HB0.out.size hgu)
    clear hgu
    have HG := hide (get_any kind _ _ w1 HL1.out HO1.out.bytes)
    rw [gErr_frame hle, gPay_frame hle] at HG
    clear hb1 hown1
    go_wp2_with fail
    refine HG.out.mono ?_
    rintro e w2 ⟨x, rfl, hox, hb2⟩
    rw [errV_zero]
    have HO2 := hide (HO1.out.below hb2)
    have HB2 := hide (HB1.out.trans (hb2.mono HB1.out.size))
    have HL2 := hide (HL1.out.below hb2)
    have HS := hide (same_any bs bs _ _ w2 hox.bytes (HP1.out.below hb2))
    obtain ⟨ax, nx, cx, rfl⟩ := hox.form'
    clear hb2 hox HPUT HG
    rw [decide_eq_true rfl] at HS
    by_cases hin : 0 ≤ bit ∧ bit < 1024
    · obtain ⟨n, rfl⟩ : ∃ n : Nat, bit = (n : Int) := ⟨bit.toNat, by omega⟩
      have hn : n < 1024 := by omega
      have z0 : decide ((n : Int) < 0) = false := by simp
      have z1 : decide ((1024 : Int) ≤ (n : Int)) = false := by simp; omega
      have z2 : ¬ (1024 : Int) ≤ (n : Int) := by omega
      obtain ⟨i, hi⟩ : ∃ i : Nat, i = n / 8 := ⟨_, rfl⟩
      obtain ⟨j, hj⟩ : ∃ j : Nat, j = n % 8 := ⟨_, rfl⟩
      have q1 : (n : Int) / 8 = (i : Int) := by omega
      have q2 : (n : Int) % 8 = (j : Int) := by omega
      have q3 : (n : Int).tdiv 8 = (i : Int) := by rw [Int.tdiv_eq_ediv_of_nonneg (by omega)]; omega
      have q4 : (n : Int).tmod 8 = (j : Int) := by rw [Int.tmod_eq_emod_of_nonneg (by omega)]; omega
      have q5 : IntKind.i64.wrap (i : Int) = (i : Int) := by rw [IntKind.wrap_i64]; omega
      have q6 : IntKind.i64.wrap (j : Int) = (j : Int) := by rw [IntKind.wrap_i64]; omega
      have HI : Hid (i < 128) := by show _ < _; omega
      have HJ : Hid (j < 8) := by show _ < _; omega
      clear hi hj hin hbit
      by_cases hoth : other = kind
      · have hne : ((other : Int) != (kind : Int)) = false := by simp [hoth]
        clear hoth
        go_wp2_with (go_at_call 15; refine HS.out.mono ?_; rintro e w' ⟨rfl, rfl⟩)
        have HOx := HO2
        have HBx := HB2
        obtain ⟨a, ha⟩ : ∃ a, (frameOf kind bs)[i]? = some a := ⟨(frameOf kind bs)[i]'(by rw [frameOf_length hle]; exact HI.out), by simp⟩
        have hownr := HOx.out.1
        rw [frameOf_length hle] at hownr
        have k1 := hownr.cellAt i (by have := HI.out; omega)
        rw [cellsB_get ha] at k1
        have f1 := hownr.frozenAt i
        clear hownr
        have ha256 : a < 256 := HOx.out.2.1 a (List.mem_of_getElem? ha)
        have i0 : (0 : Int) ≤ (i : Int) := by omega
        have i1 : (i : Int) < 128 := by have := HI.out; omega
        have j0 : (0 : Int) ≤ (j : Int) := by omega
        have hmin : min j 8 = j := by have := HJ.out; omega
        have hpw : ∃ p : Nat, 2 ^ j = p ∧ p < 256 ∧ 0 < p := ⟨2 ^ j, rfl, Nat.lt_of_lt_of_le (Nat.pow_lt_pow_right (by decide) HJ.out) (by decide), Nat.pow_pos (by decide)⟩
        obtain ⟨p, hp2, hp256, hp0⟩ := hpw
        have s1 : (2 : Int) ^ j = (p : Int) := by rw [← hp2]; simp
        have s2 : IntKind.u8.wrap (p : Int) = (p : Int) := by rw [IntKind.wrap_u8']; omega
        have s3 := u8_xor_nat a p ha256 hp256
        have hx256 : a ^^^ p < 256 := Nat.xor_lt_two_pow (n := 8) ha256 hp256
        have hxne : a ≠ a ^^^ p := by
          intro e
          have : a ^^^ 0 = a ^^^ p := by rw [Nat.xor_zero]; exact e
          have := xor_cancel_l this
          omega
        have HS2 := hide (And.intro hx256 hxne)
        have HA := hide ha
        clear hp2 ha hx256 hxne hp0
        generalize a ^^^ p = y at s3 HS2
        go_region
        have hlen := frameOf_length (kind := kind) hle
        have hown3 := HOx.out.set (g := gu) (n := 128) (cap := cu) (i := i) (b := y) HI.out HS2.out.1
        have HO3 := hide (hown3.below (below_drew _))
        have HE3 : Hid (∀ k, gErr k ((frameOf kind bs).set i y) = 12) := fun k => gErr_set hlen HOx.out.2.1 (frame_sum hle) HA.out HS2.out.1 HS2.out.2
        have HB3 := hide ((HBx.out.setCell (p := ⟨gu, i, none⟩) HGU.out (.int .u8 (y : Int))).drew)
        have HL3 := hide (HL.out.below HB3.out)
        clear hown3 hlen k1 f1
        generalize hw3 : (World.setCell _ ⟨gu, i, none⟩ (.int .u8 (y : Int))).drew = w3 at *
        clear hw3
        have HG3 := hide (get_any kind _ _ w3 HL3.out HO3.out.bytes)
        rw [HE3.out kind] at HG3
        have hk3 : kOk ((frameOf kind bs).set i y) = false := by unfold kOk; rw [HE3.out]; simp
        generalize (frameOf kind bs).set i y = s3' at *
        go_wp2_with fail
        refine HG3.out.mono ?_
        rintro e w4 ⟨x4, rfl, ho4, hb4⟩
        have HB4 := hide (HB3.out.trans (hb4.mono HB3.out.size))
        have HL4 := hide (HL3.out.below hb4)
        have HK4 := hide (kind_any s3' _ w4 HL4.out (HO3.out.below hb4).bytes)
        rw [hk3] at HK4
        generalize kOf s3' = kk at HK4
        obtain ⟨ax4, nx4, cx4, rfl⟩ := ho4.form'
        rw [errV_code (by decide)]
        clear ho4 hb4 hk3 HG3
        go_wp2_with fail
        refine HK4.out.mono ?_
        rintro e w5 ⟨rfl, hb5⟩
        have HB5 := hide (HB4.out.trans (hb5.mono HB4.out.size))
        have HIS := hide (is_any 12 12 w5)
        rw [errV_code (by decide)] at HIS
        have HAW := hide (awake_any w5 (HL.out.below HB5.out))
        clear hb5 HK4
        go_wp2_with (first
          | (go_at_call 14; refine HIS.out.mono ?_; rintro e w' ⟨rfl, rfl⟩)
          | (go_at_call 9; refine HAW.out.mono ?_; rintro e w' ⟨rfl, hb6⟩))
        go_ret
        exact ⟨rfl, HB5.out.trans (hb6.mono HB5.out.size)⟩
      · have hne : ((other : Int) != (kind : Int)) = true := by simp; omega
        have HG2 := hide (get_any other _ _ w2 HL2.out HO2.out.bytes)
        rw [gErr_other hle hoth] at HG2
        generalize gPay other (frameOf kind bs) = pay2 at HG2
        clear hoth
        go_wp2_with (go_at_call 15; refine HS.out.mono ?_; rintro e w' ⟨rfl, rfl⟩)
        refine HG2.out.mono ?_
        rintro e wx ⟨x9, rfl, ho9, hb9⟩
        have HOx := hide (HO2.out.below hb9)
        have HBx := hide (HB2.out.trans (hb9.mono HB2.out.size))
        have HIS9 := hide (is_any 13 13 wx)
        rw [errV_code (by decide)] at HIS9 ⊢
        obtain ⟨ax9, nx9, cx9, rfl⟩ := ho9.form'
        clear ho9 hb9 HG2
        go_wp2_with (go_at_call 14; refine HIS9.out.mono ?_; rintro e w' ⟨rfl, rfl⟩)
        obtain ⟨a, ha⟩ : ∃ a, (frameOf kind bs)[i]? = some a := ⟨(frameOf kind bs)[i]'(by rw [frameOf_length hle]; exact HI.out), by simp⟩
        have hownr := HOx.out.1
        rw [frameOf_length hle] at hownr
        have k1 := hownr.cellAt i (by have := HI.out; omega)
        rw [cellsB_get ha] at k1
        have f1 := hownr.frozenAt i
        clear hownr
        have ha256 : a < 256 := HOx.out.2.1 a (List.mem_of_getElem? ha)
        have i0 : (0 : Int) ≤ (i : Int) := by omega
        have i1 : (i : Int) < 128 := by have := HI.out; omega
        have j0 : (0 : Int) ≤ (j : Int) := by omega
        have hmin : min j 8 = j := by have := HJ.out; omega
        have hpw : ∃ p : Nat, 2 ^ j = p ∧ p < 256 ∧ 0 < p := ⟨2 ^ j, rfl, Nat.lt_of_lt_of_le (Nat.pow_lt_pow_right (by decide) HJ.out) (by decide), Nat.pow_pos (by decide)⟩
        obtain ⟨p, hp2, hp256, hp0⟩ := hpw
        have s1 : (2 : Int) ^ j = (p : Int) := by rw [← hp2]; simp
        have s2 : IntKind.u8.wrap (p : Int) = (p : Int) := by rw [IntKind.wrap_u8']; omega
        have s3 := u8_xor_nat a p ha256 hp256
        have hx256 : a ^^^ p < 256 := Nat.xor_lt_two_pow (n := 8) ha256 hp256
        have hxne : a ≠ a ^^^ p := by
          intro e
          have : a ^^^ 0 = a ^^^ p := by rw [Nat.xor_zero]; exact e
          have := xor_cancel_l this
          omega
        have HS2 := hide (And.intro hx256 hxne)
        have HA := hide ha
        clear hp2 ha hx256 hxne hp0
        generalize a ^^^ p = y at s3 HS2
        go_region
        have hlen := frameOf_length (kind := kind) hle
        have hown3 := HOx.out.set (g := gu) (n := 128) (cap := cu) (i := i) (b := y) HI.out HS2.out.1
        have HO3 := hide (hown3.below (below_drew _))
        have HE3 : Hid (∀ k, gErr k ((frameOf kind bs).set i y) = 12) := fun k => gErr_set hlen HOx.out.2.1 (frame_sum hle) HA.out HS2.out.1 HS2.out.2
        have HB3 := hide ((HBx.out.setCell (p := ⟨gu, i, none⟩) HGU.out (.int .u8 (y : Int))).drew)
        have HL3 := hide (HL.out.below HB3.out)
        clear hown3 hlen k1 f1
        generalize hw3 : (World.setCell _ ⟨gu, i, none⟩ (.int .u8 (y : Int))).drew = w3 at *
        clear hw3
        have HG3 := hide (get_any kind _ _ w3 HL3.out HO3.out.bytes)
        rw [HE3.out kind] at HG3
        have hk3 : kOk ((frameOf kind bs).set i y) = false := by unfold kOk; rw [HE3.out]; simp
        generalize (frameOf kind bs).set i y = s3' at *
        go_wp2_with fail
        refine HG3.out.mono ?_
        rintro e w4 ⟨x4, rfl, ho4, hb4⟩
        have HB4 := hide (HB3.out.trans (hb4.mono HB3.out.size))
        have HL4 := hide (HL3.out.below hb4)
        have HK4 := hide (kind_any s3' _ w4 HL4.out (HO3.out.below hb4).bytes)
        rw [hk3] at HK4
        generalize kOf s3' = kk at HK4
        obtain ⟨ax4, nx4, cx4, rfl⟩ := ho4.form'
        rw [errV_code (by decide)]
        clear ho4 hb4 hk3 HG3
        go_wp2_with fail
        refine HK4.out.mono ?_
        rintro e w5 ⟨rfl, hb5⟩
        have HB5 := hide (HB4.out.trans (hb5.mono HB4.out.size))
        have HIS := hide (is_any 12 12 w5)
        rw [errV_code (by decide)] at HIS
        have HAW := hide (awake_any w5 (HL.out.below HB5.out))
        clear hb5 HK4
        go_wp2_with (first
          | (go_at_call 14; refine HIS.out.mono ?_; rintro e w' ⟨rfl, rfl⟩)
          | (go_at_call 9; refine HAW.out.mono ?_; rintro e w' ⟨rfl, hb6⟩))
        go_ret
        exact ⟨rfl, HB5.out.trans (hb6.mono HB5.out.size)⟩
    · have HAW : Hid (∀ wz, Below w.heap.size w wz → Calls Tryd.prog 9 #[] wz fun ev w' => ev = .returned (.bool true) ∧ Below wz.heap.size wz w') := fun wz h => awake_any wz (HL.out.below h)
      by_cases hneg : bit < 0
      · have z0 : decide (bit < 0) = true := by simpa using hneg
        clear hin hbit
        by_cases hoth : other = kind
        · have hne : ((other : Int) != (kind : Int)) = false := by simp [hoth]
          clear hoth
          go_wp2_with (first
            | (go_at_call 15; refine HS.out.mono ?_; rintro e w' ⟨rfl, rfl⟩)
            | (go_at_call 9; refine (HAW.out _ HB2.out).mono ?_; rintro e w' ⟨rfl, hb6⟩))
          go_ret
          exact ⟨rfl, HB2.out.trans (hb6.mono HB2.out.size)⟩
        · have hne : ((other : Int) != (kind : Int)) = true := by simp; omega
          have HG2 := hide (get_any other _ _ w2 HL2.out HO2.out.bytes)
          rw [gErr_other hle hoth] at HG2
          generalize gPay other (frameOf kind bs) = pay2 at HG2
          clear hoth
          go_wp2_with (go_at_call 15; refine HS.out.mono ?_; rintro e w' ⟨rfl, rfl⟩)
          refine HG2.out.mono ?_
          rintro e wx ⟨x9, rfl, ho9, hb9⟩
          have HBx := hide (HB2.out.trans (hb9.mono HB2.out.size))
          have HIS9 := hide (is_any 13 13 wx)
          rw [errV_code (by decide)] at HIS9 ⊢
          obtain ⟨ax9, nx9, cx9, rfl⟩ := ho9.form'
          clear ho9 hb9 HG2
          go_wp2_with (first
            | (go_at_call 14; refine HIS9.out.mono ?_; rintro e w' ⟨rfl, rfl⟩)
            | (go_at_call 9; refine (HAW.out _ HBx.out).mono ?_; rintro e w' ⟨rfl, hb6⟩))
          go_ret
          exact ⟨rfl, HBx.out.trans (hb6.mono HBx.out.size)⟩
      · have z0 : decide (bit < 0) = false := by simpa using hneg
        have z1 : decide ((1024 : Int) ≤ bit) = true := by simp; omega
        clear hin hbit
        by_cases hoth : other = kind
        · have hne : ((other : Int) != (kind : Int)) = false := by simp [hoth]
          clear hoth
          go_wp2_with (first
            | (go_at_call 15; refine HS.out.mono ?_; rintro e w' ⟨rfl, rfl⟩)
            | (go_at_call 9; refine (HAW.out _ HB2.out).mono ?_; rintro e w' ⟨rfl, hb6⟩))
          go_ret
          exact ⟨rfl, HB2.out.trans (hb6.mono HB2.out.size)⟩
        · have hne : ((other : Int) != (kind : Int)) = true := by simp; omega
          have HG2 := hide (get_any other _ _ w2 HL2.out HO2.out.bytes)
          rw [gErr_other hle hoth] at HG2
          generalize gPay other (frameOf kind bs) = pay2 at HG2
          clear hoth
          go_wp2_with (go_at_call 15; refine HS.out.mono ?_; rintro e w' ⟨rfl, rfl⟩)
          refine HG2.out.mono ?_
          rintro e wx ⟨x9, rfl, ho9, hb9⟩
          have HBx := hide (HB2.out.trans (hb9.mono HB2.out.size))
          have HIS9 := hide (is_any 13 13 wx)
          rw [errV_code (by decide)] at HIS9 ⊢
          obtain ⟨ax9, nx9, cx9, rfl⟩ := ho9.form'
          clear ho9 hb9 HG2
          go_wp2_with (first
            | (go_at_call 14; refine HIS9.out.mono ?_; rintro e w' ⟨rfl, rfl⟩)
            | (go_at_call 9; refine (HAW.out _ HBx.out).mono ?_; rintro e w' ⟨rfl, hb6⟩))
          go_ret
          exact ⟨rfl, HBx.out.trans (hb6.mono HBx.out.size)⟩
end Go.Proofs.YtlgmfiboekmhkaaDoor
