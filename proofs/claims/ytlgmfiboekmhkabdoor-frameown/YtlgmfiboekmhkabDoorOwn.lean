/- FrameOwn walked: it answers true. -/
import Derived.Test.YtlgmfiboekmhkabDoorOwn0
import Derived.Test.YtlgmfiboekmhkabDoorLong
import Derived.Deep.RegionWith
namespace Go.Proofs.YtlgmfiboekmhkabDoor
open Go.RowKit Go.Extern

set_option maxRecDepth 100000 in
set_option maxHeartbeats 2000000 in
theorem own_any (kind : Nat) (bs : List Nat) (ps : List Pc) (pv lv : Value) (w : World) (hk : kind < 256) (hL : Laid w) (hp : Bytes w pv bs) (hl : Pieces w lv ps) :
    Calls Tryd.prog 3 #[.int .u8 (kind : Int), pv, lv] w fun e w' => e = .returned (.bool true) ∧ Below w.heap.size w w' := by
  have HPV := hide hp
  have HL := hide hL
  have HK := hide hk
  obtain ⟨ap, cp, gp, op, rfl, -⟩ := hp
  obtain ⟨al, cl, gl, ol, rfl, h2, h3, -⟩ := hl
  have H2 := hide h2
  have H3 := hide h3
  clear hL hk h2 h3
  by_cases hbig : 122 < bs.length ∨ 100 < ps.length
  · have HAW := hide (awake_any w HL.out)
    by_cases h1 : 122 < bs.length
    · have h1' : (122 : Int) < (bs.length : Int) := by omega
      clear hbig
      go_enter Tryd.func3, Tryd.ntmps3
      go_wp2_with fail
      refine HAW.out.mono ?_
      rintro e w' ⟨rfl, hb2⟩
      have HB2 := hide hb2
      clear hb2
      go_wp2
      go_ret
      exact ⟨rfl, HB2.out⟩
    · have h1' : ¬ (122 : Int) < (bs.length : Int) := by omega
      have h2' : (100 : Int) < (ps.length : Int) := by omega
      clear hbig
      go_enter Tryd.func3, Tryd.ntmps3
      go_wp2_with fail
      refine HAW.out.mono ?_
      rintro e w' ⟨rfl, hb2⟩
      have HB2 := hide hb2
      clear hb2
      go_wp2
      go_ret
      exact ⟨rfl, HB2.out⟩
  · have h1' : ¬ (122 : Int) < (bs.length : Int) := by omega
    have h2' : ¬ (100 : Int) < (ps.length : Int) := by omega
    have hle : bs.length ≤ 122 := by omega
    have hpl : ps.length ≤ 100 := by omega
    clear hbig
    go_enter Tryd.func3, Tryd.ntmps3
    go_wp2_with fail
    refine (copy_any bs _ w HPV.out).mono ?_
    rintro e w1 ⟨iv, rfl, hoi, hb1⟩
    have HI1 := hide hoi
    have HBL1 := hide hb1
    obtain ⟨ai, ci, rfl⟩ := hoi.form
    have HPU := hide (put_any kind HK.out bs _ w1 (HL.out.below hb1) hoi.bytes hle)
    clear hoi hb1
    go_wp2_with fail
    refine HPU.out.mono ?_
    rintro e w2 ⟨av2, rfl, hoa, hb2⟩
    rw [errV_zero]
    have HA2 := hide hoa
    have HBL2 := hide (HBL1.out.trans (hb2.mono HBL1.out.size))
    have HIL := hide HI1.out.lt
    have HAG : Hid (∀ k, av2.ownBlock = some k → w1.heap.size ≤ k) := fun k hk => (hoa.lt k hk).1
    have HOS1 : Hid (Over w2 w2 w.heap.size (.slice ai bs.length ci) bs.length) := Over.start (HI1.out.below hb2)
    obtain ⟨aa, na, ca, rfl⟩ := hoa.form'
    have HIA : Hid (∀ k, (Value.slice aa na ca).ownBlock = some k → (Value.slice ai bs.length ci).ownBlock ≠ some k) := fun k hk e => by have := (HIL.out k e).2; have := HAG.out k hk; omega
    have HIW : Hid (∀ k, (Value.slice ai bs.length ci).ownBlock = some k → w.heap.size ≤ k) := fun k hk => (HIL.out k hk).1
    clear hoa hb2 HPU HI1 HBL1 HIL HAG
    go_wp2
    go_loopg [49] bs.length (fun k i wz => ∃ j, j + k = bs.length ∧ i = .int .i64 (j : Int) ∧ Over w2 wz w.heap.size (.slice ai bs.length ci) bs.length)
    case atStart => exact ⟨0, by omega, rfl, HOS1.out⟩
    case round =>
      obtain ⟨j, hj, rfl, hov⟩ := hrel
      cases gk with
      | succ m =>
        have hlt : (j : Int) < (bs.length : Int) := by omega
        have hb0 : (0 : Int) ≤ (j : Int) := by omega
        obtain ⟨g, rfl⟩ := hov.form (by omega)
        obtain ⟨b, hb, k1, f1, hset⟩ := hov.at_ (show j < bs.length by omega)
        have q : IntKind.u8.wrap ((b : Int) + 1) = (((b + 1) % 256 : Nat) : Int) := by rw [IntKind.wrap_u8']; omega
        have HY : Hid ((b + 1) % 256 < 256) := Nat.mod_lt _ (by decide)
        generalize (b + 1) % 256 = y at q HY
        have HSET := hide hset
        clear hset hov
        go_wp2
        go_roundg m
        case measure => omega
        case rel => exact ⟨j + 1, by omega, by go_num, HSET.out y HY.out⟩
      | zero =>
        have hend : ¬ (j : Int) < (bs.length : Int) := by omega
        have HOV := hide hov
        clear hov hj
        have HA3 := hide (HOV.out.own HA2.out HIA.out)
        have HBL3 := hide (HBL2.out.trans (HOV.out.below HBL2.out.size HIW.out))
        clear HOV HOS1 HA2 HBL2 HIA HIW
        have HPU2 := hide (put_any kind HK.out bs _ wr (HL.out.below HBL3.out) (HPV.out.below HBL3.out) hle)
        go_wp2_with fail
        refine HPU2.out.mono ?_
        rintro e w4 ⟨bv4, rfl, hob, hb4⟩
        rw [errV_zero]
        have HA4 := hide (HA3.out.below hb4)
        have HB4o := hide hob
        have HBL4 := hide (HBL3.out.trans (hb4.mono HBL3.out.size))
        obtain ⟨ab4, nb4, cb4, rfl⟩ := hob.form'
        clear hob hb4 HPU2 HA3 HBL3
        have HG1 := hide (get_any kind _ _ w4 (HL.out.below HBL4.out) HA4.out.bytes)
        rw [gErr_frame hle, gPay_frame hle] at HG1
        go_wp2_with fail
        refine HG1.out.mono ?_
        rintro e w5 ⟨xv, rfl, hox, hb5⟩
        rw [errV_zero]
        have HA5 := hide (HA4.out.below hb5)
        have HB5o := hide (HB4o.out.below hb5)
        have HBL5 := hide (HBL4.out.trans (hb5.mono HBL4.out.size))
        have HXG : Hid (∀ k, xv.ownBlock = some k → w4.heap.size ≤ k) := fun k hk => (hox.lt k hk).1
        have HX5 := hide (hox.base (base' := w.heap.size) HBL4.out.size)
        have HAL := hide (HA4.out.lt)
        have HBLt := hide (HB4o.out.lt)
        obtain ⟨ax, cx, rfl⟩ := hox.form
        have HOS2 : Hid (Over w5 w5 w.heap.size (.slice ax bs.length cx) bs.length) := Over.start HX5.out
        have HXA : Hid (∀ k, (Value.slice aa na ca).ownBlock = some k → (Value.slice ax bs.length cx).ownBlock ≠ some k) := fun k hk e => by have := (HAL.out k hk).2; have := HXG.out k e; omega
        have HXB : Hid (∀ k, (Value.slice ab4 nb4 cb4).ownBlock = some k → (Value.slice ax bs.length cx).ownBlock ≠ some k) := fun k hk e => by have := (HBLt.out k hk).2; have := HXG.out k e; omega
        have HXW : Hid (∀ k, (Value.slice ax bs.length cx).ownBlock = some k → w.heap.size ≤ k) := fun k hk => Nat.le_trans HBL4.out.size (HXG.out k hk)
        clear hox hb5 HG1 HA4 HB4o HBL4 HXG HX5 HAL HBLt
        go_wp2
        go_loopg [73] bs.length (fun k i wz => ∃ j, j + k = bs.length ∧ i = .int .i64 (j : Int) ∧ Over w5 wz w.heap.size (.slice ax bs.length cx) bs.length)
        case atStart => exact ⟨0, by omega, rfl, HOS2.out⟩
        case round =>
          obtain ⟨j, hj, rfl, hov⟩ := hrel
          cases gk with
          | succ m =>
            have hlt : (j : Int) < (bs.length : Int) := by omega
            have hb0 : (0 : Int) ≤ (j : Int) := by omega
            obtain ⟨g, rfl⟩ := hov.form (by omega)
            obtain ⟨b, hb, k1, f1, hset⟩ := hov.at_ (show j < bs.length by omega)
            have q : IntKind.u8.wrap ((b : Int) + 1) = (((b + 1) % 256 : Nat) : Int) := by rw [IntKind.wrap_u8']; omega
            have HY : Hid ((b + 1) % 256 < 256) := Nat.mod_lt _ (by decide)
            generalize (b + 1) % 256 = y at q HY
            have HSET := hide hset
            clear hset hov
            go_wp2
            go_roundg m
            case measure => omega
            case rel => exact ⟨j + 1, by omega, by go_num, HSET.out y HY.out⟩
          | zero =>
            have hend : ¬ (j : Int) < (bs.length : Int) := by omega
            have HOV := hide hov
            clear hov hj
            have HA7 := hide (HOV.out.own HA5.out HXA.out)
            have HB7' := hide (HOV.out.own HB5o.out HXB.out)
            have HBL7 := hide (HBL5.out.trans (HOV.out.below HBL5.out.size HXW.out))
            clear HOV HOS2 HA5 HB5o HBL5 HXA HXB HXW
            have HG2 := hide (get_any kind _ _ wr (HL.out.below HBL7.out) HA7.out.bytes)
            rw [gErr_frame hle, gPay_frame hle] at HG2
            go_wp2_with fail
            refine HG2.out.mono ?_
            rintro e w8 ⟨yv, rfl, hoy, hb8⟩
            rw [errV_zero]
            have HS1 := hide (same_any _ _ _ _ w8 (HA7.out.below hb8).bytes (HB7'.out.below hb8).bytes)
            have HBL8 := hide (HBL7.out.trans (hb8.mono HBL7.out.size))
            have HS2 := hide (same_any _ _ _ _ w8 hoy.bytes (HPV.out.below HBL8.out))
            rw [decide_eq_true rfl] at HS1 HS2
            obtain ⟨ay, ny, cy, rfl⟩ := hoy.form'
            clear hoy hb8 HG2 HA7 HB7' HBL7
            go_wp2_with fail
            refine HS1.out.mono ?_
            rintro e wq ⟨rfl, rfl⟩
            go_wp2_with fail
            refine HS2.out.mono ?_
            rintro e wq ⟨rfl, rfl⟩
            clear HS1 HS2
            obtain ⟨w8, rfl⟩ : ∃ w8 : World, w8 = wq := ⟨_, rfl⟩
            go_wp2_with fail
            refine (newPacker_any w8).mono ?_
            rintro e w9 ⟨rfl, hp9, hb9⟩
            have HPK9 : Hid (PkS w9 w8.heap.size w8.heap.size none true (lows (ps.take 0))) := by
              rw [List.take_zero]
              exact hp9
            have HB9 := hide (HBL8.out.trans (hb9.mono HBL8.out.size))
            have HW8 : Hid (w.heap.size ≤ w8.heap.size) := HBL8.out.size
            clear hp9 hb9 HBL8
            go_wp2
            go_loopg [106] ps.length (fun k i wz => ∃ l row, l + k = ps.length ∧ i = .int .i64 (l : Int) ∧ PkS wz w8.heap.size w8.heap.size row true (lows (ps.take l)) ∧ Below w.heap.size w wz)
            case atStart => exact ⟨0, none, by omega, rfl, HPK9.out, HB9.out⟩
            case round =>
              clear HPK9 HB9
              obtain ⟨l, row, hl, rfl, hpk, hbw⟩ := hrel
              have HPK := hide hpk
              have HBW := hide hbw
              clear hpk hbw
              cases gk with
              | succ m =>
                have hll : l < ps.length := by omega
                have hlt2 : (l : Int) < (ps.length : Int) := by omega
                have hl0 : (0 : Int) ≤ (l : Int) := by omega
                obtain ⟨p, hp⟩ : ∃ p, ps[l]? = some p := ⟨ps[l], by simp [hll]⟩
                obtain rfl := H2.out (by omega)
                obtain ⟨q1, q2⟩ := H3.out l p hp
                have k1 : wr.cell? ⟨gl, ol + l * 2, none⟩ = some (.int .i64 p.size) := by rw [HBW.out.cell (cell_lt q1)]; exact q1
                have k2 : wr.cell? ⟨gl, ol + l * 2 + 1, none⟩ = some (.int .i64 p.n) := by rw [HBW.out.cell (cell_lt q2)]; exact q2
                have m1 := (new_ne k1).symm
                have HTK := hide (take_snoc hp)
                obtain ⟨sz, n⟩ := p
                have hlw := low_lt n
                have hla := low_and n
                have hlf := low_fit n
                have HLS : Hid (lows (ps.take (l + 1)) = lows (ps.take l) ++ [low n]) := by show _ = _; rw [HTK.out, lows_snoc]
                have HLB : Hid ((lows (ps.take l)).length + 8 * 1 + 8 ≤ 140737488355328) := by show _ ≤ _; rw [lows_length]; simp; omega
                have HBE := hide (be_one (low n) hlw)
                have hsz2 : ∀ o : Obj, (wr.alloc o).heap.size = wr.heap.size + 1 := by simp
                generalize low n = x at *
                have HINT := hide (ints_lit (wr.alloc (.cells #[.int .i64 sz, .int .i64 n] 34)) [(x : Int)] (by simp; omega) (by simp))
                have HST := hide (PByte_step _ _ row _ _ [(x : Int)] _ _ ((HPK.out.alloc (.cells #[.int .i64 sz, .int .i64 n] 34)).alloc (.cells #[.int .i64 (x : Int)] 3)) HINT.out HLB.out (hnr_lit (HPK.out.alloc (.cells #[.int .i64 sz, .int .i64 n] 34)) 1 1 1))
                rw [show [(x : Int)].length = 1 from rfl, hsz2] at HST
                have HBA := hide ((HBW.out.alloc HBW.out.size (.cells #[.int .i64 sz, .int .i64 n] 34)).alloc (by have := HBW.out.size; simp; omega) (.cells #[.int .i64 (x : Int)] 3))
                have HEND : Hid (∀ wz, Stepped 1 w8.heap.size w8.heap.size row true (lows (ps.take l)) [(x : Int)] ((wr.alloc (.cells #[.int .i64 sz, .int .i64 n] 34)).alloc (.cells #[.int .i64 (x : Int)] 3)) wz → ∃ row', PkS wz w8.heap.size w8.heap.size row' true (lows (ps.take (l + 1))) ∧ Below w.heap.size w wz) := fun wz h => by
                  obtain ⟨row', h1, h2, -⟩ := h
                  refine ⟨row', ?_, HBA.out.trans ((Stepped.below ((HPK.out.alloc (.cells #[.int .i64 sz, .int .i64 n] 34)).alloc (.cells #[.int .i64 (x : Int)] 3)) h2).mono HW8.out)⟩
                  rw [HLS.out]
                  have e1 : (true && [(x : Int)].all (fitB · 1)) = true := by simp [hlf]
                  have e2 : bytesOf 1 [(x : Int)] = [x] := by simp [bytesOf]; exact HBE.out
                  rw [e1, e2] at h1
                  exact h1
                clear hsz2 HINT q1 q2 hp hlw hlf HPK HBW HLS HLB HBE HTK HBA
                go_wp2_with fail
                refine HST.out.mono ?_
                rintro e w10 ⟨rfl, hst⟩
                have HNEW := hide (HEND.out w10 hst)
                clear hst HST HEND
                go_wp2
                go_roundg m
                case measure => omega
                case rel =>
                  obtain ⟨row', h1, h2⟩ := HNEW.out
                  exact ⟨l + 1, row', by omega, by go_num, h1, h2⟩
              | zero =>
                have hend2 : ¬ (l : Int) < (ps.length : Int) := by omega
                have htk : ps.take l = ps := List.take_of_length_le (by omega)
                rw [htk] at HPK
                clear hl htk
                obtain ⟨w10, rfl⟩ : ∃ w10 : World, w10 = wr := ⟨_, rfl⟩
                have HY := hide (pkS_bytes _ _ _ _ _ w10 HPK.out)
                rw [err_true, lst_true] at HY
                go_wp2_with fail
                refine HY.out.mono ?_
                rintro e w11 ⟨uu, rfl, hou, hb11⟩
                have HB11 := hide (HBW.out.trans (hb11.mono HBW.out.size))
                have HPK11 := hide (HPK.out.below hb11)
                have HBK : Hid (w8.heap.size < w10.heap.size) := Pk.block HPK.out
                have HRK : Hid (∀ k, row = some k → k < w10.heap.size) := fun k hk => (Pk.row_ge HPK.out k hk).2
                have HSZ11 : Hid (w10.heap.size ≤ w11.heap.size) := hb11.size
                have HOU := hide (hou.base (base' := w.heap.size) HBW.out.size)
                have HUG : Hid (∀ k, uu.ownBlock = some k → w10.heap.size ≤ k) := fun k hk => (hou.lt k hk).1
                obtain ⟨au, cu, rfl⟩ := hou.form
                rw [lows_length] at *
                have HOS4 : Hid (Over w11 w11 w.heap.size (.slice au ps.length cu) ps.length) := by
                  have h := Over.start HOU.out
                  rw [lows_length] at h
                  exact h
                have HUGE : Hid (∀ k, (Value.slice au ps.length cu).ownBlock = some k → w.heap.size ≤ k) := fun k hk => Nat.le_trans HBW.out.size (HUG.out k hk)
                have HUGE2 : Hid (∀ k, (Value.slice au ps.length cu).ownBlock = some k → w10.heap.size ≤ k) := HUG.out
                clear hou hb11 HY HPK HBW HOU HUG
                go_wp2
                go_loopg [124] ps.length (fun k i wz => ∃ j, j + k = ps.length ∧ i = .int .i64 (j : Int) ∧ Over w11 wz w.heap.size (.slice au ps.length cu) ps.length)
                case atStart => exact ⟨0, by omega, rfl, HOS4.out⟩
                case round =>
                  obtain ⟨j, hj, rfl, hov⟩ := hrel
                  cases gk with
                  | succ m =>
                    have hlt : (j : Int) < (ps.length : Int) := by omega
                    have hb0 : (0 : Int) ≤ (j : Int) := by omega
                    obtain ⟨g, rfl⟩ := hov.form (by omega)
                    obtain ⟨b, hb, k1, f1, hset⟩ := hov.at_ (show j < ps.length by omega)
                    have q : IntKind.u8.wrap ((b : Int) + 1) = (((b + 1) % 256 : Nat) : Int) := by rw [IntKind.wrap_u8']; omega
                    have HY : Hid ((b + 1) % 256 < 256) := Nat.mod_lt _ (by decide)
                    generalize (b + 1) % 256 = y at q HY
                    have HSET := hide hset
                    clear hset hov
                    go_wp2
                    go_roundg m
                    case measure => omega
                    case rel => exact ⟨j + 1, by omega, by go_num, HSET.out y HY.out⟩
                  | zero =>
                    have hend : ¬ (j : Int) < (ps.length : Int) := by omega
                    have HOV := hide hov
                    clear hov hj
                    have HPK12 := hide (PkS.older (H := w10.heap.size) HPK11.out HBK.out HRK.out (Frm.of_grown (b := w11.heap.size) HOV.out.2) (HSZ11.out) HUGE2.out)
                    have HB12 := hide (HB11.out.trans (HOV.out.below HB11.out.size HUGE.out))
                    have HY := hide (pkS_bytes _ _ _ _ _ wr HPK12.out)
                    rw [err_true, lst_true] at HY
                    clear HOV HPK11 HOS4 HUGE HUGE2 HB11 HSZ11 HBK HRK
                    go_wp2_with fail
                    refine HY.out.mono ?_
                    rintro e w13 ⟨vv, rfl, hov13, hb13⟩
                    have HOV13 := hide hov13
                    have HB13 := hide (HB12.out.trans (hb13.mono HB12.out.size))
                    have HVB : Hid (w.heap.size ≤ wr.heap.size) := HB12.out.size
                    have HVG : Hid (∀ k, vv.ownBlock = some k → w.heap.size ≤ k ∧ k < w13.heap.size) := fun k hk => ⟨Nat.le_trans HB12.out.size (hov13.lt k hk).1, (hov13.lt k hk).2⟩
                    obtain ⟨av, cv, rfl⟩ := hov13.form
                    rw [lows_length] at *
                    have hnel : ((ps.length : Int) != (ps.length : Int)) = false := by simp
                    have HNU := hide (newUnpacker_own _ _ w13 HOV13.out.bytes)
                    clear hov13 hb13 HY HPK12 HB12
                    go_wp2_with fail
                    refine HNU.out.mono ?_
                    rintro e w14 ⟨ub, rfl, huo, hb14⟩
                    have HUO := hide huo
                    have HUB : Hid (w.heap.size ≤ ub) := by obtain ⟨_, _, _, _, _, h⟩ := huo; exact Nat.le_trans HB13.out.size h
                    have HB14 := hide (HB13.out.trans (hb14.mono HB13.out.size))
                    have HOS : Hid (Over w14 w14 w.heap.size (.slice av ps.length cv) ps.length) := by
                      have h := Over.start ((HOV13.out.base (base' := w.heap.size) HVB.out).below hb14)
                      rw [lows_length] at h
                      exact h
                    have HVGE : Hid (∀ k, (Value.slice av ps.length cv).ownBlock = some k → w.heap.size ≤ k) := fun k hk => (HVG.out k hk).1
                    have HVLT : Hid (∀ k, (Value.slice av ps.length cv).ownBlock = some k → k < w13.heap.size) := fun k hk => (HVG.out k hk).2
                    clear huo hb14 HNU HOV13 HB13 HVG
                    go_wp2
                    go_loopg [152] ps.length (fun k i wz => ∃ j, j + k = ps.length ∧ i = .int .i64 (j : Int) ∧ Over w14 wz w.heap.size (.slice av ps.length cv) ps.length)
                    case atStart => exact ⟨0, by omega, rfl, HOS.out⟩
                    case round =>
                      obtain ⟨j, hj, rfl, hov⟩ := hrel
                      cases gk with
                      | succ m =>
                        have hlt : (j : Int) < (ps.length : Int) := by omega
                        have hb0 : (0 : Int) ≤ (j : Int) := by omega
                        obtain ⟨g, rfl⟩ := hov.form (by omega)
                        obtain ⟨b, hb, k1, f1, hset⟩ := hov.at_ (show j < ps.length by omega)
                        have HSET := hide hset
                        clear hset hov
                        go_wp2
                        go_roundg m
                        case measure => omega
                        case rel => exact ⟨j + 1, by omega, by go_num, HSET.out 0 (by decide)⟩
                      | zero =>
                        have hend : ¬ (j : Int) < (ps.length : Int) := by omega
                        have HOV := hide hov
                        clear hov hj
                        have HUS : Hid (Unp wr ub (lows (ps.drop 0)) false) := by
                          rw [List.drop_zero]
                          exact (HUO.out.grown HOV.out.2 HVLT.out).unp
                        have HB15 := hide (HB14.out.trans (HOV.out.below HB14.out.size HVGE.out))
                        clear HOV HUO HOS HVLT HVGE HB14
                        go_wp2
                        go_loopg [161] ps.length (fun k i wz => ∃ l, l + k = ps.length ∧ i = .int .i64 (l : Int) ∧ Unp wz ub (lows (ps.drop l)) false ∧ Below w.heap.size w wz)
                        case atStart => exact ⟨0, by omega, rfl, HUS.out, HB15.out⟩
                        case round =>
                          obtain ⟨l, hl, rfl, hu, hbw⟩ := hrel
                          have HU := hide hu
                          have HBW := hide hbw
                          have HUL : Hid (ub < wr.heap.size) := by
                            obtain ⟨_, _, _, h, -⟩ := hu
                            rcases Nat.lt_or_ge ub wr.heap.size with q | q
                            · exact q
                            · rw [Array.getElem?_eq_none q] at h; cases h
                          clear hu hbw
                          cases gk with
                          | zero =>
                            have hend2 : ¬ (l : Int) < (ps.length : Int) := by omega
                            have hdr : ps.drop l = [] := List.drop_of_length_le (by omega)
                            rw [hdr] at HU
                            have HDN := hide (done_any ub _ _ _ HU.out)
                            rw [show errV (if false || decide (0 < (lows []).length) then 14 else 0) = .nilIface from rfl] at HDN
                            have HAW := hide (awake_any _ (HL.out.below HBW.out))
                            clear hdr hl HU
                            go_wp2_with fail
                            refine HDN.out.mono ?_
                            rintro e wq ⟨rfl, rfl⟩
                            go_wp2_with fail
                            refine HAW.out.mono ?_
                            rintro e w20 ⟨rfl, hb20⟩
                            have HB20 := hide (HBW.out.trans (hb20.mono HBW.out.size))
                            clear hb20
                            go_wp2
                            go_ret
                            exact ⟨rfl, HB20.out⟩
                          | succ m =>
                            have hll : l < ps.length := by omega
                            have hlt2 : (l : Int) < (ps.length : Int) := by omega
                            have hl0 : (0 : Int) ≤ (l : Int) := by omega
                            obtain ⟨p, hp⟩ : ∃ p, ps[l]? = some p := ⟨ps[l], by simp [hll]⟩
                            obtain rfl := H2.out (by omega)
                            obtain ⟨q1, q2⟩ := H3.out l p hp
                            have k1 : wr.cell? ⟨gl, ol + l * 2, none⟩ = some (.int .i64 p.size) := by rw [HBW.out.cell (cell_lt q1)]; exact q1
                            have k2 : wr.cell? ⟨gl, ol + l * 2 + 1, none⟩ = some (.int .i64 p.n) := by rw [HBW.out.cell (cell_lt q2)]; exact q2
                            have hdr : lows (ps.drop l) = be 1 (low p.n) ++ lows (ps.drop (l + 1)) := by
                              obtain ⟨hi, rfl⟩ := List.getElem?_eq_some_iff.1 hp
                              rw [be_one _ (low_lt _)]
                              unfold lows; rw [List.drop_eq_getElem_cons hi, List.map_cons]; rfl
                            rw [hdr] at HU
                            have m1 := (new_ne k1).symm
                            obtain ⟨sz, n⟩ := p
                            generalize hrst : lows (ps.drop (l + 1)) = rst at HU hdr
                            have HRST := hide hrst
                            have hlw := low_lt n
                            have hla := low_and n
                            obtain ⟨r1, r2, r3⟩ := read_be 1 (low n) rst (by unfold great; simp; omega) (by omega)
                            generalize low n = x at *
                            have hba : Below wr.heap.size wr (wr.alloc (.cells #[.int .i64 sz, .int .i64 n] 34)).drew := ((Below.refl _ _).alloc (Nat.le_refl _) _).drew
                            have HBA := hide (HBW.out.trans (hba.mono HBW.out.size))
                            have HNX := hide (UByte_any ub _ _ _ (HU.out.below hba))
                            rw [r2, r3, show rdS (be 1 x ++ rst) false 1 = false by simp [rdS, r1]] at HNX
                            have hne : ((x : Int) != (x : Int)) = false := by simp
                            have HD : Hid (∀ wz, (wr.alloc (.cells #[.int .i64 sz, .int .i64 n] 34)).drew.grownBy wz (some ub) → wz.cell? ⟨wr.heap.size, 1, none⟩ = some (.int .i64 n)) := fun wz hg => by
                              refine hg.cell (v := .int .i64 n) ?_ (by have := HUL.out; simp; omega)
                              show (wr.alloc (.cells #[.int .i64 sz, .int .i64 n] 34)).cell? ⟨wr.heap.size, 1, none⟩ = _
                              rw [cell_of_row _ _ _ _ _ _ (heap_alloc_new wr _)]; rfl
                            clear hrst r1 r2 r3 hba q1 q2 hp hdr HU hlw
                            go_wp2
                            go_region_with (go_at_call 14; refine HNX.out.mono ?_; rintro e w5 ⟨rfl, hu5, hg5⟩; have d1 := HD.out w5 hg5)
                            all_goals
                              have HU5 := hide hu5
                              have HB5 := hide (HBA.out.trans (below_grown hg5 HUB.out HBA.out.size))
                              clear hu5 hg5
                              go_wp2
                              go_roundg m
                              case measure => omega
                              case rel => exact ⟨l + 1, by omega, by go_num, by rw [HRST.out]; exact HU5.out, HB5.out⟩
end Go.Proofs.YtlgmfiboekmhkabDoor
