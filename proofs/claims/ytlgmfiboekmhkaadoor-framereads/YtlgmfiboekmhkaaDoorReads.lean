/- FrameReads walked: it answers true. -/
import Derived.Test.YtlgmfiboekmhkaaDoorRead
import Derived.Test.YtlgmfiboekmhkaaDoorGet
namespace Go.Proofs.YtlgmfiboekmhkaaDoor
open Go.RowKit Go.Extern

/-- What the walk keeps: an unpacker and what the document says is left. -/
def UnpL (w : World) (ub : Nat) (L : List Nat) (bad : Bool) : Prop := Unp w ub (if bad then [] else L) bad
theorem readOk_nil (wd : Nat) (h : 0 < wd) : readOk [] wd = false := by simp [readOk]; omega

theorem dn_ok : errV (if false || decide (0 < ([] : List Nat).length) then 14 else 0) = .nilIface := rfl
theorem dn_bad : errV (if true || decide (0 < ([] : List Nat).length) then 14 else 0) = .iface 71 (.int .i64 14) := rfl

set_option maxRecDepth 100000 in
set_option maxHeartbeats 2000000 in
theorem reads_any (bs : List Nat) (ns : List Int) (rest : Bool) (bv nv : Value) (w : World) (hL : Laid w) (hb : Bytes w bv bs) (hn : Ints w nv ns) :
    Calls Tryd.prog 7 #[bv, nv, .bool rest] w fun e w' => e = .returned (.bool true) ∧ Below w.heap.size w w' := by
  have HBS := hide hb
  have HL := hide hL
  obtain ⟨ab, cb, gb, ob, rfl, -⟩ := hb
  obtain ⟨an, cn, gn, on, rfl, h2, h3, h4, -⟩ := hn
  have H2 := hide h2
  have H3 := hide h3
  clear hL h2 h3 h4
  by_cases hbig : 5000 < bs.length ∨ 500 < ns.length
  · have HAW := hide (awake_any w HL.out)
    by_cases h1 : 5000 < bs.length
    · have h1' : (5000 : Int) < (bs.length : Int) := by omega
      clear hbig
      go_enter Tryd.func7, Tryd.ntmps7
      go_wp2_with fail
      refine HAW.out.mono ?_
      rintro e w' ⟨rfl, hb2⟩
      have HB2 := hide hb2
      clear hb2
      go_wp2
      go_ret
      exact ⟨rfl, HB2.out⟩
    · have h1' : ¬ (5000 : Int) < (bs.length : Int) := by omega
      have h2' : (500 : Int) < (ns.length : Int) := by omega
      clear hbig
      go_enter Tryd.func7, Tryd.ntmps7
      go_wp2_with fail
      refine HAW.out.mono ?_
      rintro e w' ⟨rfl, hb2⟩
      have HB2 := hide hb2
      clear hb2
      go_wp2
      go_ret
      exact ⟨rfl, HB2.out⟩
  · have h1' : ¬ (5000 : Int) < (bs.length : Int) := by omega
    have h2' : ¬ (500 : Int) < (ns.length : Int) := by omega
    have hnl : ns.length ≤ 500 := by omega
    clear hbig
    go_enter Tryd.func7, Tryd.ntmps7
    go_wp2_with fail
    refine (copy_any bs _ w HBS.out).mono ?_
    rintro e w1 ⟨c1, rfl, ho1, hb1⟩
    have HO1 := hide ho1.bytes
    have HB1 := hide hb1
    obtain ⟨a1, n1, cc1, rfl⟩ := ho1.form'
    clear ho1 hb1
    go_wp2_with fail
    refine (newUnpacker_any bs _ w1 HO1.out).mono ?_
    rintro e w2 ⟨ub, rfl, hub, hu2, hb2⟩
    have HUB : Hid (w.heap.size ≤ ub) := Nat.le_trans HB1.out.size hub
    have HU2 := hide hu2
    have HB2 := hide (HB1.out.trans (hb2.mono HB1.out.size))
    clear hub hu2 hb2 HO1 HB1
    go_wp2
    go_loopg [8, 9, 34] ns.length (fun k lv bd i wr => ∃ j L bad, j + k = ns.length ∧ i = .int .i64 (j : Int) ∧ bd = .bool bad ∧ Bytes w lv L ∧ UnpL wr ub L bad ∧ Below w.heap.size w wr)
    case atStart => exact ⟨0, bs, false, by omega, rfl, rfl, HBS.out, HU2.out, HB2.out⟩
    case round =>
      clear HU2 HB2
      obtain ⟨j, L, bad, hj, rfl, rfl, hlv, hu, hb⟩ := hrel
      have HLV := hide hlv
      have HU := hide hu
      have HB := hide hb
      obtain ⟨al, nl, cl, hlvv, hnl2⟩ : ∃ ao n cap, u8 = .slice ao n cap ∧ n = L.length := by
        obtain ⟨ao, cap, _, _, h, -⟩ := hlv
        exact ⟨_, _, _, h, rfl⟩
      subst hlvv
      have HNL := hide hnl2
      clear hlv hu hb hnl2
      cases gk with
      | zero =>
        have hend : ¬ (j : Int) < (ns.length : Int) := by omega
        clear hj
        cases bad with
        | true =>
          have HUz0 : Hid (Unp wr ub [] true) := HU.out
          clear HU
          cases rest with
          | true =>
            have HRS := hide (rest_any ub [] true wr HUz0.out)
            go_wp2_with fail
            refine HRS.out.mono ?_
            rintro e wz ⟨rv, rfl, hrb, hru, hrg⟩
            have HUz := hide hru
            have HBz := hide (HB.out.trans (below_grown hrg HUB.out HB.out.size))
            obtain ⟨ar, cr, _, _, hrv, -⟩ := hrb
            subst hrv
            have hl0 : ([] : List Nat).length = 0 := rfl
            rw [hl0]
            clear hru hrg HRS HUz0 hl0
            have HDN := hide (done_any ub _ _ _ HUz.out)
            have HAWz := hide (awake_any _ (HL.out.below HBz.out))
            rw [dn_bad] at HDN
            have HIS := hide (is_any 14 14 wz)
            rw [decide_eq_true rfl, errV_code (by decide)] at HIS
            go_wp2_with fail
            refine HDN.out.mono ?_
            rintro e wq ⟨rfl, rfl⟩
            go_wp2_with fail
            refine HDN.out.mono ?_
            rintro e wq ⟨rfl, rfl⟩
            go_wp2_with fail
            refine HDN.out.mono ?_
            rintro e wq ⟨rfl, rfl⟩
            go_wp2_with fail
            refine HIS.out.mono ?_
            rintro e wq ⟨rfl, rfl⟩
            go_wp2_with fail
            refine HAWz.out.mono ?_
            rintro e wy ⟨rfl, hby⟩
            have HBy := hide (HBz.out.trans (hby.mono HBz.out.size))
            clear hby
            go_wp2
            go_ret
            exact ⟨rfl, HBy.out⟩
          | false =>
            have HUz := HUz0
            have HBz := HB
            clear HUz0
            have HDN := hide (done_any ub _ _ _ HUz.out)
            have HAWz := hide (awake_any _ (HL.out.below HBz.out))
            rw [dn_bad] at HDN
            have HIS := hide (is_any 14 14 wr)
            rw [decide_eq_true rfl, errV_code (by decide)] at HIS
            go_wp2_with fail
            refine HDN.out.mono ?_
            rintro e wq ⟨rfl, rfl⟩
            go_wp2_with fail
            refine HDN.out.mono ?_
            rintro e wq ⟨rfl, rfl⟩
            go_wp2_with fail
            refine HDN.out.mono ?_
            rintro e wq ⟨rfl, rfl⟩
            go_wp2_with fail
            refine HIS.out.mono ?_
            rintro e wq ⟨rfl, rfl⟩
            go_wp2_with fail
            refine HAWz.out.mono ?_
            rintro e wy ⟨rfl, hby⟩
            have HBy := hide (HBz.out.trans (hby.mono HBz.out.size))
            clear hby
            go_wp2
            go_ret
            exact ⟨rfl, HBy.out⟩
        | false =>
          have HUz0 : Hid (Unp wr ub L false) := HU.out
          clear HU
          cases rest with
          | true =>
            have HRS := hide (rest_any ub L false wr HUz0.out)
            go_wp2_with fail
            refine HRS.out.mono ?_
            rintro e wz ⟨rv, rfl, hrb, hru, hrg⟩
            have HUz := hide hru
            have HBz := hide (HB.out.trans (below_grown hrg HUB.out HB.out.size))
            have HSM := hide (same_any L L _ _ wz hrb (HLV.out.below HBz.out))
            rw [decide_eq_true rfl] at HSM
            obtain ⟨ar, nr, cr, hrv⟩ : ∃ ao n cap, rv = .slice ao n cap := by
              obtain ⟨ao, cap, _, _, h, -⟩ := hrb
              exact ⟨_, _, _, h⟩
            subst hrv
            clear hru hrg hrb HRS HUz0
            go_wp2_with fail
            refine HSM.out.mono ?_
            rintro e wz ⟨rfl, rfl⟩
            clear HSM
            have HDN := hide (done_any ub _ _ _ HUz.out)
            have HAWz := hide (awake_any _ (HL.out.below HBz.out))
            rw [dn_ok] at HDN
            go_wp2_with fail
            refine HDN.out.mono ?_
            rintro e wq ⟨rfl, rfl⟩
            go_wp2_with fail
            refine HDN.out.mono ?_
            rintro e wq ⟨rfl, rfl⟩
            go_wp2_with fail
            refine HAWz.out.mono ?_
            rintro e wy ⟨rfl, hby⟩
            have HBy := hide (HBz.out.trans (hby.mono HBz.out.size))
            clear hby
            go_wp2
            go_ret
            exact ⟨rfl, HBy.out⟩
          | false =>
            have HUz := HUz0
            have HBz := HB
            clear HUz0
            by_cases hl0 : L.length = 0
            · have hL0 : L = [] := List.length_eq_zero_iff.1 hl0
              subst hL0
              have hn0 : nl = 0 := HNL.out
              subst hn0
              clear hl0
              have HDN := hide (done_any ub _ _ _ HUz.out)
              have HAWz := hide (awake_any _ (HL.out.below HBz.out))
              rw [dn_ok] at HDN
              go_wp2_with fail
              refine HDN.out.mono ?_
              rintro e wq ⟨rfl, rfl⟩
              go_wp2_with fail
              refine HDN.out.mono ?_
              rintro e wq ⟨rfl, rfl⟩
              go_wp2_with fail
              refine HAWz.out.mono ?_
              rintro e wy ⟨rfl, hby⟩
              have HBy := hide (HBz.out.trans (hby.mono HBz.out.size))
              clear hby
              go_wp2
              go_ret
              exact ⟨rfl, HBy.out⟩
            · have hn1 : ((nl : Int) == 0) = false := by have := HNL.out; simp; omega
              have DN2 : Hid (errV (if false || decide (0 < L.length) then 14 else 0) = errV 14) := by
                show _ = _
                rw [decide_eq_true (by omega : 0 < L.length)]; rfl
              clear hl0
              have HDN := hide (done_any ub _ _ _ HUz.out)
              have HAWz := hide (awake_any _ (HL.out.below HBz.out))
              rw [DN2.out, errV_code (by decide)] at HDN
              have HIS := hide (is_any 14 14 wr)
              rw [decide_eq_true rfl, errV_code (by decide)] at HIS
              go_wp2_with fail
              refine HDN.out.mono ?_
              rintro e wq ⟨rfl, rfl⟩
              go_wp2_with fail
              refine HDN.out.mono ?_
              rintro e wq ⟨rfl, rfl⟩
              go_wp2_with fail
              refine HDN.out.mono ?_
              rintro e wq ⟨rfl, rfl⟩
              go_wp2_with fail
              refine HIS.out.mono ?_
              rintro e wq ⟨rfl, rfl⟩
              go_wp2_with fail
              refine HAWz.out.mono ?_
              rintro e wy ⟨rfl, hby⟩
              have HBy := hide (HBz.out.trans (hby.mono HBz.out.size))
              clear hby
              go_wp2
              go_ret
              exact ⟨rfl, HBy.out⟩
      | succ m =>
        have hjl : j < ns.length := by omega
        have hlt : (j : Int) < (ns.length : Int) := by omega
        have hb0 : (0 : Int) ≤ (j : Int) := by omega
        obtain ⟨z, hz⟩ : ∃ z, ns[j]? = some z := ⟨ns[j], by simp [hjl]⟩
        obtain rfl := H2.out (by omega)
        have k1 : wr.cell? ⟨gn, on + j, none⟩ = some (.int .i64 z) := by
          have := H3.out j z hz
          rw [HB.out.cell (cell_lt this)]; exact this
        clear hz
        cases hsz : isSize z with
        | false =>
          have HNX := hide (next_no z hsz ub wr)
          clear hsz
          go_wp2_with fail
          refine HNX.out.mono ?_
          rintro e wq ⟨rfl, rfl⟩
          clear HNX
          go_wp2
          go_roundg m
          case measure => omega
          case rel => exact ⟨j + 1, L, bad, by omega, by go_num, rfl, HLV.out, HU.out, HB.out⟩
        | true =>
          obtain ⟨wd, rfl, hwd⟩ := size_of hsz
          have HNX := hide (next_yes wd hwd ub _ _ wr HU.out)
          have hpos : 0 < wd := by omega
          have HRD : Hid (∀ wz, Below w.heap.size w wz → Calls Tryd.prog 31 #[.slice al nl cl, .int .i64 (wd : Int)] wz fun e w' => e = .returned (.tuple #[.int .i64 (rdN L wd : Nat), .bool (readOk L wd)]) ∧ w' = wz) := fun wz h => read_any wd hwd L _ wz (HLV.out.below h)
          clear hsz
          cases bad with
          | true =>
            have hro := readOk_nil wd hpos
            have eT : (if true = true then [] else L) = [] := rfl
            have e0 : rdN [] wd = 0 := by simp [rdN, hro]
            rw [eT, e0] at HNX
            have HRL : Hid (∀ wz, Unp wz ub (rdL [] wd) (rdS [] true wd) → UnpL wz ub L true) := fun wz h => by
              rw [show rdL [] wd = [] by simp [rdL, hro], show rdS [] true wd = true by simp [rdS]] at h
              exact h
            generalize rdN L wd = x at HRD
            generalize readOk L wd = fine at HRD
            clear hpos hwd e0 eT hro
            go_wp2_with fail
            refine HNX.out.mono ?_
            rintro e wz ⟨rfl, hun, hgn⟩
            have HUn := hide (HRL.out wz hun)
            have HBn := hide (HB.out.trans (below_grown hgn HUB.out HB.out.size))
            clear hun hgn HNX HU HRL
            go_wp2_with fail
            refine (HRD.out _ HBn.out).mono ?_
            rintro e wq ⟨rfl, rfl⟩
            clear HRD
            go_wp2
            go_roundg m
            case measure => omega
            case rel => exact ⟨j + 1, L, true, by omega, by go_num, rfl, HLV.out, HUn.out, HBn.out⟩
          | false =>
            have eL : (if false = true then [] else L) = L := rfl
            rw [eL] at HNX
            cases hro : readOk L wd with
            | true =>
              rw [hro] at HRD
              have hwl : wd ≤ L.length := by
                have : wd ≤ L.length ∧ val (L.take wd) ≤ great wd := by simpa [readOk] using hro
                exact this.1
              obtain ⟨ac, nc, cc, cutD, HD⟩ := cut_from w _ L wd HLV.out hwl
              have hne : ∀ x : Nat, ((x : Int) != (x : Int)) = false := by simp
              have HRL : Hid (∀ wz, Unp wz ub (rdL L wd) (rdS L false wd) → UnpL wz ub (L.drop wd) false) := fun wz h => by
                rw [show rdL L wd = L.drop wd by simp [rdL, hro], show rdS L false wd = false by simp [rdS, hro]] at h
                exact h
              generalize rdN L wd = x at HRD HNX
              clear hpos hwd eL hro hwl
              go_wp2_with fail
              refine HNX.out.mono ?_
              rintro e wz ⟨rfl, hun, hgn⟩
              have HUn := hide (HRL.out wz hun)
              have HBn := hide (HB.out.trans (below_grown hgn HUB.out HB.out.size))
              clear hun hgn HNX HU HRL
              go_wp2_with fail
              refine (HRD.out _ HBn.out).mono ?_
              rintro e wq ⟨rfl, rfl⟩
              clear HRD
              go_wp2
              go_roundg m
              case measure => omega
              case rel => exact ⟨j + 1, L.drop wd, false, by omega, by go_num, rfl, HD.out, HUn.out, HBn.out⟩
            | false =>
              have e0 : rdN L wd = 0 := by simp [rdN, hro]
              rw [hro, e0] at HRD
              rw [e0] at HNX
              have HRL : Hid (∀ wz, Unp wz ub (rdL L wd) (rdS L false wd) → UnpL wz ub L true) := fun wz h => by
                rw [show rdL L wd = [] by simp [rdL, hro], show rdS L false wd = true by simp [rdS, hro]] at h
                exact h
              clear hpos hwd eL hro e0
              go_wp2_with fail
              refine HNX.out.mono ?_
              rintro e wz ⟨rfl, hun, hgn⟩
              have HUn := hide (HRL.out wz hun)
              have HBn := hide (HB.out.trans (below_grown hgn HUB.out HB.out.size))
              clear hun hgn HNX HU HRL
              go_wp2_with fail
              refine (HRD.out _ HBn.out).mono ?_
              rintro e wq ⟨rfl, rfl⟩
              clear HRD
              go_wp2
              go_roundg m
              case measure => omega
              case rel => exact ⟨j + 1, L, true, by omega, by go_num, rfl, HLV.out, HUn.out, HBn.out⟩
end Go.Proofs.YtlgmfiboekmhkaaDoor
