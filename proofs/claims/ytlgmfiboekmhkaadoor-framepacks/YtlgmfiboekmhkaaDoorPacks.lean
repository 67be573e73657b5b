/- FramePacks walked: it answers true. -/
import Derived.Test.YtlgmfiboekmhkaaDoorPacks0
namespace Go.Proofs.YtlgmfiboekmhkaaDoor
open Go.RowKit Go.Extern

set_option maxRecDepth 100000 in
set_option maxHeartbeats 2000000 in
theorem packs_any (ps : List Pc) (v : Value) (w : World) (hL : Laid w) (hv : Pieces w v ps) :
    Calls Tryd.prog 6 #[v] w fun e w' => e = .returned (.bool true) ∧ Below w.heap.size w w' := by
  have HL := hide hL
  obtain ⟨ao, cap, g, off, rfl, h2, h3, h4⟩ := hv
  have H2 := hide h2
  have H3 := hide h3
  have H4 := hide h4
  clear hL h2 h3 h4
  by_cases hbig : 500 < ps.length
  · have HAW := hide (awake_any w HL.out)
    have h1' : (500 : Int) < (ps.length : Int) := by omega
    go_enter Tryd.func6, Tryd.ntmps6
    go_wp2_with fail
    refine HAW.out.mono ?_
    rintro e w' ⟨rfl, hb2⟩
    have HB2 := hide hb2
    clear hb2
    go_wp2
    go_ret
    exact ⟨rfl, HB2.out⟩
  · have h1' : ¬ (500 : Int) < (ps.length : Int) := by omega
    have hnl : ps.length ≤ 500 := by omega
    clear hbig
    go_enter Tryd.func6, Tryd.ntmps6
    go_wp2_with fail
    refine (newPacker_any w).mono ?_
    rintro e w1 ⟨rfl, hp1, hb1⟩
    have HK1 : Hid (Keeps w w1 w.heap.size w.heap.size [] (.slice none 0 0)) :=
      ⟨none, hp1, ⟨[], Own.nil _ _, by simp, fun _ => rfl⟩, by simp [Value.ownBlock], .inl rfl, hb1⟩
    clear hp1 hb1
    go_wp2
    go_loopg [4, 5, 24] ps.length (fun k wv ft i wr => ∃ j, j + k = ps.length ∧ i = .int .i64 (j : Int) ∧ ft = .bool (fitAll (ps.take j)) ∧ Keeps w wr w.heap.size w.heap.size (ps.take j) wv)
    case atStart => exact ⟨0, by omega, rfl, rfl, HK1.out⟩
    case round =>
      clear HK1
      obtain ⟨j, hj, rfl, rfl, hk⟩ := hrel
      cases gk with
      | zero =>
        have hend : ¬ (j : Int) < (ps.length : Int) := by omega
        have htk : ps.take j = ps := List.take_of_length_le (by omega)
        rw [htk] at hk ⊢
        clear hj htk
        obtain ⟨row, hpk, ⟨ws, how, -, hwe⟩, -, -, hbl⟩ := hk
        have HPK := hide hpk
        have HOW := hide how
        have HWE := hide hwe
        have HBL := hide hbl
        obtain ⟨aw, nw, cw, rfl⟩ := how.form'
        clear hpk how hwe hbl
        cases hfa : fitAll ps with
        | false =>
          have HY := hide (pkS_bytes _ _ _ _ _ wr HPK.out)
          rw [hfa, show errV (if false = true then 0 else 20) = .iface 71 (.int .i64 20) from rfl, show (if false = true then allBytes ps else []) = [] from rfl] at HY
          clear hfa HPK HOW HWE
          go_wp2_with fail
          refine HY.out.mono ?_
          rintro e w2 ⟨u, rfl, hou, hb2⟩
          have HB2 := hide (HBL.out.trans (hb2.mono HBL.out.size))
          obtain ⟨au, cu, rfl⟩ := hou.form
          rw [show ([] : List Nat).length = 0 from rfl]
          have HIS := hide (is_any 20 20 w2)
          rw [decide_eq_true rfl, errV_code (by decide)] at HIS
          have HAW := hide (awake_any w2 (HL.out.below HB2.out))
          clear hou hb2 HY HBL
          go_wp2_with fail
          refine HIS.out.mono ?_
          rintro e wq ⟨rfl, rfl⟩
          go_wp2_with fail
          refine HAW.out.mono ?_
          rintro e w3 ⟨rfl, hb3⟩
          have HB3 := hide (HB2.out.trans (hb3.mono HB2.out.size))
          clear hb3
          go_wp2
          go_ret
          exact ⟨rfl, HB3.out⟩
        | true =>
          have HY := hide (pkS_bytes _ _ _ _ _ wr HPK.out)
          rw [hfa, show errV (if true = true then 0 else 20) = .nilIface from rfl, show (if true = true then allBytes ps else []) = allBytes ps from rfl] at HY
          have hws := HWE.out hfa
          subst hws
          have HALL : Hid (∀ p ∈ ps, pcOk p = true) := fun p hp => List.all_eq_true.1 hfa p hp
          clear hfa HPK HWE
          go_wp2_with fail
          refine HY.out.mono ?_
          rintro e w2 ⟨u, rfl, hou, hb2⟩
          have HB2 := hide (HBL.out.trans (hb2.mono HBL.out.size))
          have HOU := hide hou.bytes
          have HSM := hide (same_any _ _ _ _ w2 hou.bytes (HOW.out.below hb2).bytes)
          rw [decide_eq_true rfl] at HSM
          obtain ⟨au, nu, cu, rfl⟩ := hou.form'
          clear hou hb2 HY HBL HOW
          go_wp2_with fail
          refine HSM.out.mono ?_
          rintro e wq ⟨rfl, rfl⟩
          have HNU := hide (newUnpacker_any _ _ _ HOU.out)
          clear HSM HOU
          go_wp2_with fail
          refine HNU.out.mono ?_
          rintro e w3 ⟨ub, rfl, hub, hu3, hb3⟩
          have HUB : Hid (w.heap.size ≤ ub) := Nat.le_trans HB2.out.size hub
          have HU3 := hide hu3
          have HB3 := hide (HB2.out.trans (hb3.mono HB2.out.size))
          clear hub hu3 hb3 HNU HB2
          go_wp2
          go_loopg [104] ps.length (fun k i wy => ∃ l, l + k = ps.length ∧ i = .int .i64 (l : Int) ∧ Unp wy ub (allBytes (ps.drop l)) false ∧ Below w.heap.size w wy)
          case atStart => exact ⟨0, by omega, rfl, HU3.out, HB3.out⟩
          case round =>
            clear HU3 HB3
            obtain ⟨l, hl, rfl, hu, hb⟩ := hrel
            have HU := hide hu
            have HB := hide hb
            have HUL : Hid (ub < wr.heap.size) := by
              obtain ⟨_, _, _, h, -⟩ := hu
              rcases Nat.lt_or_ge ub wr.heap.size with q | q
              · exact q
              · rw [Array.getElem?_eq_none q] at h; cases h
            clear hu hb
            cases gk with
            | zero =>
              have hend2 : ¬ (l : Int) < (ps.length : Int) := by omega
              have hdr : ps.drop l = [] := List.drop_of_length_le (by omega)
              rw [hdr] at HU
              have HDN := hide (done_any ub _ _ _ HU.out)
              rw [show errV (if false || decide (0 < (allBytes []).length) then 14 else 0) = .nilIface from rfl] at HDN
              have HAW := hide (awake_any _ (HL.out.below HB.out))
              clear hdr hl HU
              go_wp2_with fail
              refine HDN.out.mono ?_
              rintro e wq ⟨rfl, rfl⟩
              go_wp2_with fail
              refine HAW.out.mono ?_
              rintro e w5 ⟨rfl, hb5⟩
              have HB5 := hide (HB.out.trans (hb5.mono HB.out.size))
              clear hb5
              go_wp2
              go_ret
              exact ⟨rfl, HB5.out⟩
            | succ m =>
              have hll : l < ps.length := by omega
              have hlt2 : (l : Int) < (ps.length : Int) := by omega
              have hl0 : (0 : Int) ≤ (l : Int) := by omega
              obtain ⟨p, hp⟩ : ∃ p, ps[l]? = some p := ⟨ps[l], by simp [hll]⟩
              obtain rfl := H2.out (by omega)
              obtain ⟨q1, q2⟩ := H3.out l p hp
              have k1 : wr.cell? ⟨g, off + l * 2, none⟩ = some (.int .i64 p.size) := by rw [HB.out.cell (cell_lt q1)]; exact q1
              have k2 : wr.cell? ⟨g, off + l * 2 + 1, none⟩ = some (.int .i64 p.n) := by rw [HB.out.cell (cell_lt q2)]; exact q2
              have hok := HALL.out p (List.mem_of_getElem? hp)
              have hdr : allBytes (ps.drop l) = pcBytes p ++ allBytes (ps.drop (l + 1)) := by
                obtain ⟨hi, rfl⟩ := List.getElem?_eq_some_iff.1 hp
                unfold allBytes; rw [List.drop_eq_getElem_cons hi, List.flatMap_cons]
              rw [hdr] at HU
              have m1 := (new_ne k1).symm
              have m2 : ub ≠ wr.heap.size := Nat.ne_of_lt HUL.out
              obtain ⟨sz, n⟩ := p
              generalize hrst : allBytes (ps.drop (l + 1)) = rst at HU hdr
              have HRST := hide hrst
              clear hrst
              have hba : Below wr.heap.size wr (wr.alloc (.cells #[.int .i64 sz, .int .i64 n] 51)) := (Below.refl _ _).alloc (Nat.le_refl _) _
              have HBA := hide (HB.out.trans (hba.mono HB.out.size))
              have HUA := hide (HU.out.below hba)
              cases hsz : isSize sz with
              | true =>
                obtain ⟨wd, hwz, hwd⟩ := size_of hsz
                have hsz' : sz = (wd : Int) := hwz
                subst hsz'
                have hfit : fitB n wd = true := by simpa [pcOk, hsz] using hok
                obtain ⟨zn, rfl, hzg⟩ := fit_nat hfit
                have hpb : pcBytes ⟨(wd : Int), (zn : Int)⟩ = be wd zn := by simp [pcBytes, hsz]
                rw [hpb] at HUA
                obtain ⟨r1, r2, r3⟩ := read_be wd zn rst hzg (great_pow wd zn hwd hzg)
                have HNX := hide (next_yes wd hwd ub _ _ _ HUA.out)
                rw [r2] at HNX
                have HRL : Hid (∀ wz, Nexted ub (be wd zn ++ rst) false wd (wr.alloc (.cells #[.int .i64 (wd : Int), .int .i64 (zn : Int)] 51)) wz → Unp wz ub rst false ∧ (wr.alloc (.cells #[.int .i64 (wd : Int), .int .i64 (zn : Int)] 51)).grownBy wz (some ub)) := fun wz h => by
                  obtain ⟨h1, h2⟩ := h
                  rw [r3, show rdS (be wd zn ++ rst) false wd = false by simp [rdS, r1]] at h1
                  exact ⟨h1, h2⟩
                have hne : ((zn : Int) != (zn : Int)) = false := by simp
                clear hsz hwz hwd hfit hzg hpb r1 r2 r3 hok hba q1 q2 hp hdr HU HALL
                go_wp2_with fail
                refine HNX.out.mono ?_
                rintro e w5 ⟨rfl, hnx⟩
                obtain ⟨hu5, hg5⟩ := HRL.out w5 hnx
                have HU5 := hide hu5
                have HB5 := hide (HBA.out.trans (below_grown hg5 HUB.out HBA.out.size))
                have d1 : w5.cell? ⟨wr.heap.size, 1, none⟩ = some (.int .i64 (zn : Int)) := by
                  rw [hg5.cell (v := .int .i64 (zn : Int)) (by rw [cell_of_row _ _ _ _ _ _ (heap_alloc_new wr _)]; rfl) (by simp; omega)]
                clear hnx hu5 hg5 HNX HRL HUA HBA
                go_wp2
                go_roundg m
                case measure => omega
                case rel => exact ⟨l + 1, by omega, by go_num, by rw [HRST.out]; exact HU5.out, HB5.out⟩
              | false =>
                have HNX := hide (next_no sz hsz ub (wr.alloc (.cells #[.int .i64 sz, .int .i64 n] 51)))
                have hpb : pcBytes ⟨sz, n⟩ = [] := by simp [pcBytes, hsz]
                rw [hpb, List.nil_append] at HUA
                clear hsz hpb hok hba q1 q2 hp hdr HU HALL
                go_wp2_with fail
                refine HNX.out.mono ?_
                rintro e w5 ⟨rfl, rfl⟩
                clear HNX
                go_wp2
                go_roundg m
                case measure => omega
                case rel => exact ⟨l + 1, by omega, by go_num, by rw [HRST.out]; exact HUA.out, HBA.out⟩
      | succ m =>
        have hjl : j < ps.length := by omega
        have hlt : (j : Int) < (ps.length : Int) := by omega
        have hb0 : (0 : Int) ≤ (j : Int) := by omega
        obtain ⟨p, hp⟩ : ∃ p, ps[j]? = some p := ⟨ps[j], by simp [hjl]⟩
        obtain rfl := H2.out (by omega)
        obtain ⟨q1, q2⟩ := H3.out j p hp
        have HK := hide hk
        obtain ⟨row, hpk, hws, hnb, hnr, hbl⟩ := hk
        have k1 : wr.cell? ⟨g, off + j * 2, none⟩ = some (.int .i64 p.size) := by rw [hbl.cell (cell_lt q1)]; exact q1
        have k2 : wr.cell? ⟨g, off + j * 2 + 1, none⟩ = some (.int .i64 p.n) := by rw [hbl.cell (cell_lt q2)]; exact q2
        have HPK := hide hpk
        have HWS := hide hws
        have HNB := hide hnb
        have HNR := hide hnr
        have HBL := hide hbl
        obtain ⟨aw, nw, cw, rfl⟩ : ∃ ao n cap, u4 = .slice ao n cap := by
          obtain ⟨ws, how, -⟩ := hws
          exact how.form'
        obtain ⟨sz, n⟩ := p
        have HTK := hide (take_snoc hp)
        have HNN := hide (H4.out ⟨sz, n⟩ (List.mem_of_getElem? hp))
        have HLB : Hid ((allBytes (ps.take j)).length + 8 * 1 + 8 ≤ 140737488355328) := by
          show _ ≤ _
          have h1 := allBytes_length (ps.take j)
          have h2 : (ps.take j).length ≤ ps.length := by simp; omega
          omega
        have m1 := (new_ne k1).symm
        have hsz2 : ∀ o : Obj, (wr.alloc o).heap.size = wr.heap.size + 1 := by simp
        have HINT : Hid (∀ wz : World, Ints (wz.alloc (.cells #[.int .i64 n] 3)) (.slice (some ⟨wz.heap.size, 0, none⟩) 1 1) [n]) := fun wz => ints_lit wz [n] (by simpa using HNN.out) (by simp)
        clear hpk hws hnb hnr hbl q1 q2 hp
        generalize ps.take j = pre at *
        have HF0 : Hid (∀ wd, sz.toNat = wd → (wd = 1 ∨ wd = 2 ∨ wd = 4 ∨ wd = 8) → ∀ wz, Calls Tryd.prog 25 #[.int .i64 n, .int .i64 (wd : Int)] wz fun e w' => e = .returned (.bool (fitB n wd)) ∧ w' = wz) := fun wd _ h wz => fits_any n wd h HNN.out wz
        by_cases s1 : sz = 1
        · subst s1
          have hsize : isSize 1 = true := by decide
          have HST := hide (PByte_step _ _ row _ _ [n] _ _ ((HPK.out.alloc (.cells #[.int .i64 1, .int .i64 n] 51)).alloc (.cells #[.int .i64 n] 3)) (HINT.out (wr.alloc (.cells #[.int .i64 1, .int .i64 n] 51))) HLB.out (hnr_lit (HPK.out.alloc (.cells #[.int .i64 1, .int .i64 n] 51)) 1 1 1))
          rw [hsz2] at HST
          have HFW : Hid (∀ wz, Calls Tryd.prog 25 #[.int .i64 n, .int .i64 1] wz fun e w' => e = .returned (.bool (fitB n 1)) ∧ w' = wz) := fun wz => fits_any n 1 (by simp) HNN.out wz
          clear hsz2 HINT HF0
          go_wp2_with fail
          refine HST.out.mono ?_
          rintro e w2 ⟨rfl, hst⟩
          have HMD := hide (mid_of (wd := 1) (sz := 1) HPK.out HWS.out HNB.out HNR.out HBL.out hst)
          have d0 : w2.cell? ⟨wr.heap.size, 0, none⟩ = some (.int .i64 1) := by obtain ⟨_, _, _, _, _, _, h, _⟩ := HMD.out; exact h
          have d1 : w2.cell? ⟨wr.heap.size, 1, none⟩ = some (.int .i64 n) := by obtain ⟨_, _, _, _, _, _, _, h⟩ := HMD.out; exact h
          clear hst HST HPK HWS HNB HNR HBL k1 k2 m1 HLB HK
          cases hfa : fitAll pre with
          | false =>
            have HKB := hide (keeps_bad (wd := 1) (sz := 1) hsize rfl HMD.out (by rw [hfa]; rfl))
            clear hfa HMD HFW hsize
            go_wp2
            go_roundg m
            case measure => omega
            case rel =>
              obtain ⟨hf, hk⟩ := HKB.out
              rw [← HTK.out] at hf hk
              exact ⟨j + 1, by omega, by go_num, by rw [hf], hk⟩
          | true =>
            cases hfb : fitB n 1 with
            | false =>
              have HKB := hide (keeps_bad (wd := 1) (sz := 1) hsize rfl HMD.out (by rw [hfb]; simp))
              rw [hfb] at HFW
              clear hfa hfb HMD hsize
              go_wp2_with fail
              refine (HFW.out _).mono ?_
              rintro e wq ⟨rfl, rfl⟩
              go_wp2
              go_roundg m
              case measure => omega
              case rel =>
                obtain ⟨hf, hk⟩ := HKB.out
                rw [← HTK.out] at hf hk
                exact ⟨j + 1, by omega, by go_num, by rw [hf], hk⟩
            | true =>
              rw [hfb] at HFW
              obtain ⟨zn, hzn, hzg⟩ := fit_nat hfb
              have HWS2 : Hid (Own w2 w.heap.size (.slice aw nw cw) (allBytes pre)) := by
                obtain ⟨_, _, ⟨ws, h2, _, h4⟩, _⟩ := HMD.out
                rw [← h4 hfa]; exact h2
              have HKG := hide (fun w3 w4 wv2 hb3 ho hg hat => keeps_good (w2 := w3) (w3 := w4) (wv2 := wv2) (wd := 1) (sz := 1) hsize rfl HMD.out hfa hfb hb3 ho hg hat)
              have HNUM : Hid (∀ wz, Calls Tryd.prog 26 #[.int .i64 n, .int .i64 1] wz fun e w' => ∃ u, e = .returned u ∧ Own w' wz.heap.size u (be 1 n.toNat) ∧ Below wz.heap.size wz w') := fun wz => by
                rw [hzn]
                exact number_any zn 1 (by decide) (by have := great_lt 1 (by simp); omega) wz
              have HBLn : Hid ((allBytes pre).length + (be 1 n.toNat).length ≤ 140737488355328) := by
                show _ ≤ _
                rw [be_length]
                have h1 := allBytes_length pre
                have h2 := congrArg List.length HTK.out
                simp at h2
                omega
              have HMB : Hid (w.heap.size ≤ w2.heap.size) := by
                obtain ⟨_, h1, _⟩ := HMD.out
                obtain ⟨_, _, _, _, _, _, _, _, _, q⟩ := id h1
                exact q
              clear hfa hfb HMD hsize hzn hzg
              go_wp2_with fail
              refine (HFW.out _).mono ?_
              rintro e wq ⟨rfl, rfl⟩
              clear HFW
              go_wp2_with fail
              refine (HNUM.out _).mono ?_
              rintro e w3 ⟨un, rfl, hun, hb3⟩
              have HB3 := hide hb3
              have HUN := hide hun.bytes
              have HW3 := hide (HWS2.out.below hb3)
              obtain ⟨an, nn, cn, rfl⟩ := hun.form'
              clear hun hb3 HNUM HWS2
              go_wp2_with (at_builtin; refine wpList_append_bytes rfl _ _ rfl w.heap.size _ _ _ _ rfl rfl HW3.out HUN.out HBLn.out (Nat.le_trans HMB.out HB3.out.size) ?_)
              intro v4 w4 ho4 hg4 hat4
              have HKB := hide (HKG.out w3 w4 v4 HB3.out ho4 hg4 hat4)
              obtain ⟨a4, n4, c4, rfl⟩ := ho4.form'
              clear ho4 hg4 hat4 HKG HB3 HUN HW3 HBLn HMB
              go_wp2
              go_roundg m
              case measure => omega
              case rel =>
                obtain ⟨hf, hk⟩ := HKB.out
                rw [← HTK.out] at hf hk
                exact ⟨j + 1, by omega, by go_num, by rw [hf], hk⟩
        · by_cases s2 : sz = 2
          · subst s2
            have hsize : isSize 2 = true := by decide
            have HST := hide (PShort_step _ _ row _ _ [n] _ _ ((HPK.out.alloc (.cells #[.int .i64 2, .int .i64 n] 51)).alloc (.cells #[.int .i64 n] 3)) (HINT.out (wr.alloc (.cells #[.int .i64 2, .int .i64 n] 51))) HLB.out (hnr_lit (HPK.out.alloc (.cells #[.int .i64 2, .int .i64 n] 51)) 1 1 1))
            rw [hsz2] at HST
            have HFW : Hid (∀ wz, Calls Tryd.prog 25 #[.int .i64 n, .int .i64 2] wz fun e w' => e = .returned (.bool (fitB n 2)) ∧ w' = wz) := fun wz => fits_any n 2 (by simp) HNN.out wz
            clear hsz2 HINT HF0
            go_wp2_with fail
            refine HST.out.mono ?_
            rintro e w2 ⟨rfl, hst⟩
            have HMD := hide (mid_of (wd := 2) (sz := 2) HPK.out HWS.out HNB.out HNR.out HBL.out hst)
            have d0 : w2.cell? ⟨wr.heap.size, 0, none⟩ = some (.int .i64 2) := by obtain ⟨_, _, _, _, _, _, h, _⟩ := HMD.out; exact h
            have d1 : w2.cell? ⟨wr.heap.size, 1, none⟩ = some (.int .i64 n) := by obtain ⟨_, _, _, _, _, _, _, h⟩ := HMD.out; exact h
            clear hst HST HPK HWS HNB HNR HBL k1 k2 m1 HLB HK
            cases hfa : fitAll pre with
            | false =>
              have HKB := hide (keeps_bad (wd := 2) (sz := 2) hsize rfl HMD.out (by rw [hfa]; rfl))
              clear hfa HMD HFW hsize
              go_wp2
              go_roundg m
              case measure => omega
              case rel =>
                obtain ⟨hf, hk⟩ := HKB.out
                rw [← HTK.out] at hf hk
                exact ⟨j + 1, by omega, by go_num, by rw [hf], hk⟩
            | true =>
              cases hfb : fitB n 2 with
              | false =>
                have HKB := hide (keeps_bad (wd := 2) (sz := 2) hsize rfl HMD.out (by rw [hfb]; simp))
                rw [hfb] at HFW
                clear hfa hfb HMD hsize
                go_wp2_with fail
                refine (HFW.out _).mono ?_
                rintro e wq ⟨rfl, rfl⟩
                go_wp2
                go_roundg m
                case measure => omega
                case rel =>
                  obtain ⟨hf, hk⟩ := HKB.out
                  rw [← HTK.out] at hf hk
                  exact ⟨j + 1, by omega, by go_num, by rw [hf], hk⟩
              | true =>
                rw [hfb] at HFW
                obtain ⟨zn, hzn, hzg⟩ := fit_nat hfb
                have HWS2 : Hid (Own w2 w.heap.size (.slice aw nw cw) (allBytes pre)) := by
                  obtain ⟨_, _, ⟨ws, h2, _, h4⟩, _⟩ := HMD.out
                  rw [← h4 hfa]; exact h2
                have HKG := hide (fun w3 w4 wv2 hb3 ho hg hat => keeps_good (w2 := w3) (w3 := w4) (wv2 := wv2) (wd := 2) (sz := 2) hsize rfl HMD.out hfa hfb hb3 ho hg hat)
                have HNUM : Hid (∀ wz, Calls Tryd.prog 26 #[.int .i64 n, .int .i64 2] wz fun e w' => ∃ u, e = .returned u ∧ Own w' wz.heap.size u (be 2 n.toNat) ∧ Below wz.heap.size wz w') := fun wz => by
                  rw [hzn]
                  exact number_any zn 2 (by decide) (by have := great_lt 2 (by simp); omega) wz
                have HBLn : Hid ((allBytes pre).length + (be 2 n.toNat).length ≤ 140737488355328) := by
                  show _ ≤ _
                  rw [be_length]
                  have h1 := allBytes_length pre
                  have h2 := congrArg List.length HTK.out
                  simp at h2
                  omega
                have HMB : Hid (w.heap.size ≤ w2.heap.size) := by
                  obtain ⟨_, h1, _⟩ := HMD.out
                  obtain ⟨_, _, _, _, _, _, _, _, _, q⟩ := id h1
                  exact q
                clear hfa hfb HMD hsize hzn hzg
                go_wp2_with fail
                refine (HFW.out _).mono ?_
                rintro e wq ⟨rfl, rfl⟩
                clear HFW
                go_wp2_with fail
                refine (HNUM.out _).mono ?_
                rintro e w3 ⟨un, rfl, hun, hb3⟩
                have HB3 := hide hb3
                have HUN := hide hun.bytes
                have HW3 := hide (HWS2.out.below hb3)
                obtain ⟨an, nn, cn, rfl⟩ := hun.form'
                clear hun hb3 HNUM HWS2
                go_wp2_with (at_builtin; refine wpList_append_bytes rfl _ _ rfl w.heap.size _ _ _ _ rfl rfl HW3.out HUN.out HBLn.out (Nat.le_trans HMB.out HB3.out.size) ?_)
                intro v4 w4 ho4 hg4 hat4
                have HKB := hide (HKG.out w3 w4 v4 HB3.out ho4 hg4 hat4)
                obtain ⟨a4, n4, c4, rfl⟩ := ho4.form'
                clear ho4 hg4 hat4 HKG HB3 HUN HW3 HBLn HMB
                go_wp2
                go_roundg m
                case measure => omega
                case rel =>
                  obtain ⟨hf, hk⟩ := HKB.out
                  rw [← HTK.out] at hf hk
                  exact ⟨j + 1, by omega, by go_num, by rw [hf], hk⟩
          · by_cases s4 : sz = 4
            · subst s4
              have hsize : isSize 4 = true := by decide
              have HST := hide (PWord_step _ _ row _ _ [n] _ _ ((HPK.out.alloc (.cells #[.int .i64 4, .int .i64 n] 51)).alloc (.cells #[.int .i64 n] 3)) (HINT.out (wr.alloc (.cells #[.int .i64 4, .int .i64 n] 51))) HLB.out (hnr_lit (HPK.out.alloc (.cells #[.int .i64 4, .int .i64 n] 51)) 1 1 1))
              rw [hsz2] at HST
              have HFW : Hid (∀ wz, Calls Tryd.prog 25 #[.int .i64 n, .int .i64 4] wz fun e w' => e = .returned (.bool (fitB n 4)) ∧ w' = wz) := fun wz => fits_any n 4 (by simp) HNN.out wz
              clear hsz2 HINT HF0
              go_wp2_with fail
              refine HST.out.mono ?_
              rintro e w2 ⟨rfl, hst⟩
              have HMD := hide (mid_of (wd := 4) (sz := 4) HPK.out HWS.out HNB.out HNR.out HBL.out hst)
              have d0 : w2.cell? ⟨wr.heap.size, 0, none⟩ = some (.int .i64 4) := by obtain ⟨_, _, _, _, _, _, h, _⟩ := HMD.out; exact h
              have d1 : w2.cell? ⟨wr.heap.size, 1, none⟩ = some (.int .i64 n) := by obtain ⟨_, _, _, _, _, _, _, h⟩ := HMD.out; exact h
              clear hst HST HPK HWS HNB HNR HBL k1 k2 m1 HLB HK
              cases hfa : fitAll pre with
              | false =>
                have HKB := hide (keeps_bad (wd := 4) (sz := 4) hsize rfl HMD.out (by rw [hfa]; rfl))
                clear hfa HMD HFW hsize
                go_wp2
                go_roundg m
                case measure => omega
                case rel =>
                  obtain ⟨hf, hk⟩ := HKB.out
                  rw [← HTK.out] at hf hk
                  exact ⟨j + 1, by omega, by go_num, by rw [hf], hk⟩
              | true =>
                cases hfb : fitB n 4 with
                | false =>
                  have HKB := hide (keeps_bad (wd := 4) (sz := 4) hsize rfl HMD.out (by rw [hfb]; simp))
                  rw [hfb] at HFW
                  clear hfa hfb HMD hsize
                  go_wp2_with fail
                  refine (HFW.out _).mono ?_
                  rintro e wq ⟨rfl, rfl⟩
                  go_wp2
                  go_roundg m
                  case measure => omega
                  case rel =>
                    obtain ⟨hf, hk⟩ := HKB.out
                    rw [← HTK.out] at hf hk
                    exact ⟨j + 1, by omega, by go_num, by rw [hf], hk⟩
                | true =>
                  rw [hfb] at HFW
                  obtain ⟨zn, hzn, hzg⟩ := fit_nat hfb
                  have HWS2 : Hid (Own w2 w.heap.size (.slice aw nw cw) (allBytes pre)) := by
                    obtain ⟨_, _, ⟨ws, h2, _, h4⟩, _⟩ := HMD.out
                    rw [← h4 hfa]; exact h2
                  have HKG := hide (fun w3 w4 wv2 hb3 ho hg hat => keeps_good (w2 := w3) (w3 := w4) (wv2 := wv2) (wd := 4) (sz := 4) hsize rfl HMD.out hfa hfb hb3 ho hg hat)
                  have HNUM : Hid (∀ wz, Calls Tryd.prog 26 #[.int .i64 n, .int .i64 4] wz fun e w' => ∃ u, e = .returned u ∧ Own w' wz.heap.size u (be 4 n.toNat) ∧ Below wz.heap.size wz w') := fun wz => by
                    rw [hzn]
                    exact number_any zn 4 (by decide) (by have := great_lt 4 (by simp); omega) wz
                  have HBLn : Hid ((allBytes pre).length + (be 4 n.toNat).length ≤ 140737488355328) := by
                    show _ ≤ _
                    rw [be_length]
                    have h1 := allBytes_length pre
                    have h2 := congrArg List.length HTK.out
                    simp at h2
                    omega
                  have HMB : Hid (w.heap.size ≤ w2.heap.size) := by
                    obtain ⟨_, h1, _⟩ := HMD.out
                    obtain ⟨_, _, _, _, _, _, _, _, _, q⟩ := id h1
                    exact q
                  clear hfa hfb HMD hsize hzn hzg
                  go_wp2_with fail
                  refine (HFW.out _).mono ?_
                  rintro e wq ⟨rfl, rfl⟩
                  clear HFW
                  go_wp2_with fail
                  refine (HNUM.out _).mono ?_
                  rintro e w3 ⟨un, rfl, hun, hb3⟩
                  have HB3 := hide hb3
                  have HUN := hide hun.bytes
                  have HW3 := hide (HWS2.out.below hb3)
                  obtain ⟨an, nn, cn, rfl⟩ := hun.form'
                  clear hun hb3 HNUM HWS2
                  go_wp2_with (at_builtin; refine wpList_append_bytes rfl _ _ rfl w.heap.size _ _ _ _ rfl rfl HW3.out HUN.out HBLn.out (Nat.le_trans HMB.out HB3.out.size) ?_)
                  intro v4 w4 ho4 hg4 hat4
                  have HKB := hide (HKG.out w3 w4 v4 HB3.out ho4 hg4 hat4)
                  obtain ⟨a4, n4, c4, rfl⟩ := ho4.form'
                  clear ho4 hg4 hat4 HKG HB3 HUN HW3 HBLn HMB
                  go_wp2
                  go_roundg m
                  case measure => omega
                  case rel =>
                    obtain ⟨hf, hk⟩ := HKB.out
                    rw [← HTK.out] at hf hk
                    exact ⟨j + 1, by omega, by go_num, by rw [hf], hk⟩
            · by_cases s8 : sz = 8
              · subst s8
                have hsize : isSize 8 = true := by decide
                have HST := hide (PLong_step _ _ row _ _ [n] _ _ ((HPK.out.alloc (.cells #[.int .i64 8, .int .i64 n] 51)).alloc (.cells #[.int .i64 n] 3)) (HINT.out (wr.alloc (.cells #[.int .i64 8, .int .i64 n] 51))) HLB.out (hnr_lit (HPK.out.alloc (.cells #[.int .i64 8, .int .i64 n] 51)) 1 1 1))
                rw [hsz2] at HST
                have HFW : Hid (∀ wz, Calls Tryd.prog 25 #[.int .i64 n, .int .i64 8] wz fun e w' => e = .returned (.bool (fitB n 8)) ∧ w' = wz) := fun wz => fits_any n 8 (by simp) HNN.out wz
                clear hsz2 HINT HF0
                go_wp2_with fail
                refine HST.out.mono ?_
                rintro e w2 ⟨rfl, hst⟩
                have HMD := hide (mid_of (wd := 8) (sz := 8) HPK.out HWS.out HNB.out HNR.out HBL.out hst)
                have d0 : w2.cell? ⟨wr.heap.size, 0, none⟩ = some (.int .i64 8) := by obtain ⟨_, _, _, _, _, _, h, _⟩ := HMD.out; exact h
                have d1 : w2.cell? ⟨wr.heap.size, 1, none⟩ = some (.int .i64 n) := by obtain ⟨_, _, _, _, _, _, _, h⟩ := HMD.out; exact h
                clear hst HST HPK HWS HNB HNR HBL k1 k2 m1 HLB HK
                cases hfa : fitAll pre with
                | false =>
                  have HKB := hide (keeps_bad (wd := 8) (sz := 8) hsize rfl HMD.out (by rw [hfa]; rfl))
                  clear hfa HMD HFW hsize
                  go_wp2
                  go_roundg m
                  case measure => omega
                  case rel =>
                    obtain ⟨hf, hk⟩ := HKB.out
                    rw [← HTK.out] at hf hk
                    exact ⟨j + 1, by omega, by go_num, by rw [hf], hk⟩
                | true =>
                  cases hfb : fitB n 8 with
                  | false =>
                    have HKB := hide (keeps_bad (wd := 8) (sz := 8) hsize rfl HMD.out (by rw [hfb]; simp))
                    rw [hfb] at HFW
                    clear hfa hfb HMD hsize
                    go_wp2_with fail
                    refine (HFW.out _).mono ?_
                    rintro e wq ⟨rfl, rfl⟩
                    go_wp2
                    go_roundg m
                    case measure => omega
                    case rel =>
                      obtain ⟨hf, hk⟩ := HKB.out
                      rw [← HTK.out] at hf hk
                      exact ⟨j + 1, by omega, by go_num, by rw [hf], hk⟩
                  | true =>
                    rw [hfb] at HFW
                    obtain ⟨zn, hzn, hzg⟩ := fit_nat hfb
                    have HWS2 : Hid (Own w2 w.heap.size (.slice aw nw cw) (allBytes pre)) := by
                      obtain ⟨_, _, ⟨ws, h2, _, h4⟩, _⟩ := HMD.out
                      rw [← h4 hfa]; exact h2
                    have HKG := hide (fun w3 w4 wv2 hb3 ho hg hat => keeps_good (w2 := w3) (w3 := w4) (wv2 := wv2) (wd := 8) (sz := 8) hsize rfl HMD.out hfa hfb hb3 ho hg hat)
                    have HNUM : Hid (∀ wz, Calls Tryd.prog 26 #[.int .i64 n, .int .i64 8] wz fun e w' => ∃ u, e = .returned u ∧ Own w' wz.heap.size u (be 8 n.toNat) ∧ Below wz.heap.size wz w') := fun wz => by
                      rw [hzn]
                      exact number_any zn 8 (by decide) (by have := great_lt 8 (by simp); omega) wz
                    have HBLn : Hid ((allBytes pre).length + (be 8 n.toNat).length ≤ 140737488355328) := by
                      show _ ≤ _
                      rw [be_length]
                      have h1 := allBytes_length pre
                      have h2 := congrArg List.length HTK.out
                      simp at h2
                      omega
                    have HMB : Hid (w.heap.size ≤ w2.heap.size) := by
                      obtain ⟨_, h1, _⟩ := HMD.out
                      obtain ⟨_, _, _, _, _, _, _, _, _, q⟩ := id h1
                      exact q
                    clear hfa hfb HMD hsize hzn hzg
                    go_wp2_with fail
                    refine (HFW.out _).mono ?_
                    rintro e wq ⟨rfl, rfl⟩
                    clear HFW
                    go_wp2_with fail
                    refine (HNUM.out _).mono ?_
                    rintro e w3 ⟨un, rfl, hun, hb3⟩
                    have HB3 := hide hb3
                    have HUN := hide hun.bytes
                    have HW3 := hide (HWS2.out.below hb3)
                    obtain ⟨an, nn, cn, rfl⟩ := hun.form'
                    clear hun hb3 HNUM HWS2
                    go_wp2_with (at_builtin; refine wpList_append_bytes rfl _ _ rfl w.heap.size _ _ _ _ rfl rfl HW3.out HUN.out HBLn.out (Nat.le_trans HMB.out HB3.out.size) ?_)
                    intro v4 w4 ho4 hg4 hat4
                    have HKB := hide (HKG.out w3 w4 v4 HB3.out ho4 hg4 hat4)
                    obtain ⟨a4, n4, c4, rfl⟩ := ho4.form'
                    clear ho4 hg4 hat4 HKG HB3 HUN HW3 HBLn HMB
                    go_wp2
                    go_roundg m
                    case measure => omega
                    case rel =>
                      obtain ⟨hf, hk⟩ := HKB.out
                      rw [← HTK.out] at hf hk
                      exact ⟨j + 1, by omega, by go_num, by rw [hf], hk⟩
              · have hsize : isSize sz = false := by simp [isSize]; omega
                have e1 : (sz == 1) = false := by simp; omega
                have e2 : (sz == 2) = false := by simp; omega
                have e4 : (sz == 4) = false := by simp; omega
                have e8 : (sz == 8) = false := by simp; omega
                have HKB := hide (keeps_skip (n := n) hsize (HK.out.below ((Below.refl _ _).alloc (Nat.le_refl _) (.cells #[.int .i64 sz, .int .i64 n] 51))))
                clear hsize s1 s2 s4 s8 HPK HWS HNB HNR HBL HK HLB HINT HF0 hsz2
                go_wp2
                go_roundg m
                case measure => omega
                case rel =>
                  obtain ⟨hf, hk⟩ := HKB.out
                  rw [← HTK.out] at hf hk
                  exact ⟨j + 1, by omega, by go_num, by rw [hf], hk⟩
end Go.Proofs.YtlgmfiboekmhkaaDoor
