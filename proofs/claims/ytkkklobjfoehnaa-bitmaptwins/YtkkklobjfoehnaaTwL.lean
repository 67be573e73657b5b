/- The law BitmapTwins. -/
import Derived.Test.YtkkklobjfoehnaaTw0
namespace Go.Proofs.Ytkkklobjfoehnaa
open Go.RowKit Go.Extern

set_option maxRecDepth 100000 in
theorem twins_far (n : Int) (ns ms : List Int) (v u : Value) (w : World) (hv : Ints w v ns) (hu : Ints w u ms) (hn : ¬ (0 ≤ n ∧ n ≤ 4096)) :
    Calls Try.prog 3 #[.int .i64 n, v, u] w fun e w' => e = .returned (.bool true) ∧ Below w.heap.size w w' := by
  have HN := hide (new_bad n hn w)
  obtain ⟨ao, cap, rfl⟩ := hv.form
  obtain ⟨ao2, cap2, rfl⟩ := hu.form
  clear hv hu
  rw [show errV 20 = .iface 41 (.int .i64 20) from rfl] at HN
  by_cases h0 : n < 0
  · have d0 : decide (n < 0) = true := by simpa using h0
    clear h0 hn
    go_enter Try.func3, Try.ntmps3
    go_wp2_with fail
    refine HN.out.mono ?_
    rintro e w1 ⟨rfl, hb⟩
    have HB := hide hb
    clear hb HN
    go_wp2_with fail
    refine (awake_any _).mono ?_
    rintro e w2 ⟨rfl, hb⟩
    have HB2 := hide (below_next HB.out hb)
    clear hb
    go_wp2
    go_ret
    exact ⟨rfl, HB2.out⟩
  · have d0 : decide (n < 0) = false := by simpa using h0
    have d1 : decide (4096 < n) = true := by simp; omega
    clear h0 hn
    go_enter Try.func3, Try.ntmps3
    go_wp2_with fail
    refine HN.out.mono ?_
    rintro e w1 ⟨rfl, hb⟩
    have HB := hide hb
    clear hb HN
    go_wp2_with fail
    refine (awake_any _).mono ?_
    rintro e w2 ⟨rfl, hb⟩
    have HB2 := hide (below_next HB.out hb)
    clear hb
    go_wp2
    go_ret
    exact ⟨rfl, HB2.out⟩

set_option maxRecDepth 100000 in
theorem twins_wide (k : Nat) (ns ms : List Int) (v u : Value) (w : World) (hv : Ints w v ns) (hu : Ints w u ms) (hn : k ≤ 4096) (hw : 300 < k ∨ 300 < ns.length ∨ 300 < ms.length) :
    Calls Try.prog 3 #[.int .i64 (k : Int), v, u] w fun e w' => e = .returned (.bool true) ∧ Below w.heap.size w w' := by
  have HN := hide (new_ok k hn w)
  obtain ⟨ao, cap, rfl⟩ := hv.form
  obtain ⟨ao2, cap2, rfl⟩ := hu.form
  clear hv hu
  have d0 : decide ((k : Int) < 0) = false := by simp
  have d4 : decide (4096 < (k : Int)) = false := by simp; omega
  cases h1 : decide (300 < (k : Int)) with
  | true =>
    go_enter Try.func3, Try.ntmps3
    go_wp2_with fail
    refine HN.out.mono ?_
    rintro e w1 ⟨b, rfl, hf⟩
    have HB := hide hf.bel
    clear hf HN
    go_wp2_with fail
    refine (awake_any _).mono ?_
    rintro e w2 ⟨rfl, hb⟩
    have HB2 := hide (below_next HB.out hb)
    clear hb
    go_wp2
    go_ret
    exact ⟨rfl, HB2.out⟩
  | false =>
    cases h2 : decide (300 < (ns.length : Int)) with
    | true =>
      go_enter Try.func3, Try.ntmps3
      go_wp2_with fail
      refine HN.out.mono ?_
      rintro e w1 ⟨b, rfl, hf⟩
      have HB := hide hf.bel
      clear hf HN
      go_wp2_with fail
      refine (awake_any _).mono ?_
      rintro e w2 ⟨rfl, hb⟩
      have HB2 := hide (below_next HB.out hb)
      clear hb
      go_wp2
      go_ret
      exact ⟨rfl, HB2.out⟩
    | false =>
      cases h3 : decide (300 < (ms.length : Int)) with
      | true =>
        go_enter Try.func3, Try.ntmps3
        go_wp2_with fail
        refine HN.out.mono ?_
        rintro e w1 ⟨b, rfl, hf⟩
        have HB := hide hf.bel
        clear hf HN
        go_wp2_with fail
        refine (awake_any _).mono ?_
        rintro e w2 ⟨rfl, hb⟩
        have HB2 := hide (below_next HB.out hb)
        clear hb
        go_wp2
        go_ret
        exact ⟨rfl, HB2.out⟩
      | false =>
        exfalso
        have := of_decide_eq_false h1
        have := of_decide_eq_false h2
        have := of_decide_eq_false h3
        omega

set_option maxRecDepth 100000 in
set_option maxHeartbeats 1000000 in
theorem twins_bad (k : Nat) (ns ms : List Int) (v u : Value) (w : World) (hv : Ints w v ns) (hu : Ints w u ms) (hk : k ≤ 300) (hns : ns.length ≤ 300) (hms : ms.length ≤ 300) (hall : ns.all (inB (List.replicate k false)) = false) :
    Calls Try.prog 3 #[.int .i64 (k : Int), v, u] w fun e w' => e = .returned (.bool true) ∧ Below w.heap.size w w' := by
  have HN := hide (new_ok k (by omega) w)
  have HV := hide hv
  have HU := hide hu
  obtain ⟨ao, cap, rfl⟩ := hv.form
  obtain ⟨ao2, cap2, rfl⟩ := hu.form
  have d1 : decide (300 < (k : Int)) = false := by simp; omega
  have d2 : decide (300 < (ns.length : Int)) = false := by simp; omega
  have d3 : decide (300 < (ms.length : Int)) = false := by simp; omega
  have HA := hide hall
  have HL := hide hns
  clear hv hu hall hns
  go_enter Try.func3, Try.ntmps3
  go_wp2_with fail
  refine HN.out.mono ?_
  rintro e w1 ⟨b, rfl, hf⟩
  have HF := hide hf
  obtain ⟨v', w2, hrun, hown, hb2⟩ := copy_ints w1 _ ns (HV.out.below hf.bel) (by have := HL.out; omega)
  have HO := hide hown
  have HB2 := hide hb2
  obtain ⟨ao', cap', rfl⟩ := hown.form
  clear hf HN hown hb2
  go_wp2_with (at_builtin; (with_reducible refine wpList_appendT rfl rfl hrun ?_ ?_ ?_ ?_); rfl; rfl; rfl)
  refine (set_bad (HF.out.bm.below HB2.out) _ ns (HO.out.ints HV.out.2 (by have := HL.out; omega)) HA.out).mono ?_
  rintro e w3 ⟨rfl, rfl⟩
  rw [show errV 20 = .iface 41 (.int .i64 20) from rfl]
  have HB3 := hide (below_next HF.out.bel HB2.out)
  go_wp2_with fail
  refine (count_any (HF.out.bm.below HB2.out)).mono ?_
  rintro e w4 ⟨rfl, rfl⟩
  rw [show ((List.replicate k false).count true : Int) = 0 by rw [List.count_replicate]; rfl]
  go_wp2_with fail
  refine (awake_any _).mono ?_
  rintro e w5 ⟨rfl, hb⟩
  have HB5 := hide (below_next HB3.out hb)
  clear hb
  go_wp2
  go_ret
  exact ⟨rfl, HB5.out⟩

set_option maxRecDepth 100000 in
set_option maxHeartbeats 1000000 in
theorem twins_ok (k : Nat) (ns ms : List Int) (v u : Value) (w : World) (hv : Ints w v ns) (hu : Ints w u ms) (hk : k ≤ 300) (hns : ns.length ≤ 300) (hms : ms.length ≤ 300) (hall : ns.all (inB (List.replicate k false)) = true) :
    Calls Try.prog 3 #[.int .i64 (k : Int), v, u] w fun e w' => e = .returned (.bool true) ∧ Below w.heap.size w w' := by
  have HN := hide (new_ok k (by omega) w)
  have HV := hide hv
  have HU := hide hu
  obtain ⟨ao, cap, rfl⟩ := hv.form
  obtain ⟨ao2, cap2, g0, off, rfl, h2, h3⟩ := hu.at
  have H2 := hide h2
  have H3 := hide h3
  have d1 : decide (300 < (k : Int)) = false := by simp; omega
  have d2 : decide (300 < (ns.length : Int)) = false := by simp; omega
  have d3 : decide (300 < (ms.length : Int)) = false := by simp; omega
  have HA := hide hall
  have HL := hide hns
  have HLM := hide hms
  clear hv hu hall hns hms h2 h3
  go_enter Try.func3, Try.ntmps3
  go_wp2_with fail
  refine HN.out.mono ?_
  rintro e w1 ⟨b, rfl, hf⟩
  have HF := hide hf
  obtain ⟨v', w2, hrun, hown, hb2⟩ := copy_ints w1 _ ns (HV.out.below hf.bel) (by have := HL.out; omega)
  have HO := hide hown
  have HB2 := hide hb2
  obtain ⟨ao', cap', rfl⟩ := hown.form
  clear hf HN hown hb2
  go_wp2_with (at_builtin; (with_reducible refine wpList_appendT rfl rfl hrun ?_ ?_ ?_ ?_); rfl; rfl; rfl)
  refine (set_ok (F := newF w w1) (HF.out.bm.below HB2.out) _ ns (HO.out.ints HV.out.2 (by have := HL.out; omega)) (fun q hq hF => by have := (HO.out.lt q hq).1; have := hF.2; omega) HA.out).mono ?_
  rintro e w3 ⟨rfl, hp⟩
  have HP := hide hp.bm
  have HB3 : Hid (Below w.heap.size w w3) := hide ((below_next HF.out.bel HB2.out).trans (hp.turn.below (by have := HF.out.bel.size; have := HB2.out.size; omega) (fun q hq => hq.1)))
  have HS3 : Hid (w1.heap.size ≤ w3.heap.size) := hide (Nat.le_trans HB2.out.size hp.turn.size)
  have hlen : (putS (List.replicate k false) ns true).length = k := by rw [putS_length]; simp
  have HLL := hide hlen
  clear hp hlen hrun HO HF
  generalize putS (List.replicate k false) ns true = l at HP HLL
  go_wp2_with fail
  refine (clone_any HP.out).mono ?_
  rintro e w4 ⟨bc, rfl, hfr⟩
  have HC := hide hfr.bm
  have HP4 := hide (HP.out.below hfr.bel)
  have HB4 := hide (below_next HB3.out hfr.bel)
  have HS4 : Hid (w1.heap.size ≤ w4.heap.size) := hide (Nat.le_trans HS3.out hfr.bel.size)
  clear hfr HP HB3
  go_wp2_with fail
  go_loopg [10, 69] ms.length (fun c fv i wr => ∃ j : Nat, j + c = ms.length ∧ i = .int .i64 (j : Int) ∧ Hid (OwnI wr w4.heap.size fv (freshTo l ms j)) ∧ Hid (Bm wr (newF w w1) b l) ∧ Hid (Bm wr (newF w3 w4) bc l) ∧ Hid (Below w.heap.size w wr) ∧ Hid (w4.heap.size ≤ wr.heap.size))
  case atStart => exact ⟨0, by omega, rfl, hide (World.ownsRow_nil _ _ _ _), HP4, HC, HB4, hide (Nat.le_refl _)⟩
  case round =>
    obtain ⟨j, hj, rfl, HO, HX, HY, HZ, HS⟩ := hrel
    cases gk with
    | zero =>
      have hnl : ¬ (j : Int) < (ms.length : Int) := by omega
      have HJ : Hid (j ≤ 1000) := hide (by have := HLM.out; omega)
      clear hj
      obtain ⟨aof, capf, rfl⟩ := HO.out.form
      have HM := hide (fun n (hn : n ∈ freshTo l ms j) => freshTo_mem hn)
      have HFL := hide (freshTo_len l ms j)
      generalize freshTo l ms j = fs at HO HM HFL
      have hfs : fs.length ≤ 1000 := Nat.le_trans HFL.out HJ.out
      have HT : Hid (TwS w (newF w w1) (newF w3 w4) w4.heap.size b bc l l (.slice aof fs.length capf) fs wr) := hide ⟨HO.out, HX.out, HY.out, HZ.out⟩
      have HF1 : Hid (∀ q, newF w w1 q → w.heap.size ≤ q ∧ q < w4.heap.size) := hide fun q hq => ⟨hq.1, Nat.lt_of_lt_of_le hq.2 HS4.out⟩
      have HF2 : Hid (∀ q, newF w3 w4 q → ¬ newF w w1 q) := hide fun q hq hq1 => by have := hq.1; have := hq1.2; have := HS3.out; omega
      have HI : Hid (∀ n ∈ fs, I64 n) := hide fun n hn => HU.out.2 n (HM.out n hn).2
      have HOUT : Hid (∀ q, (Value.slice aof fs.length capf).ownBlock = some q → ¬ newF w w1 q) := hide fun q hq hF => by have := (HO.out.lt q hq).1; have := (HF1.out q hF).2; omega
      have HIN : Hid (∀ n ∈ fs, inB l n = true) := hide fun n hn => (HM.out n hn).1.1
      have HBK := hide (putS_back (fun n hn => (HM.out n hn).1))
      have HFS := hide hfs
      clear HO HX HY HZ hfs
      go_wp2_with fail
      refine (set_ok HT.out.bx _ fs (HT.out.own.ints HI.out (by have := HFS.out; omega)) HOUT.out (all_of HIN.out)).mono ?_
      rintro e wa ⟨rfl, hpa⟩
      have HTa := hide (HT.out.put HF1.out HF2.out hpa)
      clear hpa HT
      go_wp2_with fail
      refine (set_ok HTa.out.bx _ fs (HTa.out.own.ints HI.out (by have := HFS.out; omega)) HOUT.out (all_of (fun n hn => by rw [inB_putS]; exact HIN.out n hn))).mono ?_
      rintro e wb ⟨rfl, hpb⟩
      have HTb := hide (HTa.out.put HF1.out HF2.out hpb)
      have HHAS : Hid (∀ n ∈ fs, hasS (putS (putS l fs true) fs true) n = true) := hide fun n hn => putS_has (fun x hx => by rw [inB_putS]; exact HIN.out x hx) hn
      have HALL3 : Hid (fs.all (inB (putS (putS l fs true) fs true)) = true) := hide (all_of (fun n hn => by rw [inB_putS, inB_putS]; exact HIN.out n hn))
      clear hpb HTa HIN
      generalize putS (putS l fs true) fs true = l2 at HTb HHAS HALL3 HBK
      have e5 : IntKind.i64.wrap ((fs.length : Int) - 1) = (fs.length : Int) - 1 := IntWalk.i64_in _ ⟨by omega, by have := HFS.out; omega⟩
      obtain ⟨aof2, capf2, gf, offf, hfe, hf2, hf3⟩ := (HTb.out.own.ints HI.out (by have := HFS.out; omega)).at
      obtain ⟨rfl, rfl⟩ : aof = aof2 ∧ capf = capf2 := by simpa using hfe
      have HF3 := hide hf2
      clear hfe hf2 hf3
      go_wp2_with fail
      go_loopg [13] fs.length (fun c i wx => c ≤ fs.length ∧ i = .int .i64 ((c : Int) - 1) ∧ Hid (TwS w (newF w w1) (newF w3 w4) w4.heap.size b bc l2 l (.slice aof fs.length capf) fs wx))
      case atStart => exact ⟨Nat.le_refl _, rfl, HTb⟩
      case round =>
        obtain ⟨hc, rfl, HTc⟩ := hrel
        cases gk with
        | zero =>
          have d9 : decide ((0 : Int) ≤ ((0 : Nat) : Int) - 1) = false := by decide
          go_wp2_with fail
          refine (clear_ok HTc.out.bx _ fs (HTc.out.own.ints HI.out (by have := HFS.out; omega)) HOUT.out HALL3.out).mono ?_
          rintro e wd ⟨rfl, hpd⟩
          have HTd := hide (HTc.out.put HF1.out HF2.out hpd)
          rw [HBK.out] at HTd
          clear hpd HTc
          go_wp2_with fail
          refine (count_any HTd.out.bx).mono ?_
          rintro e we ⟨rfl, rfl⟩
          go_wp2_with fail
          refine (count_any HTd.out.cl).mono ?_
          rintro e wf ⟨rfl, rfl⟩
          go_wp2_with fail
          go_loopg [127] k (fun c i wx => ∃ j : Nat, j + c = k ∧ i = .int .i64 (j : Int) ∧ Hid (TwS w (newF w w1) (newF w3 w4) w4.heap.size b bc l l (.slice aof fs.length capf) fs wx))
          case atStart => exact ⟨0, by omega, rfl, HTd⟩
          case round =>
            obtain ⟨j, hj, rfl, HTe⟩ := hrel
            cases gk with
            | zero =>
              have hnl2 : ¬ (j : Int) < (k : Int) := by omega
              clear hj
              go_wp2_with fail
              refine (awake_any _).mono ?_
              rintro e wg ⟨rfl, hb⟩
              have HBg := hide (below_next HTe.out.bel hb)
              clear hb
              go_wp2
              go_ret
              exact ⟨rfl, HBg.out⟩
            | succ c =>
              have hnl2 : (j : Int) < (k : Int) := by omega
              have e2 : IntKind.i64.wrap ((j : Int) + 1) = (j : Int) + 1 := IntWalk.i64_in _ ⟨by omega, by omega⟩
              go_wp2_with fail
              refine (has_any HTe.out.bx (j : Int)).mono ?_
              rintro e wg ⟨rfl, hb⟩
              have HTg := hide (HTe.out.below hb)
              clear hb
              go_wp2_with fail
              refine (has_any HTg.out.cl (j : Int)).mono ?_
              rintro e wh ⟨rfl, hb⟩
              have HTh := hide (HTg.out.below hb)
              clear hb
              generalize hasS l (j : Int) = q
              cases q with
              | true =>
                go_wp2
                go_roundg c
                case measure => omega
                case rel => exact ⟨j + 1, by omega, by go_num, HTh⟩
              | false =>
                go_wp2
                go_roundg c
                case measure => omega
                case rel => exact ⟨j + 1, by omega, by go_num, HTh⟩
        | succ c =>
          have hlt : c < fs.length := by omega
          obtain ⟨x, hx⟩ : ∃ x, fs[c]? = some x := ⟨fs[c], by simp [hlt]⟩
          obtain ⟨aof2, capf2, gf2, offf2, hfe, hf2, hf3⟩ := (HTc.out.own.ints HI.out (by have := HFS.out; omega)).at
          obtain ⟨rfl, rfl⟩ : aof = aof2 ∧ capf = capf2 := by simpa using hfe
          obtain rfl := hf2 (by omega)
          have cx := hf3 c x hx
          have ec : (((c + 1 : Nat) : Int) - 1) = (c : Int) := by omega
          rw [ec]
          have d9 : decide ((0 : Int) ≤ (c : Int)) = true := by simp
          have hge : (0 : Int) ≤ (c : Int) := by omega
          have hli : (c : Int) < (fs.length : Int) := by omega
          have e6 : IntKind.i64.wrap ((c : Int) - 1) = (c : Int) - 1 := IntWalk.i64_in _ ⟨by omega, by have := HFS.out; omega⟩
          have HQ := hide (HHAS.out x (List.mem_of_getElem? hx))
          clear hlt hx hfe hf2 hf3 ec
          go_wp2_with fail
          refine (has_any HTc.out.bx x).mono ?_
          rintro e wd ⟨rfl, hbd⟩
          rw [HQ.out]
          have HTd := hide (HTc.out.below hbd)
          clear hbd
          go_wp2
          go_roundg c
          case measure => omega
          case rel => exact ⟨by omega, rfl, HTd⟩
    | succ c =>
      have hlt : j < ms.length := by omega
      have hnl : (j : Int) < (ms.length : Int) := by omega
      obtain ⟨x, hx⟩ : ∃ x, ms[j]? = some x := ⟨ms[j], by simp [hlt]⟩
      obtain rfl := H2.out (by omega)
      have cx : wr.cell? ⟨g0, off + j, none⟩ = some (.int .i64 x) := by
        have := H3.out j x hx
        rw [HZ.out.cell (cell_lt this)]; exact this
      have e2 : IntKind.i64.wrap ((j : Int) + 1) = (j : Int) + 1 := IntWalk.i64_in _ ⟨by omega, by have := HLM.out; omega⟩
      have hge : (0 : Int) ≤ (j : Int) := by omega
      have HXX := hide hx
      have HXI := hide (HU.out.2 x (List.mem_of_getElem? hx))
      have HJ : Hid (j ≤ 1000) := hide (by have := HLM.out; omega)
      clear hlt hx
      by_cases h0 : x < 0
      · have d0 : decide (0 ≤ x) = false := by simp; omega
        have HN : Hid (freshTo l ms (j + 1) = freshTo l ms j) := hide (freshTo_no HXX.out (by have : inB l x = false := by unfold inB; simp; omega
                                                                                              rw [this]; rfl))
        obtain ⟨aof, capf, hfo⟩ := HO.out.form
        subst hfo
        clear h0
        go_wp2
        go_roundg c
        case measure => omega
        case rel => exact ⟨j + 1, by omega, by go_num, by rw [HN.out]; exact HO, HX, HY, HZ, HS⟩
      · have d0 : decide (0 ≤ x) = true := by simp; omega
        by_cases h1 : x < (k : Int)
        · have d4 : decide (x < (k : Int)) = true := by simpa using h1
          have hin : inB l x = true := by unfold inB; rw [HLL.out]; simp; omega
          have HIN := hide hin
          clear h0 h1 hin
          obtain ⟨aof, capf, hfo⟩ := HO.out.form
          subst hfo
          go_wp2_with fail
          refine (has_any HX.out x).mono ?_
          rintro e w5 ⟨rfl, hb5⟩
          have HX5 := hide (HX.out.below hb5)
          have HY5 := hide (HY.out.below hb5)
          have HZ5 := hide (below_next HZ.out hb5)
          have HS5 : Hid (w4.heap.size ≤ w5.heap.size) := hide (Nat.le_trans HS.out hb5.size)
          have HO5 := hide (HO.out.below hb5)
          clear hb5
          cases hq : hasS l x with
          | true =>
            have HN : Hid (freshTo l ms (j + 1) = freshTo l ms j) := hide (freshTo_no HXX.out (by rw [hq, HIN.out]; rfl))
            clear hq
            go_wp2
            go_roundg c
            case measure => omega
            case rel => exact ⟨j + 1, by omega, by go_num, by rw [HN.out]; exact HO5, HX5, HY5, HZ5, HS5⟩
          | false =>
            have HN : Hid (freshTo l ms (j + 1) = freshTo l ms j ++ [x]) := hide (freshTo_yes HXX.out (by rw [hq, HIN.out]; rfl))
            obtain ⟨v6, w6, hrun, hg6⟩ := append_one w5 w4.heap.size _ (freshTo l ms j) x HO5.out HXI.out (by have := freshTo_len l ms j; have := HJ.out; omega) HS5.out
            have HO6 := hide hg6.own
            have HS6 : Hid (w4.heap.size ≤ w6.heap.size) := hide (Nat.le_trans HS5.out hg6.bel.size)
            have hF1 : ∀ q, newF w w1 q → q < w4.heap.size := fun q hq => Nat.lt_of_lt_of_le hq.2 HS4.out
            have HX6 : Hid (Bm w6 (newF w w1) b l) := hide (HX5.out.of_blocks fun q o hq ho => by rw [hg6.bel.block q (hF1 q hq)]; exact ho)
            have HY6 : Hid (Bm w6 (newF w3 w4) bc l) := hide (HY5.out.of_blocks fun q o hq ho => by rw [hg6.bel.block q hq.2]; exact ho)
            have HZ6 : Hid (Below w.heap.size w w6) := hide (HZ5.out.trans (hg6.bel.mono HB4.out.size))
            obtain ⟨ao6, cap6, e6⟩ := hg6.own.form
            generalize (freshTo l ms j ++ [x]).length = n6 at e6
            subst e6
            clear hg6 hF1 hq
            go_wp2_with (at_builtin; (with_reducible refine wpList_appendT rfl rfl hrun ?_ ?_ ?_ ?_); rfl; rfl; rfl)
            go_roundg c
            case measure => omega
            case rel => exact ⟨j + 1, by omega, by go_num, by rw [HN.out]; exact HO6, HX6, HY6, HZ6, HS6⟩
        · have d4 : decide (x < (k : Int)) = false := by simpa using h1
          have HN : Hid (freshTo l ms (j + 1) = freshTo l ms j) := hide (freshTo_no HXX.out (by have : inB l x = false := by unfold inB; rw [HLL.out]; simp; omega
                                                                                                rw [this]; rfl))
          obtain ⟨aof, capf, hfo⟩ := HO.out.form
          subst hfo
          clear h0 h1
          go_wp2
          go_roundg c
          case measure => omega
          case rel => exact ⟨j + 1, by omega, by go_num, by rw [HN.out]; exact HO, HX, HY, HZ, HS⟩

theorem twinsL_any (n : Int) (ns ms : List Int) (v u : Value) (w : World) (hv : Ints w v ns) (hu : Ints w u ms) :
    Calls Try.prog 3 #[.int .i64 n, v, u] w fun e w' => e = .returned (.bool true) ∧ Below w.heap.size w w' := by
  by_cases hn : 0 ≤ n ∧ n ≤ 4096
  · obtain ⟨k, rfl⟩ : ∃ k : Nat, n = (k : Int) := ⟨n.toNat, by omega⟩
    by_cases hw : 300 < k ∨ 300 < ns.length ∨ 300 < ms.length
    · exact twins_wide k ns ms v u w hv hu (by omega) hw
    · cases hall : ns.all (inB (List.replicate k false)) with
      | true => exact twins_ok k ns ms v u w hv hu (by omega) (by omega) (by omega) hall
      | false => exact twins_bad k ns ms v u w hv hu (by omega) (by omega) (by omega) hall
  · exact twins_far n ns ms v u w hv hu hn
end Go.Proofs.Ytkkklobjfoehnaa
