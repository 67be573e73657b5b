/- The law BitmapRuns. -/
import Derived.Test.YtkkklobjfoehnaaDoorRu0
namespace Go.Proofs.YtkkklobjfoehnaaDoor
open Go.RowKit Go.Extern

set_option maxRecDepth 100000 in
theorem runs_far (n : Int) (ns : List Int) (v : Value) (w : World) (hv : Ints w v ns) (hn : ¬ (0 ≤ n ∧ n ≤ 4096)) :
    Calls Tryd.prog 5 #[.int .i64 n, v] w fun e w' => e = .returned (.bool true) ∧ Below w.heap.size w w' := by
  have HN := hide (new_bad n hn w)
  obtain ⟨ao, cap, rfl⟩ := hv.form
  clear hv
  rw [show errV 20 = .iface 55 (.int .i64 20) from rfl] at HN
  by_cases h0 : n < 0
  · have d0 : decide (n < 0) = true := by simpa using h0
    clear h0 hn
    go_enter Tryd.func5, Tryd.ntmps5
    go_wp2_with fail
    refine HN.out.mono ?_
    rintro e w1 ⟨rfl, hb⟩
    have HB := hide hb
    clear hb HN
    go_wp2_with fail
    refine (awake_any _).mono ?_
    rintro e w2 ⟨rfl, hb⟩
    have HB2 := hide (below_next HB.out hb)
    clear hb
    go_wp2
    go_ret
    exact ⟨rfl, HB2.out⟩
  · have d0 : decide (n < 0) = false := by simpa using h0
    have d1 : decide (4096 < n) = true := by simp; omega
    clear h0 hn
    go_enter Tryd.func5, Tryd.ntmps5
    go_wp2_with fail
    refine HN.out.mono ?_
    rintro e w1 ⟨rfl, hb⟩
    have HB := hide hb
    clear hb HN
    go_wp2_with fail
    refine (awake_any _).mono ?_
    rintro e w2 ⟨rfl, hb⟩
    have HB2 := hide (below_next HB.out hb)
    clear hb
    go_wp2
    go_ret
    exact ⟨rfl, HB2.out⟩

set_option maxRecDepth 100000 in
theorem runs_wide (k : Nat) (ns : List Int) (v : Value) (w : World) (hv : Ints w v ns) (hn : k ≤ 4096) (hw : 600 < k ∨ 600 < ns.length) :
    Calls Tryd.prog 5 #[.int .i64 (k : Int), v] w fun e w' => e = .returned (.bool true) ∧ Below w.heap.size w w' := by
  have HN := hide (new_ok k hn w)
  obtain ⟨ao, cap, rfl⟩ := hv.form
  clear hv
  have d0 : decide ((k : Int) < 0) = false := by simp
  have d4 : decide (4096 < (k : Int)) = false := by simp; omega
  cases h1 : decide (600 < (k : Int)) with
  | true =>
    go_enter Tryd.func5, Tryd.ntmps5
    go_wp2_with fail
    refine HN.out.mono ?_
    rintro e w1 ⟨b, rfl, hf⟩
    have HB := hide hf.bel
    clear hf HN
    go_wp2_with fail
    refine (awake_any _).mono ?_
    rintro e w2 ⟨rfl, hb⟩
    have HB2 := hide (below_next HB.out hb)
    clear hb
    go_wp2
    go_ret
    exact ⟨rfl, HB2.out⟩
  | false =>
    cases h2 : decide (600 < (ns.length : Int)) with
    | true =>
      go_enter Tryd.func5, Tryd.ntmps5
      go_wp2_with fail
      refine HN.out.mono ?_
      rintro e w1 ⟨b, rfl, hf⟩
      have HB := hide hf.bel
      clear hf HN
      go_wp2_with fail
      refine (awake_any _).mono ?_
      rintro e w2 ⟨rfl, hb⟩
      have HB2 := hide (below_next HB.out hb)
      clear hb
      go_wp2
      go_ret
      exact ⟨rfl, HB2.out⟩
    | false =>
      exfalso
      have := of_decide_eq_false h1
      have := of_decide_eq_false h2
      omega

set_option maxRecDepth 100000 in
set_option maxHeartbeats 2000000 in
theorem runs_near (k : Nat) (ns : List Int) (v : Value) (w : World) (hv : Ints w v ns) (hT : Tab w) (hk : k ≤ 600) (hns : ns.length ≤ 600) :
    Calls Tryd.prog 5 #[.int .i64 (k : Int), v] w fun e w' => e = .returned (.bool true) ∧ Below w.heap.size w w' := by
  have HN := hide (new_ok k (by omega) w)
  have HNL := hide hns
  have HT := hide hT
  have HI := hide hv.2
  obtain ⟨ao, cap, g0, off, rfl, h2, h3⟩ := hv.at
  have H2 := hide h2
  have H3 := hide h3
  have d1 : decide (600 < (k : Int)) = false := by simp; omega
  have d2 : decide (600 < (ns.length : Int)) = false := by simp; omega
  clear hv h2 h3 hns hT
  go_enter Tryd.func5, Tryd.ntmps5
  go_wp2_with fail
  refine HN.out.mono ?_
  rintro e w1 ⟨b, rfl, hf⟩
  have HF := hide hf
  clear hf HN
  go_wp2_with fail
  go_loopg [54] ns.length (fun c i wr => ∃ j : Nat, j + c = ns.length ∧ i = .int .i64 (j : Int) ∧ Hid (Mine w (newF w w1) w1.heap.size b k wr))
  case atStart => exact ⟨0, by omega, rfl, hide (Mine.start HF.out)⟩
  case round =>
    obtain ⟨j, hj, rfl, HM⟩ := hrel
    cases gk with
    | zero =>
      have hnl : ¬ (j : Int) < (ns.length : Int) := by omega
      clear hj
      obtain ⟨l, hl, hbm, hbel, hsz, hF⟩ := HM.out
      have HL := hide hl
      have HS := hide hsz
      have HFF := hide hF
      have HB := hide hbel
      have HBM := hide hbm
      clear hl hbm hbel hsz hF HM
      go_wp2_with fail
      have hT2 := HT.out.below HB.out HT.out.lt
      have HRU := hide (runs_any HBM.out hT2)
      clear hT2
      go_wp2_with fail
      refine HRU.out.mono ?_
      rintro e w2 ⟨u, rs, rfl, hto⟩
      have HTO := hide hto
      have HX2 := hide (HBM.out.below hto.bel)
      have HB2 := hide (below_next HB.out hto.bel)
      have HO2 := hide hto.own
      obtain ⟨ee, hrf, hfe⟩ := hto.runs
      have HRF := hide hrf
      have HFE := hide hfe
      have HLE := hide (hrf.le (Nat.zero_le _))
      obtain ⟨aor, capr, hur⟩ := ownsRow_form hto.own.1
      rw [enR_length] at hur
      subst hur
      clear hto HRU hrf hfe
      go_wp2_with fail
      go_loopg [9, 10, 66] rs.length (fun c tv av iv wx => ∃ (j : Nat) (t : List (Nat × Nat)) (at_ : Nat), c = t.length ∧ iv = .int .i64 (j : Int) ∧ av = .int .i64 (at_ : Int) ∧ tv = .int .i64 ((l.count true - cntFrom l at_ : Nat) : Int) ∧ Hid (rs.drop j = t) ∧ Hid (RunsFrom l at_ t ee) ∧ Hid (at_ = 0 ∨ hasS l (at_ : Int) = false) ∧ Hid (cntFrom l at_ ≤ l.count true) ∧ Hid (OwnE 50 wx wr.heap.size (.slice aor rs.length capr) (enR rs)) ∧ Hid (Bm wx (newF w w1) b l) ∧ Hid (Below w.heap.size w wx))
      case atStart => exact ⟨0, rs, 0, rfl, rfl, rfl, by rw [cntFrom_zero, Nat.sub_self]; rfl, hide rfl, HRF, hide (.inl rfl), hide (by rw [cntFrom_zero]; exact Nat.le_refl _), HO2, HX2, HB2⟩
      case round =>
        obtain ⟨j, t, at_, hc, rfl, rfl, rfl, HD, HRT, HAT, HCT, HO, HBX, HBE⟩ := hrel
        have hT3 := HT.out.below HBE.out HT.out.lt
        have HT3 := hide hT3
        clear hT3
        cases t with
        | nil =>
          have hjl : rs.length ≤ j := List.drop_eq_nil_iff.1 HD.out
          have hnl2 : ¬ (j : Int) < (rs.length : Int) := by omega
          have hae : at_ = ee := HRT.out
          have HNX := hide (next_any HBX.out (at_ : Int) HT3.out)
          rw [Int.toNat_natCast, hae, HFE.out] at HNX
          unfold foundV at HNX
          rw [← hae] at HNX
          have HZ : Hid (l.count true - cntFrom l at_ = l.count true) := hide (by rw [hae, cntFrom_none HFE.out, Nat.sub_zero])
          rw [HZ.out]
          clear hjl hae
          go_wp2_with fail
          refine HNX.out.mono ?_
          rintro e w3 ⟨rfl, rfl⟩
          go_wp2_with fail
          refine (count_any HBX.out).mono ?_
          rintro e w4 ⟨rfl, rfl⟩
          go_wp2_with fail
          refine (awake_any _).mono ?_
          rintro e w5 ⟨rfl, hb⟩
          have HB5 := hide (below_next HBE.out hb)
          clear hb
          go_wp2
          go_ret
          exact ⟨rfl, HB5.out⟩
        | cons r t =>
          obtain ⟨f, kk⟩ := r
          obtain ⟨q1, q2, q3, q4⟩ := HRT.out
          obtain ⟨z, hz⟩ : ∃ z, z = f + kk := ⟨_, rfl⟩
          rw [← hz] at q3 q4
          have R := run1 q1 q3
          have hjr : rs[j]? = some (f, kk) := by
            have := congrArg (fun x => x[0]?) HD.out
            simpa [List.getElem?_drop] using this
          have hjl : j < rs.length := (List.getElem?_eq_some_iff.1 hjr).1
          have HD2 : Hid (rs.drop (j + 1) = t) := hide (by
            have := congrArg (List.drop 1) HD.out
            simpa [List.drop_drop, Nat.add_comm] using this)
          have hnl2 : (j : Int) < (rs.length : Int) := by omega
          have hge : (0 : Int) ≤ (j : Int) := by omega
          obtain ⟨g, offr, capr2, hur, cf, ck⟩ := run_at HO.out hjr
          obtain ⟨rfl, rfl⟩ : aor = some ⟨g, offr, none⟩ ∧ capr = capr2 := by simpa using hur
          have hl4 := HBX.out.len
          have hrl := R.le
          have hfz := R.lt
          have hrlen : rs.length ≤ 4096 := by have := HRF.out.len; have := HLE.out; omega
          have e2 : IntKind.i64.wrap ((j : Int) + 1) = (j : Int) + 1 := IntWalk.i64_in _ ⟨by omega, by omega⟩
          have e3 : IntKind.i64.wrap ((f : Int) - 1) = (f : Int) - 1 := IntWalk.i64_in _ ⟨by omega, by omega⟩
          have e4 : IntKind.i64.wrap ((f : Int) + (kk : Int)) = (z : Int) := by rw [IntWalk.i64_in _ ⟨by omega, by omega⟩]; omega
          have e5 : IntKind.i64.wrap ((z : Int) - 1) = (z : Int) - 1 := IntWalk.i64_in _ ⟨by omega, by omega⟩
          have hcnt := R.cnt
          have hcl := count_le_length l
          have hct := HCT.out
          obtain ⟨T, hT0⟩ : ∃ T, T = l.count true - cntFrom l at_ := ⟨_, rfl⟩
          obtain ⟨T2, hT2⟩ : ∃ T2, T2 = l.count true - cntFrom l z := ⟨_, rfl⟩
          have e6 : IntKind.i64.wrap ((T : Int) + (kk : Int)) = (T2 : Int) := by rw [IntWalk.i64_in _ ⟨by omega, by omega⟩]; omega
          have HCT2 : Hid (cntFrom l z ≤ l.count true) := hide (by omega)
          rw [← hT0]
          have HT0 := hide hT2
          have HA := hide (R.ahead HAT.out)
          have HLA := hide R.last
          have HST := hide R.stop
          have HOP := hide R.open_
          have HQ4 := hide q4
          have HNX := hide (next_any (HBX.out.below (bel_alloc _ (.cells #[.int .i64 (f : Int), .int .i64 (kk : Int)] 50))) (at_ : Int) (HT3.out.next (bel_alloc _ _)))
          rw [Int.toNat_natCast, q1] at HNX
          unfold foundV at HNX
          have HS1 := hide (RuS.start f kk HO.out HBX.out HBE.out)
          have HC := hide hc
          clear q1 q2 q3 q4 R hjr hjl hur hl4 hrl hfz hrlen hcnt hcl hct hT0 hT2 hz hc HO HBX HBE
          go_wp2_with fail
          refine HNX.out.mono ?_
          rintro e w3 ⟨rfl, rfl⟩
          have r0 := HS1.out.r0
          have r1 := HS1.out.r1
          go_wp2_with fail
          refine (has_any HS1.out.bm ((f : Int) - 1)).mono ?_
          rintro e w4 ⟨rfl, hb⟩
          rw [HA.out]
          have HS2 := hide (HS1.out.below hb)
          clear hb r0 r1
          have r0 := HS2.out.r0
          have r1 := HS2.out.r1
          go_wp2_with fail
          refine (has_any HS2.out.bm (z : Int)).mono ?_
          rintro e w5 ⟨rfl, hb⟩
          rw [HST.out]
          have HS3 := hide (HS2.out.below hb)
          clear hb r0 r1 HS1 HS2
          have r0 := HS3.out.r0
          have r1 := HS3.out.r1
          go_wp2_with fail
          refine (has_any HS3.out.bm ((z : Int) - 1)).mono ?_
          rintro e w6 ⟨rfl, hb⟩
          rw [HLA.out]
          have HS4 := hide (HS3.out.below hb)
          clear hb r0 r1 HS3
          have r0 := HS4.out.r0
          have r1 := HS4.out.r1
          go_wp2_with fail
          have HFR := hide (free_any HS4.out.bm (f : Int) (HT.out.below HS4.out.bel HT.out.lt))
          rw [Int.toNat_natCast] at HFR
          rcases HOP.out with hop | ⟨hop, hze⟩
          · rw [hop] at HFR
            unfold foundV at HFR
            clear hop
            refine HFR.out.mono ?_
            rintro e w7 ⟨rfl, rfl⟩
            go_wp2
            go_roundg t.length
            case measure => have := HC.out; simp at this; omega
            case rel => exact ⟨j + 1, t, z, rfl, by go_num, rfl, by rw [HT0.out], HD2, HQ4, hide (.inr HST.out), HCT2, hide HS4.out.own, hide HS4.out.bm, hide HS4.out.bel⟩
          · rw [hop] at HFR
            unfold foundV at HFR
            have hzk : z = k := by rw [hze]; exact HL.out
            subst hzk
            clear hop hze
            refine HFR.out.mono ?_
            rintro e w7 ⟨rfl, rfl⟩
            go_wp2
            go_roundg t.length
            case measure => have := HC.out; simp at this; omega
            case rel => exact ⟨j + 1, t, z, rfl, by go_num, rfl, by rw [HT0.out], HD2, HQ4, hide (.inr HST.out), HCT2, hide HS4.out.own, hide HS4.out.bm, hide HS4.out.bel⟩
    | succ c =>
      have hlt : j < ns.length := by omega
      have hnl : (j : Int) < (ns.length : Int) := by omega
      obtain ⟨x, hx⟩ : ∃ x, ns[j]? = some x := ⟨ns[j], by simp [hlt]⟩
      obtain rfl := H2.out (by omega)
      obtain ⟨l, hl, hbm, hbel, hsz, hF⟩ := HM.out
      have cx : wr.cell? ⟨g0, off + j, none⟩ = some (.int .i64 x) := by
        have := H3.out j x hx
        rw [hbel.cell (cell_lt this)]; exact this
      have hxi := HI.out x (List.mem_of_getElem? hx)
      have e2 : IntKind.i64.wrap ((j : Int) + 1) = (j : Int) + 1 := IntWalk.i64_in _ ⟨by omega, by have := HNL.out; omega⟩
      have hge : (0 : Int) ≤ (j : Int) := by omega
      have HST := hide (set1_any hbm (fun q hq => Nat.lt_of_lt_of_le (hF q hq).2 hsz) x hxi)
      have HMN : Hid (∀ w', Put (newF w w1) b (put1 l x true) wr w' → Mine w (newF w w1) w1.heap.size b k w') := hide fun w' hp => Mine.put hl hbel hsz hF (by rw [put1_length]; exact hl) hp
      clear hlt hx hl hbm hbel hsz hF HM hxi
      go_wp2_with fail
      refine HST.out.mono ?_
      rintro e w2 ⟨u, rfl, hp⟩
      have HM2 := hide (HMN.out w2 hp)
      clear hp HST HMN
      go_wp2
      go_roundg c
      case measure => omega
      case rel => exact ⟨j + 1, by omega, by go_num, HM2⟩
  
theorem runsL_any (n : Int) (ns : List Int) (v : Value) (w : World) (hv : Ints w v ns) (hT : Tab w) :
    Calls Tryd.prog 5 #[.int .i64 n, v] w fun e w' => e = .returned (.bool true) ∧ Below w.heap.size w w' := by
  by_cases hn : 0 ≤ n ∧ n ≤ 4096
  · obtain ⟨k, rfl⟩ : ∃ k : Nat, n = (k : Int) := ⟨n.toNat, by omega⟩
    by_cases hw : 600 < k ∨ 600 < ns.length
    · exact runs_wide k ns v w hv (by omega) hw
    · exact runs_near k ns v w hv hT (by omega) (by omega)
  · exact runs_far n ns v w hv hn
end Go.Proofs.YtkkklobjfoehnaaDoor
