/- The law PlanRegions. -/
import Derived.Test.YtnkcebngfnailaaRk
import Derived.Test.YtnkcebngfnailaaFiL
namespace Go.Proofs.Ytnkcebngfnailaa
open Go.RowKit Go.Extern

theorem is110 (w : World) : Calls Try.prog 13 #[.iface 51 (.int .i64 110), .int .i64 110] w fun e w' => e = .returned (.bool true) ∧ w' = w := is_any 110 110 w
theorem is20r (w : World) : Calls Try.prog 13 #[.iface 51 (.int .i64 20), .int .i64 20] w fun e w' => e = .returned (.bool true) ∧ w' = w := is_any 20 20 w
/-- What First tells of right addresses. -/
def FirstR (w : World) (l : List Int) (d : Int) (fa : Option Addr) (fn fc : Nat) (ef : Value) : Prop :=
  ((0 ≤ d ∧ d < 8) ∧ ef = .nilIface ∧ Ints w (.slice fa fn fc) (pickD d (regs (sortS l)))) ∨ (¬ (0 ≤ d ∧ d < 8) ∧ ef = .iface 51 (.int .i64 20) ∧ fn = 0)
theorem Firstd.right {w : World} {l : List Int} {d : Int} {e : Ending} {w' : World} (h : Firstd w l d e w') (hr : Rt l) : ∃ fa fn fc ef, e = .returned (.tuple #[.slice fa fn fc, ef]) ∧ FirstR w' l d fa fn fc ef ∧ Below w.heap.size w w' := by
  obtain ⟨h, hb⟩ := h
  rcases h with ⟨-, h1, v, rfl, h2⟩ | ⟨h1, -⟩ | ⟨-, h1, rfl⟩
  · obtain ⟨fa, fn, fc, rfl, -⟩ := h2.form
    exact ⟨fa, fn, fc, _, rfl, .inl ⟨h1, rfl, h2⟩, hb⟩
  · exact absurd hr h1
  · exact ⟨_, _, _, _, rfl, .inr ⟨h1, rfl, rfl⟩, hb⟩
theorem FirstR.below {w w' : World} {l : List Int} {d : Int} {fa : Option Addr} {fn fc : Nat} {ef : Value} (h : FirstR w l d fa fn fc ef) (hb : Below w.heap.size w w') : FirstR w' l d fa fn fc ef := by
  rcases h with ⟨h1, h2, h3⟩ | h
  · exact .inl ⟨h1, h2, h3.below hb⟩
  · exact .inr h
theorem onDev_short (l : List Int) (d : Int) : (onDev (sortS l) d).length ≤ l.length := by
  rw [← sortS_length l]; exact List.length_filter_le _ _
/-- The region that comes next is the document's. -/
theorem next_chunk {L : List Rg} {s : List Int} {d : Int} {n j : Nat} (h : outR (L.drop j) = regs ((onDev s d).drop (4 * n) ++ fromDev s (d + 1))) (hc : chunk (onDev s d) n ≠ []) :
    ∃ r, L[j]? = some r ∧ r.dev = d ∧ r.l = chunk (onDev s d) n ∧ outR (L.drop (j + 1)) = regs ((onDev s d).drop (4 * (n + 1)) ++ fromDev s (d + 1)) := by
  rw [at_chunk hc] at h
  cases hL : L[j]? with
  | none =>
    rw [List.drop_of_length_le (List.getElem?_eq_none_iff.1 hL)] at h
    simp [outR] at h
  | some r =>
    rw [drop_cons hL] at h
    simp only [outR, List.map_cons, List.cons.injEq, Prod.mk.injEq] at h
    exact ⟨r, rfl, h.1.1, h.1.2, h.2⟩
theorem chunk_lt {X : List Int} {n : Nat} (h : chunk X n ≠ []) : 4 * n < X.length := by
  rcases Nat.lt_or_ge (4 * n) X.length with g | g
  · exact g
  · exact absurd (by rw [chunk, List.drop_of_length_le g]; rfl) h
set_option maxRecDepth 100000 in
set_option maxHeartbeats 16000000 in
theorem regionsL_any {w : World} {v : Value} {l : List Int} {d : Int} (hv : Ints w v l) (_hd : I64 d) : Calls Try.prog 3 #[v, .int .i64 d] w (Tru w) := by
  have HV := hide hv
  obtain ⟨a0, n, c0, rfl, hn⟩ := hv.form
  have h5 := hv.len
  rw [← hn.out] at h5
  clear hv _hd
  by_cases c1 : (100 : Int) < (n : Int)
  · go_enter Try.func3, Try.ntmps3
    go_wp2_with fail
    refine (awake_any _).mono ?_
    rintro e w2 ⟨rfl, hb2⟩
    have HB2 := hide hb2
    clear hb2
    go_wp2_with fail
    go_ret
    exact ⟨rfl, HB2.out⟩
  · have HL1 : Hid (l.length ≤ 100) := by show _ ≤ _; rw [← hn.out]; omega
    have HLN : Hid (l.length ≤ 1000) := by show _ ≤ _; rw [← hn.out]; omega
    obtain ⟨xa, xn, xc, w2, hap, hx2, hb2⟩ := anew HV.out HLN.out
    have HB2 := hide hb2
    have HV2 := hide (HV.out.below hb2)
    have HX2 := hide hx2
    have hC := regions_any hx2 HLN.out
    clear hx2 hb2 HV
    go_enter Try.func3, Try.ntmps3
    go_wp2_with (at_builtin; refine wpList_append_eq rfl _ _ rfl rfl rfl hap ?_)
    refine hC.mono ?_
    rintro e w3 ⟨h, hb3⟩
    have HB3 := hide (nextB HB2.out hb3)
    have HV3 := hide (HV2.out.below hb3)
    have HX3 := hide (HX2.out.below hb3)
    have hF := first_any HX3.out HLN.out d
    clear hb3 hap hC HV2 HX2 HB2
    rcases h with ⟨hrt, vL, L, rfl, hg, ho⟩ | ⟨hrt, rfl⟩
    · have HRT := hide hrt
      have HG := hide hg
      have HO := hide ho
      obtain ⟨ao, cap, g, rfl, hL5, h2, h3⟩ := hg.at_
      have H2 := hide h2
      have H3 := hide h3
      obtain ⟨n2, hn2⟩ : ∃ n, L.length = n := ⟨_, rfl⟩
      rw [hn2] at hL5 ⊢
      have HN := hide hn2
      clear hrt hg ho h2 h3 hn2
      go_wp2_with fail
      refine hF.mono ?_
      rintro e w4 hf
      obtain ⟨fa, fn, fc, ef, rfl, hfr, hb4⟩ := hf.right HRT.out
      have HB4 := hide (nextB HB3.out hb4)
      have HV4 := hide (HV3.out.below hb4)
      have HFR := hide hfr
      have hQ := ints_any (HX3.out.below hb4) HV4.out
      rw [decide_eq_true rfl] at hQ
      have HB34 := hide hb4
      clear hb4 hfr hf hF HB3 HV3 HX3
      go_wp2_with fail
      refine hQ.mono ?_
      rintro e w5 ⟨rfl, hb5⟩
      have HB5 := hide (nextB HB4.out hb5)
      have HV5 := hide (HV4.out.below hb5)
      have HF5 := hide (HFR.out.below hb5)
      have HB35 := hide (nextB HB34.out hb5)
      have hR := right_any HV5.out
      clear hb5 hQ HB4 HV4 HFR HB34
      go_wp2_with fail
      refine hR.mono ?_
      rintro e w6 ⟨⟨b, rfl, hbt⟩, hb6⟩
      obtain rfl : b = true := hbt.2 HRT.out
      have HB6 := hide (nextB HB5.out hb6)
      have HV6 := hide (HV5.out.below hb6)
      have HF6 := hide (HF5.out.below hb6)
      have HB36 := hide (nextB HB35.out hb6)
      obtain ⟨s, hs⟩ : ∃ s, sortS l = s := ⟨_, rfl⟩
      have HS : Hid (sortS l = s) := hs
      have HRS : Hid (∀ x ∈ s, 1 ≤ x ∧ x < 32768) := by rw [← hs]; exact (Rt.sort.2 HRT.out).1
      have HUP : Hid (s.Pairwise (· ≤ ·)) := by rw [← hs]; exact sortS_up l
      rw [hs] at HO
      clear hb6 hR hbt hs HB5 HV5 HF5 HB35 c1
      go_wp2_with fail
      go_loopg [10, 60] 8 (fun k at_ di wr => ∃ dn j : Nat, dn + k = 8 ∧ at_ = .int .i64 (j : Int) ∧ di = .int .i64 (dn : Int) ∧ Hid (outR (L.drop j) = regs (fromDev s (dn : Int))) ∧ Hid (j ≤ n2) ∧ Hid (Below w6.heap.size w6 wr))
      case atStart => exact ⟨0, 0, by omega, by simp, by simp, hide (by simpa [fromDev_all HRS.out] using HO.out), hide (by omega), hide (Below.refl _ _)⟩
      case round =>
        obtain ⟨dn, j, hdn, rfl, rfl, HI, HJ2, HB⟩ := hrel
        cases gk with
        | zero =>
          have hd8 : dn = 8 := by omega
          subst hd8
          have hjn : j = n2 := by
            have h1 := HI.out
            have e8 : ((8 : Nat) : Int) = 8 := rfl
            rw [e8, fromDev_none HRS.out, regs_nil] at h1
            have h2 : (L.drop j).length = 0 := by rw [← outR_length, h1]; rfl
            rw [List.length_drop, HN.out] at h2
            have := HJ2.out
            omega
          have hjn' := hjn.symm
          subst hjn'
          have e0 : ((n2 : Int) != (n2 : Int)) = false := by simp
          have HB7 := hide (nextB HB6.out HB.out)
          have HV7 := hide (HV6.out.below HB.out)
          have HF7 := hide (HF6.out.below HB.out)
          clear hjn hdn HI HJ2 HB6 HV6 HF6
          by_cases c2 : d < 0
          · obtain ⟨hno, -⟩ | ⟨-, rfl, rfl⟩ := HF7.out
            · omega
            go_wp2_with fail
            refine (is20r _).mono ?_
            rintro e wI ⟨rfl, rfl⟩
            go_wp2_with fail
            refine (awake_any _).mono ?_
            rintro e w8 ⟨rfl, hb8⟩
            have HB8 := hide (nextB HB7.out hb8)
            clear hb8
            go_wp2_with fail
            go_ret
            exact ⟨rfl, HB8.out⟩
          · by_cases c3 : 8 ≤ d
            · obtain ⟨hno, -⟩ | ⟨-, rfl, rfl⟩ := HF7.out
              · omega
              go_wp2_with fail
              refine (is20r _).mono ?_
              rintro e wI ⟨rfl, rfl⟩
              go_wp2_with fail
              refine (awake_any _).mono ?_
              rintro e w8 ⟨rfl, hb8⟩
              have HB8 := hide (nextB HB7.out hb8)
              clear hb8
              go_wp2_with fail
              go_ret
              exact ⟨rfl, HB8.out⟩
            · obtain ⟨-, rfl, hfi⟩ | ⟨hno, -⟩ := HF7.out
              · have HFI := hide hfi
                have HD0 : Hid (0 ≤ d) := hide (by omega)
                have hG : Calls Try.prog 14 #[.slice a0 n c0, .int .i64 d, .int .i64 0] wr (Regiond wr (chunk (onDev (sortS l) d) 0)) := region_any HV7.out HRT.out HLN.out d (n := 0) (by omega)
                clear hfi HF7
                go_wp2_with fail
                refine hG.mono ?_
                rintro e w8 ⟨rv, rfl, hri, hb8⟩
                have HB8 := hide (nextB HB7.out hb8)
                have hQ := ints_any (HFI.out.below hb8) hri
                rw [pick_doc HRT.out HD0.out, decide_eq_true rfl] at hQ
                obtain ⟨ra, rn, rc, rfl, -⟩ := hri.form
                clear hb8 hri hG HFI
                go_wp2_with fail
                refine hQ.mono ?_
                rintro e w9 ⟨rfl, hb9⟩
                have HB9 := hide (nextB HB8.out hb9)
                clear hb9 hQ
                go_wp2_with fail
                refine (awake_any _).mono ?_
                rintro e wA ⟨rfl, hbA⟩
                have HBA := hide (nextB HB9.out hbA)
                clear hbA
                go_wp2_with fail
                go_ret
                exact ⟨rfl, HBA.out⟩
              · omega
        | succ m =>
          have hd8 : (dn : Int) < 8 := by omega
          have hdn63 : IntKind.i64.wrap ((dn : Int) + 1) = (dn : Int) + 1 := IntWalk.i64_in _ ⟨by omega, by omega⟩
          obtain ⟨X, hX⟩ : ∃ X, onDev s (dn : Int) = X := ⟨_, rfl⟩
          have HX := hide hX
          have HXL : Hid (X.length ≤ 100) := by show _ ≤ _; rw [← hX, ← HS.out]; exact Nat.le_trans (onDev_short l _) HL1.out
          have HII : Hid (outR (L.drop j) = regs (X.drop (4 * 0) ++ fromDev s ((dn : Int) + 1))) := by
            show _ = _
            rw [HI.out, fromDev_step HUP.out, hX]; rfl
          have HDN := hide hdn
          clear hX hdn HI
          go_wp2_with fail
          go_loopg [10, 12] (X.length + 1) (fun k at_ ni wt => ∃ nn i : Nat, nn + k = X.length + 1 ∧ at_ = .int .i64 (i : Int) ∧ ni = .int .i64 (nn : Int) ∧ Hid (outR (L.drop i) = regs (X.drop (4 * nn) ++ fromDev s ((dn : Int) + 1))) ∧ Hid (i ≤ n2) ∧ Hid (Below w6.heap.size w6 wt))
          case atStart => exact ⟨0, j, by omega, rfl, by simp, HII, HJ2, HB⟩
          case round =>
            clear HII HJ2 HB
            obtain ⟨nn, i, hnn, rfl, rfl, HI, HJ2, HB⟩ := hrel
            have HNN := hide hnn
            have hG := region_any (HV6.out.below HB.out) HRT.out HLN.out (dn : Int) (n := nn) (by have := HXL.out; omega)
            rw [HS.out, HX.out] at hG
            clear hnn
            go_wp2_with fail
            refine hG.mono ?_
            rintro e w8 ⟨rv, rfl, hri, hb8⟩
            have HB8 := hide (nextB HB.out hb8)
            have HRI := hide hri
            obtain ⟨ra, rn, rc, rfl, hrn⟩ := hri.form
            clear hb8 hri hG HB
            by_cases hch : chunk X nn = []
            · have hr0 : rn = 0 := by rw [hrn.out, hch]; rfl
              subst hr0
              have HN0 := hide (chunk_nil hch)
              clear hch
              go_wp2_with fail
              go_roundg m
              case measure => omega
              case rel => exact ⟨dn + 1, i, by have := HDN.out; omega, rfl, by simp, hide (by rw [HI.out, HN0.out]; simp), HJ2, HB8⟩
            · have hr0 : ((rn : Int) == 0) = false := by
                have : rn ≠ 0 := fun e => hch (List.length_eq_zero_iff.1 (by rw [← hrn.out, e]))
                simp; omega
              have hlt := chunk_lt hch
              have HLT := hide hlt
              obtain ⟨r, he, hrd, hrl, hrest⟩ := next_chunk (n := nn) (d := (dn : Int)) (s := s) (j := i) (L := L) (by rw [HX.out]; exact HI.out) (by rw [HX.out]; exact hch)
              rw [HX.out] at hrl hrest
              have hin : i < n2 := by rw [← HN.out]; exact (List.getElem?_eq_some_iff.1 he).1
              have hge : ¬ (n2 : Int) ≤ (i : Int) := by omega
              have hilt : (i : Int) < (n2 : Int) := by omega
              have hi0 : (0 : Int) ≤ (i : Int) := by omega
              obtain rfl := H2.out (by rw [HN.out]; omega)
              obtain ⟨k0, k1, hki⟩ := H3.out i r he
              have hb38 := nextB HB36.out HB8.out
              replace k0 := cell_bel hb38 k0
              replace k1 := cell_bel hb38 k1
              rw [hrd] at k0
              have hQ := ints_any (hki.below hb38) HRI.out
              rw [hrl, decide_eq_true rfl] at hQ
              have e1 : ((dn : Int) != (dn : Int)) = false := by simp
              have hi63 : IntKind.i64.wrap ((i : Int) + 1) = (i : Int) + 1 := IntWalk.i64_in _ ⟨by omega, by omega⟩
              have hn63 : IntKind.i64.wrap ((nn : Int) + 1) = (nn : Int) + 1 := IntWalk.i64_in _ ⟨by omega, by have := HXL.out; omega⟩
              have HREST := hide hrest
              have HIN := hide hin
              clear hlt he hrd hrl hrest hki hb38 hch hin
              go_wp2_with fail
              refine hQ.mono ?_
              rintro e w9 ⟨rfl, hb9⟩
              have HB9 := hide (nextB HB8.out hb9)
              clear hb9 hQ k0 k1
              go_wp2_with fail
              go_roundg (gk - 1)
              case measure => have := HLT.out; have := HNN.out; omega
              case rel => exact ⟨nn + 1, i + 1, by have := HLT.out; have := HNN.out; omega, by simp, by simp, HREST, hide (by have := HIN.out; omega), HB9⟩
    · have HRT := hide hrt
      clear hrt
      go_wp2_with fail
      refine hF.mono ?_
      rintro e w4 ⟨h, hb4⟩
      rcases h with ⟨h, -⟩ | ⟨-, rfl⟩ | ⟨h, -⟩
      · exact absurd h HRT.out
      · have HB4 := hide (nextB HB3.out hb4)
        have HV4 := hide (HV3.out.below hb4)
        have hQ := ints_any (HX3.out.below hb4) HV4.out
        rw [decide_eq_true rfl] at hQ
        clear hb4 hF HB3 HV3 HX3 c1
        go_wp2_with fail
        refine hQ.mono ?_
        rintro e w5 ⟨rfl, hb5⟩
        have HB5 := hide (nextB HB4.out hb5)
        have hR := right_any (HV4.out.below hb5)
        clear hb5 hQ HB4 HV4
        go_wp2_with fail
        refine hR.mono ?_
        rintro e w6 ⟨⟨b, rfl, hbt⟩, hb6⟩
        have HB6 := hide (nextB HB5.out hb6)
        cases b with
        | true => exact absurd (hbt.1 rfl) HRT.out
        | false =>
          clear hb6 hR hbt HB5
          go_wp2_with fail
          refine (is110 _).mono ?_
          rintro e wI ⟨rfl, rfl⟩
          go_wp2_with fail
          refine (is110 _).mono ?_
          rintro e wI ⟨rfl, rfl⟩
          go_wp2_with fail
          refine (awake_any _).mono ?_
          rintro e w8 ⟨rfl, hb8⟩
          have HB8 := hide (nextB HB6.out hb8)
          clear hb8
          go_wp2_with fail
          go_ret
          exact ⟨rfl, HB8.out⟩
      · exact absurd h HRT.out
end Go.Proofs.Ytnkcebngfnailaa
