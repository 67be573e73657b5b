/- The law RefsVolumes. -/
import Derived.Test.YtjopdejgijojmaaVo0
namespace Go.Proofs.Ytjopdejgijojmaa
open Go.RowKit Go.Extern

set_option maxRecDepth 100000 in
set_option maxHeartbeats 16000000 in
theorem volumesL_any (rs : List Ref) (hok : ∀ r ∈ rs, OkR r) (ao : Option Addr) (cap g off : Nat) (w : World) (hv : RefsAt (fun _ => False) w ao g off rs) :
    Calls Try.prog 6 #[.slice ao rs.length cap] w fun e w' => e = .returned (.bool true) ∧ Below w.heap.size w w' := by
  by_cases c1 : (150 : Int) < (rs.length : Int)
  · clear hv
    go_enter Try.func6, Try.ntmps6
    go_wp2_with (first
      | (go_at_call 8; refine (new_any _).mono ?_; rintro e w1 ⟨b, rfl, hb, hrf, hbel⟩; have HB1 := hide hbel; clear hrf hbel hb)
      | (go_at_call 9; refine (awake_any _).mono ?_; rintro e w2 ⟨rfl, hb2⟩; have HB2 := hide hb2; clear hb2))
    go_ret
    exact ⟨rfl, HB1.out.trans (HB2.out.mono HB1.out.size)⟩
  have HOK := hide hok
  have HV := hide hv
  have hln : rs.length ≤ 150 := by omega
  clear hv hok
  go_enter Try.func6, Try.ntmps6
  go_wp2_with (first
    | (go_at_call 8; refine (new_any _).mono ?_; rintro e w1 ⟨b, rfl, hb, hrf, hbel⟩; have HR1 := hide hrf; have HB1 := hide hbel; clear hrf hbel hb))
  go_loopg [30, 4] rs.length (fun k i hv wr => ∃ (j : Nat) (F : Nat → Prop) (aoH : Option Addr) (capH gH : Nat) (L : List Ref), j + k = rs.length ∧ i = .int .i64 (j : Int) ∧ hv = .slice aoH L.length capH ∧ Hid (L = putL [] (rs.take j)) ∧ Hid (Rf wr F b L none) ∧ Hid (∀ k, F k → w.heap.size ≤ k) ∧ Hid (RefsAt F wr ao g off rs) ∧ Hid (RefsAt F wr aoH gH 0 L) ∧ Hid (Below w.heap.size w wr))
  case atStart => exact ⟨0, _, none, 0, 0, [], by omega, rfl, rfl, hide rfl, HR1, hide (fun k hk => hk.1), hide (HV.out.start (fun k hk => hk.1) HB1.out), hide ⟨by simp, by simp, by simp⟩, HB1⟩
  case round =>
    obtain ⟨j, F, aoH, capH, gH, L, hj, rfl, rfl, HLP, HR, HF, HRA, HHA, HB⟩ := hrel
    have HLN : Hid (L.length ≤ 150) := hide (by
      have := putL_length Okl.nil (rs := rs.take j) (fun r hr => HOK.out r (List.mem_of_mem_take hr))
      rw [← HLP.out] at this
      have h2 := List.length_take_le j rs
      simp at this; omega)
    cases gk with
    | succ m =>
      have hlt : j < rs.length := by omega
      have hlti : (j : Int) < (rs.length : Int) := by omega
      have hge : (0 : Int) ≤ (j : Int) := by omega
      obtain ⟨r, hr⟩ : ∃ r, rs[j]? = some r := ⟨rs[j], by simp [hlt]⟩
      obtain rfl := HRA.out.ad (by omega)
      obtain ⟨k1, k2, k3⟩ := HRA.out.cells j r hr
      have HOR : Hid (OkR r) := hide (HOK.out r (List.mem_of_getElem? hr))
      have HPS := hide (putL_snoc (l := []) hr)
      have e2 : IntKind.i64.wrap ((j : Int) + 1) = (j : Int) + 1 := IntWalk.i64_in _ ⟨by omega, by omega⟩
      obtain ⟨x, hx⟩ : ∃ x, wr.heap.size = x := ⟨_, rfl⟩
      obtain ⟨w3, hw3⟩ : ∃ w3, wr.alloc (.cells #[.int .i64 r.1.1, .int .i64 r.1.2, .int .i64 r.2] 28) = w3 := ⟨_, rfl⟩
      have HX3 : Hid (BoxR w3 x r) := hide (by rw [← hw3, ← hx]; exact boxR_new _ _ _)
      obtain ⟨y1, y2, y3⟩ := HX3.out
      have HB3 : Hid (Below wr.heap.size wr w3) := hide (by rw [← hw3]; exact below_box _ _)
      have HR3 := hide (HR.out.below HB3.out)
      have HXF : Hid (¬ F x) := hide (fun hF => by have := HR.out.bd x hF; omega)
      have HXL : Hid (x < w3.heap.size) := hide (by rw [← hw3]; simp; omega)
      have HB3w : Hid (Below w.heap.size w w3) := hide (HB.out.trans (HB3.out.mono HB.out.size))
      clear hr
      by_cases hneg : r.2 < 0
      · have HP3 := hide (put_any (r := r) HR3.out HOR.out)
        rw [if_pos hneg, errV60] at HP3
        have HPA : Hid (putA L r = L) := hide (by unfold putA; rw [if_pos hneg])
        go_wp2_with (go_at_call 10; refine HP3.out.mono ?_; rintro e w4 ⟨rfl, hr4⟩; have HR4 := hide hr4; clear hr4)
        go_roundg m
        case measure => omega
        case rel => exact ⟨j + 1, _, aoH, capH, gH, L, by omega, by go_num, rfl, hide (by rw [HPS.out, ← HLP.out, HPA.out]), hide (by have := HR4.out.rf; rw [HPA.out] at this; exact this), hide (ext_ge HF.out HB3w.out.size), hide ((HRA.out.below HB3.out).turn HR4.out.turn), hide ((HHA.out.below HB3.out).turn HR4.out.turn), hide (Rf.turn_below HR4.out HF.out HB3w.out)⟩
      · have HP3 := hide (put_any (r := r) HR3.out HOR.out)
        rw [if_neg hneg] at HP3
        have HPA : Hid (putA L r = putS L r.1 r.2) := hide (by unfold putA; rw [if_neg hneg])
        have HX4 : Hid (∀ w4, Turn F w3 w4 → BoxR w4 x r) := hide (fun w4 ht => by
          have hk := ht.block x HXL.out HXF.out
          exact ⟨cell_same hk HX3.out.1, cell_same hk HX3.out.2.1, cell_same hk HX3.out.2.2⟩)
        have HRP : Hid (∀ w4, Turn F w3 w4 → Calls Try.prog 12 #[.slice aoH L.length capH, encR r] w4 (RPutd w4 (putS L r.1 r.2))) := hide (fun w4 ht => rput_any ((HHA.out.below HB3.out).turn ht) HR.out.ok.srt (by have := HLN.out; omega) capH r)
        go_wp2_with (first
          | (go_at_call 10; refine HP3.out.mono ?_; rintro e w4 ⟨rfl, hr4⟩; have HR4 := hide hr4; obtain ⟨t1, t2, t3⟩ := HX4.out w4 hr4.turn; clear hr4)
          | (go_at_call 12; refine (HRP.out w4 HR4.out.turn).mono ?_; rintro e w5 ⟨v5, rfl, hv5, hb5⟩; obtain ⟨aoN, capN, gN, rfl, hN⟩ := refs_at hv5 HR4.out.rf.bd; have HN5 := hide hN; have HB5 := hide hb5; clear hv5 hN hb5))
        go_roundg m
        case measure => omega
        case rel => exact ⟨j + 1, _, aoN, capN, gN, putS L r.1 r.2, by omega, by go_num, rfl, hide (by rw [HPS.out, ← HLP.out, HPA.out]), hide (by have := HR4.out.rf; rw [HPA.out] at this; exact this.below HB5.out), hide (ext_ge HF.out HB3w.out.size), hide (((HRA.out.below HB3.out).turn HR4.out.turn).below HB5.out), HN5, hide (below_next (Rf.turn_below HR4.out HF.out HB3w.out) HB5.out)⟩
    | zero =>
      have hje : j = rs.length := by omega
      subst hje
      have hnl : ¬ ((rs.length : Nat) : Int) < (rs.length : Int) := by omega
      obtain ⟨nL, hnL⟩ : ∃ nL, L.length = nL := ⟨_, rfl⟩
      have hnLb : nL ≤ 150 := by have := HLN.out; omega
      have hLL : L.length ≤ 1000000 := by omega
      have HOKL : Hid (Okl L) := hide HR.out.ok
      go_wp2_with fail
      go_loopg [50, 7] nL (fun k i nv wr => ∃ (i1 : Nat), i1 + k = nL ∧ i = .int .i64 (i1 : Int) ∧ nv = .int .i64 ((volCnt L i1 : Nat) : Int) ∧ Hid (Rf wr F b L none) ∧ Hid (RefsAt F wr aoH gH 0 L) ∧ Hid (Below w.heap.size w wr))
      case atStart => exact ⟨0, by omega, rfl, by rw [volCnt_zero]; rfl, HR, HHA, HB⟩
      case round =>
        clear HR HHA HB HRA
        obtain ⟨i1, hi1, rfl, rfl, HR, HHA, HB⟩ := hrel
        cases gk with
        | zero =>
          have hie : i1 = nL := by omega
          subst hie
          have hnl3 : ¬ ((i1 : Nat) : Int) < (i1 : Int) := by omega
          rw [volCnt_all L (by omega), hnL]
          have HAD := hide (addrs_any HR.out hLL)
          go_wp2_with (go_at_call 18; refine HAD.out.mono ?_; rintro e w6 ⟨v2, ns, rfl, hia, hv2, hb6, hnl2⟩; obtain ⟨ao2, cap2, g2, rfl, hi2⟩ := ints_at hv2 HR.out.bd; have HIA := hide hia; have HI2 := hide hi2; have HB6 := hide hb6; clear hia hv2 hi2 hb6; obtain ⟨nn, hnn⟩ : ∃ nn, ns.length = nn := ⟨_, rfl⟩; rw [hnn])
          have HF6 : Hid (Rf w6 F b L none) := hide (HR.out.below HB6.out)
          have HBw6 : Hid (Below w.heap.size w w6) := hide (below_next HB.out HB6.out)
          have HPOS : Hid (∀ a ∈ ns, I64 a) := hide (fun a ha => by obtain ⟨o, ho⟩ := (HIA.out.2 a).1 ha; exact HOKL.out.rng _ ho)
          have hnn2 : nn ≤ 150 := by omega
          go_loopg [128, 12] nn (fun k i mv wr => ∃ (j : Nat), j + k = nn ∧ i = .int .i64 (j : Int) ∧ mv = .int .i64 ((addrSum L (ns.take j) : Nat) : Int) ∧ Hid (Rf wr F b L none) ∧ Hid (IntsAt F wr ao2 g2 ns) ∧ Hid (Below w.heap.size w wr))
          case atStart => exact ⟨0, by omega, rfl, rfl, HF6, HI2, HBw6⟩
          case round =>
            obtain ⟨j, hj2, rfl, rfl, HR7, HI7, HB7⟩ := hrel
            cases gk with
            | zero =>
              have hje : j = nn := by omega
              subst hje
              have hnl4 : ¬ ((j : Nat) : Int) < (j : Int) := by omega
              have hsum : addrSum L (ns.take j) = i1 := by rw [List.take_of_length_le (by omega), ← hnL]; exact addrSum_all HIA.out
              rw [hsum]
              have HcL := hide (len_any HR7.out)
              rw [hnL] at HcL
              go_wp2_with (first
                | (go_at_call 22; refine HcL.out.mono ?_; rintro e wB ⟨rfl, rfl⟩)
                | (go_at_call 9; refine (awake_any _).mono ?_; rintro e wC ⟨rfl, hbC⟩; have HBC := hide hbC; clear hbC))
              go_ret
              exact ⟨rfl, below_next HB7.out HBC.out⟩
            | succ m =>
              have hlt : j < ns.length := by omega
              have hlti : (j : Int) < (nn : Int) := by omega
              have hge : (0 : Int) ≤ (j : Int) := by omega
              obtain ⟨a, ha⟩ : ∃ a, ns[j]? = some a := ⟨ns[j], by simp [hlt]⟩
              obtain rfl := HI7.out.ad (by omega)
              have k1 := HI7.out.cells j a ha
              have haI : I64 a := HPOS.out a (List.mem_of_getElem? ha)
              have HSN := hide (addrSum_snoc (l := L) ha)
              obtain ⟨nm, hnm⟩ : ∃ nm, (byS L a).length = nm := ⟨_, rfl⟩
              have hnmb : nm ≤ 150 := by have := byS_length L a; omega
              have hsl : addrSum L (ns.take j) ≤ 150 := by have := addrSum_le HIA.out j; omega
              obtain ⟨sj, hsj⟩ : ∃ sj, addrSum L (ns.take j) = sj := ⟨_, rfl⟩
              rw [hsj] at hsl HSN ⊢
              have HOW := hide (owners_any HR7.out haI hLL)
              have e5 : IntKind.i64.wrap ((sj : Int) + (nm : Int)) = (sj : Int) + (nm : Int) := IntWalk.i64_in _ ⟨by omega, by omega⟩
              have e6 : IntKind.i64.wrap ((j : Int) + 1) = (j : Int) + 1 := IntWalk.i64_in _ ⟨by omega, by omega⟩
              clear ha
              go_wp2_with (go_at_call 20; refine HOW.out.mono ?_; rintro e wA ⟨v3, rfl, hv3, hbA⟩; obtain ⟨ao3, cap3, rfl⟩ := ownsRow_form hv3; have HBA := hide hbA; clear hv3 hbA)
              go_roundg m
              case measure => omega
              case rel => exact ⟨j + 1, by omega, by go_num, by rw [HSN.out, hnm]; push_cast; rfl, hide (HR7.out.below HBA.out), hide (HI7.out.below HBA.out), hide (below_next HB7.out HBA.out)⟩
        | succ m =>
          have hlti : (i1 : Int) < (nL : Int) := by omega
          have hge : (0 : Int) ≤ (i1 : Int) := by omega
          obtain ⟨q, hq⟩ : ∃ q, L[i1]? = some q := ⟨L[i1]'(by omega), by rw [List.getElem?_eq_getElem]⟩
          obtain rfl := HHA.out.ad (by omega)
          obtain ⟨k1, k2, k3⟩ := HHA.out.cells i1 q hq
          rw [Nat.zero_add] at k1 k2 k3
          have HQ := hide hq
          have e6 : IntKind.i64.wrap ((i1 : Int) + 1) = (i1 : Int) + 1 := IntWalk.i64_in _ ⟨by omega, by omega⟩
          obtain ⟨y, hy⟩ : ∃ y, wr.heap.size = y := ⟨_, rfl⟩
          obtain ⟨w3, hw3⟩ : ∃ w3, wr.alloc (.cells #[.int .i64 q.1.1, .int .i64 q.1.2, .int .i64 q.2] 28) = w3 := ⟨_, rfl⟩
          have HYQ : Hid (BoxR w3 y q) := hide (by rw [← hw3, ← hy]; exact boxR_new _ _ _)
          have HB3 : Hid (Below wr.heap.size wr w3) := hide (by rw [← hw3]; exact below_box _ _)
          have HH0 := HHA
          clear HHA
          have HHA : Hid (RefsAt F w3 (some ⟨gH, 0, none⟩) gH 0 L) := hide (HH0.out.below HB3.out)
          clear hq
          go_wp2_with fail
          have hMID : Hid (∀ p, 0 < i1 → L[i1 - 1]? = some p → p.1.1 = q.1.1 → volCnt L (i1 + 1) = volCnt L i1) := hide (fun p h0 hp he => volCnt_mid HQ.out ⟨p, by
            obtain ⟨hi, rfl⟩ := List.getElem?_eq_some_iff.1 hp
            exact List.mem_iff_getElem.2 ⟨i1 - 1, by simp; omega, by simp⟩, he⟩)
          by_cases hcont : ∃ i0 p, i1 = i0 + 1 ∧ L[i0]? = some p ∧ p.1.1 = q.1.1
          · obtain ⟨i0, p, rfl, hp, hpe⟩ := hcont
            have HPV := hide hp
            have hi0 : i0 < nL := by omega
            refine wp_region_held_drew (S := Below w3.heap.size w3) (by kernel_rfl) (below_drew0 w3) (fun hS => ?_)
            refine take_want 0 (some 55) (.int .i64 ((i0 + 1 : Nat) : Int)) rfl rfl rfl (by kernel_rfl) (by kernel_rfl) (by kernel_rfl) (fun _ _ _ h => h) (fun wx hx => exec_move rfl rfl) hS ?_
            simp only [Act.put, List.setIfInBounds_toArray, List.set_cons_zero, List.set_cons_succ]
            refine take_want 1 (some 56) (.bool true) rfl rfl rfl (by kernel_rfl) (by kernel_rfl) (by kernel_rfl) (fun _ _ _ h => h) (fun wx hx => exec_gtrT rfl rfl rfl (by omega)) hS ?_
            simp only [Act.put, List.setIfInBounds_toArray, List.set_cons_zero, List.set_cons_succ]
            refine take_want 2 (some 57) (.bool true) rfl rfl rfl (by kernel_rfl) (by kernel_rfl) (by kernel_rfl) (fun _ _ _ h => h) (fun wx hx => exec_move rfl rfl) hS ?_
            simp only [Act.put, List.setIfInBounds_toArray, List.set_cons_zero, List.set_cons_succ]
            refine take_want 3 (some 58) (.slice (some ⟨gH, 0, none⟩) nL capH) rfl rfl rfl (by kernel_rfl) (by kernel_rfl) (by kernel_rfl) (fun _ _ _ h => h) (fun wx hx => exec_move rfl rfl) hS ?_
            simp only [Act.put, List.setIfInBounds_toArray, List.set_cons_zero, List.set_cons_succ]
            refine take_want 4 (some 59) (.int .i64 ((i0 + 1 : Nat) : Int)) rfl rfl rfl (by kernel_rfl) (by kernel_rfl) (by kernel_rfl) (fun _ _ _ h => h) (fun wx hx => exec_move rfl rfl) hS ?_
            simp only [Act.put, List.setIfInBounds_toArray, List.set_cons_zero, List.set_cons_succ]
            refine take_want 5 (some 60) (.int .i64 (i0 : Int)) rfl rfl rfl (by kernel_rfl) (by kernel_rfl) (by kernel_rfl) (fun _ _ _ h => h) (fun wx hx => exec_subN rfl rfl rfl (by omega) (by omega) (by omega)) hS ?_
            simp only [Act.put, List.setIfInBounds_toArray, List.set_cons_zero, List.set_cons_succ]
            refine take_want 6 (some 61) (.pointer (some ⟨gH, 0 + i0 * 3, none⟩)) rfl rfl rfl (by kernel_rfl) (by kernel_rfl) (by kernel_rfl) (fun _ _ _ h => h) (fun wx hx => exec_index rfl (index_refs hi0) rfl rfl) hS ?_
            simp only [Act.put, List.setIfInBounds_toArray, List.set_cons_zero, List.set_cons_succ]
            refine take_want 7 (some 62) (.pointer (some ⟨gH, 0 + i0 * 3, none⟩)) rfl rfl rfl (by kernel_rfl) (by kernel_rfl) (by kernel_rfl) (fun _ _ _ h => h) (fun wx hx => exec_field rfl (fldQ0 _ _ wx) rfl) hS ?_
            simp only [Act.put, List.setIfInBounds_toArray, List.set_cons_zero, List.set_cons_succ]
            refine take_want 8 (some 63) (.int .i64 p.1.1) rfl rfl rfl (by kernel_rfl) (by kernel_rfl) (by kernel_rfl) (fun _ _ _ h => h) (fun wx hx => exec_load rfl (load_intV ((HHA.out.below hx).cells i0 p HPV.out).1) rfl) hS ?_
            simp only [Act.put, List.setIfInBounds_toArray, List.set_cons_zero, List.set_cons_succ]
            refine take_want 9 (some 64) (.pointer (some ⟨y, 0, none⟩)) rfl rfl rfl (by kernel_rfl) (by kernel_rfl) (by kernel_rfl) (fun _ _ _ h => h) (fun wx hx => exec_field rfl (fldR0 _ wx) rfl) hS ?_
            simp only [Act.put, List.setIfInBounds_toArray, List.set_cons_zero, List.set_cons_succ]
            refine take_want 10 (some 65) (.int .i64 q.1.1) rfl rfl rfl (by kernel_rfl) (by kernel_rfl) (by kernel_rfl) (fun _ _ _ h => h) (fun wx hx => exec_load rfl (load_intV (HYQ.out.below hx).1) rfl) hS ?_
            simp only [Act.put, List.setIfInBounds_toArray, List.set_cons_zero, List.set_cons_succ]
            refine take_want 11 (some 66) (.bool true) rfl rfl rfl (by kernel_rfl) (by kernel_rfl) (by kernel_rfl) (fun _ _ _ h => h) (fun wx hx => exec_eqlNT rfl rfl rfl (by omega)) hS ?_
            simp only [Act.put, List.setIfInBounds_toArray, List.set_cons_zero, List.set_cons_succ]
            refine take_want 12 (some 67) (.bool true) rfl rfl rfl (by kernel_rfl) (by kernel_rfl) (by kernel_rfl) (fun _ _ _ h => h) (fun wx hx => exec_pickT rfl rfl rfl) hS ?_
            simp only [Act.put, List.setIfInBounds_toArray, List.set_cons_zero, List.set_cons_succ]
            refine wpAnyH_done (by kernel_rfl) ?_ _
            have HC := hide (hMID.out p (by omega) (by simpa using hp) hpe)
            clear hp hpe
            go_wp2_with fail
            go_roundg m
            case measure => omega
            case rel => exact ⟨i0 + 1 + 1, by omega, by go_num, by rw [HC.out], hide (HR.out.below (below_next HB3.out hS)), hide (HH0.out.below (below_next HB3.out hS)), hide (below_next HB.out (below_next HB3.out hS))⟩
          · have HNEW : Hid (∀ z ∈ L.take i1, z.1.1 < q.1.1) := hide (grp_new HOKL.out.srt HQ.out (fun p h0 hp he => hcont ⟨i1 - 1, p, by omega, hp, he⟩))
            have HVC : Hid (volCnt L (i1 + 1) = volCnt L i1 + (volS L q.1.1).length) := hide (volCnt_new HQ.out (fun z hz => by have := HNEW.out z hz; omega))
            have HGA : Hid (∀ k o, (volS L q.1.1)[k]? = some o → L[i1 + k]? = some (o, ofS L o)) := hide (fun k o ho => grp_at HOKL.out.srt HQ.out HNEW.out ho)
            obtain ⟨vc, hvc⟩ : ∃ vc, volCnt L i1 = vc := ⟨_, rfl⟩
            rw [hvc] at HVC
            have hvcb : vc ≤ 150 := by rw [← hvc]; unfold volCnt; have := List.length_filter_le (fun r => (L.take i1).any (fun y => y.1.1 == r.1.1)) L; omega
            obtain ⟨m3, hm3⟩ : ∃ m3, volS L q.1.1 = m3 := ⟨_, rfl⟩
            rw [hm3] at HVC HGA
            obtain ⟨nm, hnm⟩ : ∃ nm, m3.length = nm := ⟨_, rfl⟩
            rw [hnm] at HVC
            have hnmb : nm ≤ 150 := by have := volS_length L q.1.1; rw [hm3, hnm] at this; omega
            have HREST : Hid (∀ w4, Below w3.heap.size w3 w4 → Calls Try.prog 25 #[.pointer (some ⟨b, 0, none⟩), .int .i64 q.1.1] w4 (SortedO w4 m3)) := hide (fun w4 hb => by
              have := volume_any (vol := q.1.1) (HR.out.below (below_next HB3.out hb)) hLL
              rw [hm3] at this; exact this)
            have HRD : Hid (∀ w4, Below w3.heap.size w3 w4 → Rf w4 F b L none ∧ RefsAt F w4 (some ⟨gH, 0, none⟩) gH 0 L ∧ Below w.heap.size w w4 ∧ BoxR w4 y q) := hide (fun w4 hb => ⟨HR.out.below (below_next HB3.out hb), HH0.out.below (below_next HB3.out hb), below_next HB.out (below_next HB3.out hb), HYQ.out.below hb⟩)
            by_cases hz : i1 = 0
            · subst hz
              refine wp_region_held_drew (S := Below w3.heap.size w3) (by kernel_rfl) (below_drew0 w3) (fun hS => ?_)
              refine take_want 0 (some 55) (.int .i64 ((0 : Nat) : Int)) rfl rfl rfl (by kernel_rfl) (by kernel_rfl) (by kernel_rfl) (fun _ _ _ h => h) (fun wx hx => exec_move rfl rfl) hS ?_
              simp only [Act.put, List.setIfInBounds_toArray, List.set_cons_zero, List.set_cons_succ]
              refine take_want 1 (some 56) (.bool false) rfl rfl rfl (by kernel_rfl) (by kernel_rfl) (by kernel_rfl) (fun _ _ _ h => h) (fun wx hx => exec_gtrF rfl rfl rfl (by omega)) hS ?_
              simp only [Act.put, List.setIfInBounds_toArray, List.set_cons_zero, List.set_cons_succ]
              refine take_want 2 (some 57) (.bool false) rfl rfl rfl (by kernel_rfl) (by kernel_rfl) (by kernel_rfl) (fun _ _ _ h => h) (fun wx hx => exec_move rfl rfl) hS ?_
              simp only [Act.put, List.setIfInBounds_toArray, List.set_cons_zero, List.set_cons_succ]
              refine skip_want 3 (some 58) rfl rfl rfl (by kernel_rfl) (by kernel_rfl) (by kernel_rfl) (fun _ _ _ h => h) hS ?_
              simp only [Act.put, List.setIfInBounds_toArray, List.set_cons_zero, List.set_cons_succ]
              refine skip_want 4 (some 59) rfl rfl rfl (by kernel_rfl) (by kernel_rfl) (by kernel_rfl) (fun _ _ _ h => h) hS ?_
              simp only [Act.put, List.setIfInBounds_toArray, List.set_cons_zero, List.set_cons_succ]
              refine skip_want 5 (some 60) rfl rfl rfl (by kernel_rfl) (by kernel_rfl) (by kernel_rfl) (fun _ _ _ h => h) hS ?_
              simp only [Act.put, List.setIfInBounds_toArray, List.set_cons_zero, List.set_cons_succ]
              refine skip_want 6 (some 61) rfl rfl rfl (by kernel_rfl) (by kernel_rfl) (by kernel_rfl) (fun _ _ _ h => h) hS ?_
              simp only [Act.put, List.setIfInBounds_toArray, List.set_cons_zero, List.set_cons_succ]
              refine skip_want 7 (some 62) rfl rfl rfl (by kernel_rfl) (by kernel_rfl) (by kernel_rfl) (fun _ _ _ h => h) hS ?_
              simp only [Act.put, List.setIfInBounds_toArray, List.set_cons_zero, List.set_cons_succ]
              refine skip_want 8 (some 63) rfl rfl rfl (by kernel_rfl) (by kernel_rfl) (by kernel_rfl) (fun _ _ _ h => h) hS ?_
              simp only [Act.put, List.setIfInBounds_toArray, List.set_cons_zero, List.set_cons_succ]
              refine skip_want 9 (some 64) rfl rfl rfl (by kernel_rfl) (by kernel_rfl) (by kernel_rfl) (fun _ _ _ h => h) hS ?_
              simp only [Act.put, List.setIfInBounds_toArray, List.set_cons_zero, List.set_cons_succ]
              refine skip_want 10 (some 65) rfl rfl rfl (by kernel_rfl) (by kernel_rfl) (by kernel_rfl) (fun _ _ _ h => h) hS ?_
              simp only [Act.put, List.setIfInBounds_toArray, List.set_cons_zero, List.set_cons_succ]
              refine skip_want 11 (some 66) rfl rfl rfl (by kernel_rfl) (by kernel_rfl) (by kernel_rfl) (fun _ _ _ h => h) hS ?_
              simp only [Act.put, List.setIfInBounds_toArray, List.set_cons_zero, List.set_cons_succ]
              refine take_want 12 (some 67) (.bool false) rfl rfl rfl (by kernel_rfl) (by kernel_rfl) (by kernel_rfl) (fun _ _ _ h => h) (fun wx hx => exec_pickF rfl rfl rfl) hS ?_
              simp only [Act.put, List.setIfInBounds_toArray, List.set_cons_zero, List.set_cons_succ]
              refine wpAnyH_done (by kernel_rfl) ?_ _
              clear hcont
              obtain ⟨w4, hw4⟩ : ∃ w4, w3.drew = w4 := ⟨_, rfl⟩
              rw [hw4] at hS ⊢
              obtain ⟨hr4, hh4, hb4, hy4⟩ := HRD.out w4 hS
              have HR4 := hide hr4
              have HH4 := hide hh4
              have HB4 := hide hb4
              obtain ⟨z1, z2, z3⟩ := hy4
              have HV4 := hide (HREST.out w4 hS)
              rw [hvc]
              clear hr4 hh4 hb4 hw4 hS
              go_wp2_with (go_at_call 25; refine HV4.out.mono ?_; rintro e w5 ⟨v5, rfl, hv5, hb5⟩; obtain ⟨ao3, cap3, g3, rfl, ho3⟩ := owns_at hv5 HR4.out.bd; have HO3 := hide ho3; have HB5 := hide hb5; clear hv5 ho3 hb5)
              go_loopg [73, 7] nm (fun k i nv wr => ∃ (k1 : Nat), k1 + k = nm ∧ i = .int .i64 (k1 : Int) ∧ nv = .int .i64 ((vc : Int) + (k1 : Int)) ∧ Hid (Rf wr F b L none) ∧ Hid (OwnsAt F wr ao3 g3 m3) ∧ Hid (RefsAt F wr (some ⟨gH, 0, none⟩) gH 0 L) ∧ Hid (Below w.heap.size w wr))
              case atStart => exact ⟨0, by omega, rfl, by simp, hide (HR4.out.below HB5.out), HO3, hide (HH4.out.below HB5.out), hide (below_next HB4.out HB5.out)⟩
              case round =>
                obtain ⟨k1, hk1, rfl, rfl, HRc, HOc, HHc, HBc⟩ := hrel
                cases gk with
                | zero =>
                  have hke : k1 = nm := by omega
                  subst hke
                  have hnl5 : ¬ ((k1 : Nat) : Int) < (k1 : Int) := by omega
                  go_wp2_with fail
                  go_roundg m
                  case measure => omega
                  case rel => exact ⟨0 + 1, by omega, by go_num, by rw [HVC.out]; push_cast; rfl, HRc, HHc, HBc⟩
                | succ n5 =>
                  have hlti2 : (k1 : Int) < (nm : Int) := by omega
                  have hge2 : (0 : Int) ≤ (k1 : Int) := by omega
                  obtain ⟨o, ho⟩ : ∃ o, m3[k1]? = some o := ⟨m3[k1]'(by omega), by rw [List.getElem?_eq_getElem]⟩
                  obtain rfl := HOc.out.ad (by omega)
                  obtain ⟨t1, t2⟩ := HOc.out.cells k1 o ho
                  have hL1 := HGA.out k1 o ho
                  have hO : OkO o := HOKL.out.own _ (List.mem_of_getElem? hL1)
                  obtain ⟨c, hc⟩ : ∃ c, ofS L o = c := ⟨_, rfl⟩
                  have HOF := hide hc
                  rw [hc] at hL1
                  obtain ⟨ik, hik0⟩ : ∃ ik, 0 + k1 = ik := ⟨_, rfl⟩
                  rw [hik0] at hL1
                  have HIK := hide hL1
                  have hik : ik < nL := by rw [← hnL]; exact (List.getElem?_eq_some_iff.1 hL1).1
                  have e4 : IntKind.i64.wrap ((k1 : Int) + 1) = (k1 : Int) + 1 := IntWalk.i64_in _ ⟨by omega, by omega⟩
                  have e5 : IntKind.i64.wrap ((vc : Int) + (k1 : Int) + 1) = (vc : Int) + (k1 : Int) + 1 := IntWalk.i64_in _ ⟨by omega, by omega⟩
                  obtain ⟨x, hx⟩ : ∃ x, wr.heap.size = x := ⟨_, rfl⟩
                  obtain ⟨w8, hw8⟩ : ∃ w8, wr.alloc (.cells #[.int .i64 o.1, .int .i64 o.2] 35) = w8 := ⟨_, rfl⟩
                  have HBX : Hid (BoxO w8 x o) := hide (by rw [← hw8, ← hx]; exact boxO_new _ _ _)
                  have HB8 : Hid (Below wr.heap.size wr w8) := hide (by rw [← hw8]; exact below_box _ _)
                  have HS0 : Hid (S5 w F b L (some ⟨g3, 0, none⟩) g3 m3 (some ⟨gH, 0, none⟩) gH x o w8) := hide ⟨HRc.out.below HB8.out, HOc.out.below HB8.out, HHc.out.below HB8.out, HBX.out, below_next HBc.out HB8.out⟩
                  have HSD := hide (HS0.out.below (below_drew0 w8))
                  clear ho hL1 hc
                  go_wp2_with fail
                  refine wp_region_held_drew (S := S5 w F b L (some ⟨g3, 0, none⟩) g3 m3 (some ⟨gH, 0, none⟩) gH x o) (by kernel_rfl) HSD.out (fun hS => ?_)
                  refine take_want 0 (some 78) (.int .i64 ((0 : Nat) : Int)) rfl rfl rfl (by kernel_rfl) (by kernel_rfl) (by kernel_rfl) (fun _ _ _ h => h) (fun wx hx => exec_move rfl rfl) hS ?_
                  simp only [Act.put, List.setIfInBounds_toArray, List.set_cons_zero, List.set_cons_succ]
                  refine take_want 1 (some 79) (.int .i64 (k1 : Int)) rfl rfl rfl (by kernel_rfl) (by kernel_rfl) (by kernel_rfl) (fun _ _ _ h => h) (fun wx hx => exec_move rfl rfl) hS ?_
                  simp only [Act.put, List.setIfInBounds_toArray, List.set_cons_zero, List.set_cons_succ]
                  refine take_want 2 (some 80) (.int .i64 (ik : Int)) rfl rfl rfl (by kernel_rfl) (by kernel_rfl) (by kernel_rfl) (fun _ _ _ h => h) (fun wx hx => exec_addN rfl rfl rfl (by omega) (by omega) (by omega)) hS ?_
                  simp only [Act.put, List.setIfInBounds_toArray, List.set_cons_zero, List.set_cons_succ]
                  refine take_want 3 (some 81) (.slice (some ⟨gH, 0, none⟩) nL capH) rfl rfl rfl (by kernel_rfl) (by kernel_rfl) (by kernel_rfl) (fun _ _ _ h => h) (fun wx hx => exec_move rfl rfl) hS ?_
                  simp only [Act.put, List.setIfInBounds_toArray, List.set_cons_zero, List.set_cons_succ]
                  refine take_want 4 (some 82) (.int .i64 (nL : Int)) rfl rfl rfl (by kernel_rfl) (by kernel_rfl) (by kernel_rfl) (fun _ _ _ h => h) (fun wx hx => exec_len rfl (len_refs _ _ _ _) rfl) hS ?_
                  simp only [Act.put, List.setIfInBounds_toArray, List.set_cons_zero, List.set_cons_succ]
                  refine take_want 5 (some 83) (.bool false) rfl rfl rfl (by kernel_rfl) (by kernel_rfl) (by kernel_rfl) (fun _ _ _ h => h) (fun wx hx => exec_geqF rfl rfl rfl (by omega)) hS ?_
                  simp only [Act.put, List.setIfInBounds_toArray, List.set_cons_zero, List.set_cons_succ]
                  refine take_want 6 (some 84) (.bool false) rfl rfl rfl (by kernel_rfl) (by kernel_rfl) (by kernel_rfl) (fun _ _ _ h => h) (fun wx hx => exec_move rfl rfl) hS ?_
                  simp only [Act.put, List.setIfInBounds_toArray, List.set_cons_zero, List.set_cons_succ]
                  refine take_want 7 (some 85) (.pointer (some ⟨x, 0, none⟩)) rfl rfl rfl (by kernel_rfl) (by kernel_rfl) (by kernel_rfl) (fun _ _ _ h => h) (fun wx hx => exec_field rfl (fldO0 _ wx) rfl) hS ?_
                  simp only [Act.put, List.setIfInBounds_toArray, List.set_cons_zero, List.set_cons_succ]
                  refine take_want 8 (some 86) (.int .i64 o.1) rfl rfl rfl (by kernel_rfl) (by kernel_rfl) (by kernel_rfl) (fun _ _ _ h => h) (fun wx hx => exec_load rfl (load_intV hx.bx.1) rfl) hS ?_
                  simp only [Act.put, List.setIfInBounds_toArray, List.set_cons_zero, List.set_cons_succ]
                  refine take_want 9 (some 87) (.slice (some ⟨gH, 0, none⟩) nL capH) rfl rfl rfl (by kernel_rfl) (by kernel_rfl) (by kernel_rfl) (fun _ _ _ h => h) (fun wx hx => exec_move rfl rfl) hS ?_
                  simp only [Act.put, List.setIfInBounds_toArray, List.set_cons_zero, List.set_cons_succ]
                  refine take_want 10 (some 88) (.int .i64 ((0 : Nat) : Int)) rfl rfl rfl (by kernel_rfl) (by kernel_rfl) (by kernel_rfl) (fun _ _ _ h => h) (fun wx hx => exec_move rfl rfl) hS ?_
                  simp only [Act.put, List.setIfInBounds_toArray, List.set_cons_zero, List.set_cons_succ]
                  refine take_want 11 (some 89) (.int .i64 (k1 : Int)) rfl rfl rfl (by kernel_rfl) (by kernel_rfl) (by kernel_rfl) (fun _ _ _ h => h) (fun wx hx => exec_move rfl rfl) hS ?_
                  simp only [Act.put, List.setIfInBounds_toArray, List.set_cons_zero, List.set_cons_succ]
                  refine take_want 12 (some 90) (.int .i64 (ik : Int)) rfl rfl rfl (by kernel_rfl) (by kernel_rfl) (by kernel_rfl) (fun _ _ _ h => h) (fun wx hx => exec_addN rfl rfl rfl (by omega) (by omega) (by omega)) hS ?_
                  simp only [Act.put, List.setIfInBounds_toArray, List.set_cons_zero, List.set_cons_succ]
                  refine take_want 13 (some 91) (.pointer (some ⟨gH, 0 + ik * 3, none⟩)) rfl rfl rfl (by kernel_rfl) (by kernel_rfl) (by kernel_rfl) (fun _ _ _ h => h) (fun wx hx => exec_index rfl (index_refs hik) rfl rfl) hS ?_
                  simp only [Act.put, List.setIfInBounds_toArray, List.set_cons_zero, List.set_cons_succ]
                  refine take_want 14 (some 92) (.pointer (some ⟨gH, 0 + ik * 3, none⟩)) rfl rfl rfl (by kernel_rfl) (by kernel_rfl) (by kernel_rfl) (fun _ _ _ h => h) (fun wx hx => exec_field rfl (fldQ0 _ _ wx) rfl) hS ?_
                  simp only [Act.put, List.setIfInBounds_toArray, List.set_cons_zero, List.set_cons_succ]
                  refine take_want 15 (some 93) (.int .i64 o.1) rfl rfl rfl (by kernel_rfl) (by kernel_rfl) (by kernel_rfl) (fun _ _ _ h => h) (fun wx hx => exec_load rfl (load_intV (hx.hv.cells ik (o, c) HIK.out).1) rfl) hS ?_
                  simp only [Act.put, List.setIfInBounds_toArray, List.set_cons_zero, List.set_cons_succ]
                  refine take_want 16 (some 94) (.bool false) rfl rfl rfl (by kernel_rfl) (by kernel_rfl) (by kernel_rfl) (fun _ _ _ h => h) (fun wx hx => exec_neqN rfl rfl rfl rfl) hS ?_
                  simp only [Act.put, List.setIfInBounds_toArray, List.set_cons_zero, List.set_cons_succ]
                  refine take_want 17 (some 95) (.bool false) rfl rfl rfl (by kernel_rfl) (by kernel_rfl) (by kernel_rfl) (fun _ _ _ h => h) (fun wx hx => exec_pickF rfl rfl rfl) hS ?_
                  simp only [Act.put, List.setIfInBounds_toArray, List.set_cons_zero, List.set_cons_succ]
                  refine take_want 18 (some 96) (.bool false) rfl rfl rfl (by kernel_rfl) (by kernel_rfl) (by kernel_rfl) (fun _ _ _ h => h) (fun wx hx => exec_move rfl rfl) hS ?_
                  simp only [Act.put, List.setIfInBounds_toArray, List.set_cons_zero, List.set_cons_succ]
                  refine take_want 19 (some 97) (.pointer (some ⟨x, 1, none⟩)) rfl rfl rfl (by kernel_rfl) (by kernel_rfl) (by kernel_rfl) (fun _ _ _ h => h) (fun wx hx => exec_field rfl (fldO1 _ wx) rfl) hS ?_
                  simp only [Act.put, List.setIfInBounds_toArray, List.set_cons_zero, List.set_cons_succ]
                  refine take_want 20 (some 98) (.int .i64 o.2) rfl rfl rfl (by kernel_rfl) (by kernel_rfl) (by kernel_rfl) (fun _ _ _ h => h) (fun wx hx => exec_load rfl (load_intV hx.bx.2) rfl) hS ?_
                  simp only [Act.put, List.setIfInBounds_toArray, List.set_cons_zero, List.set_cons_succ]
                  refine take_want 21 (some 99) (.slice (some ⟨gH, 0, none⟩) nL capH) rfl rfl rfl (by kernel_rfl) (by kernel_rfl) (by kernel_rfl) (fun _ _ _ h => h) (fun wx hx => exec_move rfl rfl) hS ?_
                  simp only [Act.put, List.setIfInBounds_toArray, List.set_cons_zero, List.set_cons_succ]
                  refine take_want 22 (some 100) (.int .i64 ((0 : Nat) : Int)) rfl rfl rfl (by kernel_rfl) (by kernel_rfl) (by kernel_rfl) (fun _ _ _ h => h) (fun wx hx => exec_move rfl rfl) hS ?_
                  simp only [Act.put, List.setIfInBounds_toArray, List.set_cons_zero, List.set_cons_succ]
                  refine take_want 23 (some 101) (.int .i64 (k1 : Int)) rfl rfl rfl (by kernel_rfl) (by kernel_rfl) (by kernel_rfl) (fun _ _ _ h => h) (fun wx hx => exec_move rfl rfl) hS ?_
                  simp only [Act.put, List.setIfInBounds_toArray, List.set_cons_zero, List.set_cons_succ]
                  refine take_want 24 (some 102) (.int .i64 (ik : Int)) rfl rfl rfl (by kernel_rfl) (by kernel_rfl) (by kernel_rfl) (fun _ _ _ h => h) (fun wx hx => exec_addN rfl rfl rfl (by omega) (by omega) (by omega)) hS ?_
                  simp only [Act.put, List.setIfInBounds_toArray, List.set_cons_zero, List.set_cons_succ]
                  refine take_want 25 (some 103) (.pointer (some ⟨gH, 0 + ik * 3, none⟩)) rfl rfl rfl (by kernel_rfl) (by kernel_rfl) (by kernel_rfl) (fun _ _ _ h => h) (fun wx hx => exec_index rfl (index_refs hik) rfl rfl) hS ?_
                  simp only [Act.put, List.setIfInBounds_toArray, List.set_cons_zero, List.set_cons_succ]
                  refine take_want 26 (some 104) (.pointer (some ⟨gH, 0 + ik * 3 + 1, none⟩)) rfl rfl rfl (by kernel_rfl) (by kernel_rfl) (by kernel_rfl) (fun _ _ _ h => h) (fun wx hx => exec_field rfl (fldQ1 _ _ wx) rfl) hS ?_
                  simp only [Act.put, List.setIfInBounds_toArray, List.set_cons_zero, List.set_cons_succ]
                  refine take_want 27 (some 105) (.int .i64 o.2) rfl rfl rfl (by kernel_rfl) (by kernel_rfl) (by kernel_rfl) (fun _ _ _ h => h) (fun wx hx => exec_load rfl (load_intV (hx.hv.cells ik (o, c) HIK.out).2.1) rfl) hS ?_
                  simp only [Act.put, List.setIfInBounds_toArray, List.set_cons_zero, List.set_cons_succ]
                  refine take_want 28 (some 106) (.bool false) rfl rfl rfl (by kernel_rfl) (by kernel_rfl) (by kernel_rfl) (fun _ _ _ h => h) (fun wx hx => exec_neqN rfl rfl rfl rfl) hS ?_
                  simp only [Act.put, List.setIfInBounds_toArray, List.set_cons_zero, List.set_cons_succ]
                  refine take_want 29 (some 107) (.bool false) rfl rfl rfl (by kernel_rfl) (by kernel_rfl) (by kernel_rfl) (fun _ _ _ h => h) (fun wx hx => exec_pickF rfl rfl rfl) hS ?_
                  simp only [Act.put, List.setIfInBounds_toArray, List.set_cons_zero, List.set_cons_succ]
                  refine take_want 30 (some 108) (.bool false) rfl rfl rfl (by kernel_rfl) (by kernel_rfl) (by kernel_rfl) (fun _ _ _ h => h) (fun wx hx => exec_move rfl rfl) hS ?_
                  simp only [Act.put, List.setIfInBounds_toArray, List.set_cons_zero, List.set_cons_succ]
                  refine take_want 31 (some 109) (.pointer (some ⟨b, 0, none⟩)) rfl rfl rfl (by kernel_rfl) (by kernel_rfl) (by kernel_rfl) (fun _ _ _ h => h) (fun wx hx => exec_move rfl rfl) hS ?_
                  simp only [Act.put, List.setIfInBounds_toArray, List.set_cons_zero, List.set_cons_succ]
                  refine take_want 32 (some 110) (encO o) rfl rfl rfl (by kernel_rfl) (by kernel_rfl) (by kernel_rfl) (fun _ _ _ h => h) (fun wx hx => exec_load rfl hx.bx.load rfl) hS ?_
                  simp only [Act.put, List.setIfInBounds_toArray, List.set_cons_zero, List.set_cons_succ]
                  refine take_want 34 (some 112) (.slice (some ⟨gH, 0, none⟩) nL capH) rfl rfl rfl (by kernel_rfl) (by kernel_rfl) (by kernel_rfl) (fun _ _ _ h => h) (fun wx hx => exec_move rfl rfl) hS ?_
                  simp only [Act.put, List.setIfInBounds_toArray, List.set_cons_zero, List.set_cons_succ]
                  refine take_want 35 (some 113) (.int .i64 ((0 : Nat) : Int)) rfl rfl rfl (by kernel_rfl) (by kernel_rfl) (by kernel_rfl) (fun _ _ _ h => h) (fun wx hx => exec_move rfl rfl) hS ?_
                  simp only [Act.put, List.setIfInBounds_toArray, List.set_cons_zero, List.set_cons_succ]
                  refine take_want 36 (some 114) (.int .i64 (k1 : Int)) rfl rfl rfl (by kernel_rfl) (by kernel_rfl) (by kernel_rfl) (fun _ _ _ h => h) (fun wx hx => exec_move rfl rfl) hS ?_
                  simp only [Act.put, List.setIfInBounds_toArray, List.set_cons_zero, List.set_cons_succ]
                  refine take_want 37 (some 115) (.int .i64 (ik : Int)) rfl rfl rfl (by kernel_rfl) (by kernel_rfl) (by kernel_rfl) (fun _ _ _ h => h) (fun wx hx => exec_addN rfl rfl rfl (by omega) (by omega) (by omega)) hS ?_
                  simp only [Act.put, List.setIfInBounds_toArray, List.set_cons_zero, List.set_cons_succ]
                  refine take_want 38 (some 116) (.pointer (some ⟨gH, 0 + ik * 3, none⟩)) rfl rfl rfl (by kernel_rfl) (by kernel_rfl) (by kernel_rfl) (fun _ _ _ h => h) (fun wx hx => exec_index rfl (index_refs hik) rfl rfl) hS ?_
                  simp only [Act.put, List.setIfInBounds_toArray, List.set_cons_zero, List.set_cons_succ]
                  refine take_want 39 (some 117) (.pointer (some ⟨gH, 0 + ik * 3 + 2, none⟩)) rfl rfl rfl (by kernel_rfl) (by kernel_rfl) (by kernel_rfl) (fun _ _ _ h => h) (fun wx hx => exec_field rfl (fldQ2 _ _ wx) rfl) hS ?_
                  simp only [Act.put, List.setIfInBounds_toArray, List.set_cons_zero, List.set_cons_succ]
                  refine take_want 40 (some 118) (.int .i64 c) rfl rfl rfl (by kernel_rfl) (by kernel_rfl) (by kernel_rfl) (fun _ _ _ h => h) (fun wx hx => exec_load rfl (load_intV (hx.hv.cells ik (o, c) HIK.out).2.2) rfl) hS ?_
                  simp only [Act.put, List.setIfInBounds_toArray, List.set_cons_zero, List.set_cons_succ]
                  refine call_want 33 (some 111) rfl rfl rfl (by kernel_rfl) (exec_call2 rfl enterOf rfl rfl rfl) ((of_any (o := o) hS.rf hO).mono ?_)
                  rintro e' w' ⟨rfl, hbw⟩
                  have hS2 := hS.below hbw
                  clear hbw
                  rw [HOF.out]
                  refine ⟨_, rfl, hS2, ?_⟩
                  simp only [Act.put, List.setIfInBounds_toArray, List.set_cons_zero, List.set_cons_succ]
                  refine take_want 41 (some 119) (.bool false) rfl rfl rfl (by kernel_rfl) (by kernel_rfl) (by kernel_rfl) (fun _ _ _ h => h) (fun wx hx => exec_neqN rfl rfl rfl rfl) hS2 ?_
                  simp only [Act.put, List.setIfInBounds_toArray, List.set_cons_zero, List.set_cons_succ]
                  refine take_want 42 (some 120) (.bool false) rfl rfl rfl (by kernel_rfl) (by kernel_rfl) (by kernel_rfl) (fun _ _ _ h => h) (fun wx hx => exec_pickF rfl rfl rfl) hS2 ?_
                  simp only [Act.put, List.setIfInBounds_toArray, List.set_cons_zero, List.set_cons_succ]
                  refine wpAnyH_done (by kernel_rfl) ?_ _
                  go_wp2_with fail
                  go_roundg n5
                  case measure => omega
                  case rel => exact ⟨k1 + 1, by omega, by go_num, by rw [Int.add_assoc]; push_cast; rfl, hide hS2.rf, hide hS2.os, hide hS2.hv, hide hS2.bel⟩
            · obtain ⟨i0, rfl⟩ : ∃ i0, i1 = i0 + 1 := ⟨i1 - 1, by omega⟩
              obtain ⟨p, hp⟩ : ∃ p, L[i0]? = some p := ⟨L[i0]'(by omega), by rw [List.getElem?_eq_getElem]⟩
              have HPV := hide hp
              have hpe : p.1.1 ≠ q.1.1 := fun e => hcont ⟨i0, p, rfl, hp, e⟩
              have hi0 : i0 < nL := by omega
              refine wp_region_held_drew (S := Below w3.heap.size w3) (by kernel_rfl) (below_drew0 w3) (fun hS => ?_)
              refine take_want 0 (some 55) (.int .i64 ((i0 + 1 : Nat) : Int)) rfl rfl rfl (by kernel_rfl) (by kernel_rfl) (by kernel_rfl) (fun _ _ _ h => h) (fun wx hx => exec_move rfl rfl) hS ?_
              simp only [Act.put, List.setIfInBounds_toArray, List.set_cons_zero, List.set_cons_succ]
              refine take_want 1 (some 56) (.bool true) rfl rfl rfl (by kernel_rfl) (by kernel_rfl) (by kernel_rfl) (fun _ _ _ h => h) (fun wx hx => exec_gtrT rfl rfl rfl (by omega)) hS ?_
              simp only [Act.put, List.setIfInBounds_toArray, List.set_cons_zero, List.set_cons_succ]
              refine take_want 2 (some 57) (.bool true) rfl rfl rfl (by kernel_rfl) (by kernel_rfl) (by kernel_rfl) (fun _ _ _ h => h) (fun wx hx => exec_move rfl rfl) hS ?_
              simp only [Act.put, List.setIfInBounds_toArray, List.set_cons_zero, List.set_cons_succ]
              refine take_want 3 (some 58) (.slice (some ⟨gH, 0, none⟩) nL capH) rfl rfl rfl (by kernel_rfl) (by kernel_rfl) (by kernel_rfl) (fun _ _ _ h => h) (fun wx hx => exec_move rfl rfl) hS ?_
              simp only [Act.put, List.setIfInBounds_toArray, List.set_cons_zero, List.set_cons_succ]
              refine take_want 4 (some 59) (.int .i64 ((i0 + 1 : Nat) : Int)) rfl rfl rfl (by kernel_rfl) (by kernel_rfl) (by kernel_rfl) (fun _ _ _ h => h) (fun wx hx => exec_move rfl rfl) hS ?_
              simp only [Act.put, List.setIfInBounds_toArray, List.set_cons_zero, List.set_cons_succ]
              refine take_want 5 (some 60) (.int .i64 (i0 : Int)) rfl rfl rfl (by kernel_rfl) (by kernel_rfl) (by kernel_rfl) (fun _ _ _ h => h) (fun wx hx => exec_subN rfl rfl rfl (by omega) (by omega) (by omega)) hS ?_
              simp only [Act.put, List.setIfInBounds_toArray, List.set_cons_zero, List.set_cons_succ]
              refine take_want 6 (some 61) (.pointer (some ⟨gH, 0 + i0 * 3, none⟩)) rfl rfl rfl (by kernel_rfl) (by kernel_rfl) (by kernel_rfl) (fun _ _ _ h => h) (fun wx hx => exec_index rfl (index_refs hi0) rfl rfl) hS ?_
              simp only [Act.put, List.setIfInBounds_toArray, List.set_cons_zero, List.set_cons_succ]
              refine take_want 7 (some 62) (.pointer (some ⟨gH, 0 + i0 * 3, none⟩)) rfl rfl rfl (by kernel_rfl) (by kernel_rfl) (by kernel_rfl) (fun _ _ _ h => h) (fun wx hx => exec_field rfl (fldQ0 _ _ wx) rfl) hS ?_
              simp only [Act.put, List.setIfInBounds_toArray, List.set_cons_zero, List.set_cons_succ]
              refine take_want 8 (some 63) (.int .i64 p.1.1) rfl rfl rfl (by kernel_rfl) (by kernel_rfl) (by kernel_rfl) (fun _ _ _ h => h) (fun wx hx => exec_load rfl (load_intV ((HHA.out.below hx).cells i0 p HPV.out).1) rfl) hS ?_
              simp only [Act.put, List.setIfInBounds_toArray, List.set_cons_zero, List.set_cons_succ]
              refine take_want 9 (some 64) (.pointer (some ⟨y, 0, none⟩)) rfl rfl rfl (by kernel_rfl) (by kernel_rfl) (by kernel_rfl) (fun _ _ _ h => h) (fun wx hx => exec_field rfl (fldR0 _ wx) rfl) hS ?_
              simp only [Act.put, List.setIfInBounds_toArray, List.set_cons_zero, List.set_cons_succ]
              refine take_want 10 (some 65) (.int .i64 q.1.1) rfl rfl rfl (by kernel_rfl) (by kernel_rfl) (by kernel_rfl) (fun _ _ _ h => h) (fun wx hx => exec_load rfl (load_intV (HYQ.out.below hx).1) rfl) hS ?_
              simp only [Act.put, List.setIfInBounds_toArray, List.set_cons_zero, List.set_cons_succ]
              refine take_want 11 (some 66) (.bool false) rfl rfl rfl (by kernel_rfl) (by kernel_rfl) (by kernel_rfl) (fun _ _ _ h => h) (fun wx hx => exec_eqlNF rfl rfl rfl (by omega)) hS ?_
              simp only [Act.put, List.setIfInBounds_toArray, List.set_cons_zero, List.set_cons_succ]
              refine take_want 12 (some 67) (.bool false) rfl rfl rfl (by kernel_rfl) (by kernel_rfl) (by kernel_rfl) (fun _ _ _ h => h) (fun wx hx => exec_pickT rfl rfl rfl) hS ?_
              simp only [Act.put, List.setIfInBounds_toArray, List.set_cons_zero, List.set_cons_succ]
              refine wpAnyH_done (by kernel_rfl) ?_ _
              clear hcont hp hpe
              obtain ⟨w4, hw4⟩ : ∃ w4, w3.drew = w4 := ⟨_, rfl⟩
              rw [hw4] at hS ⊢
              obtain ⟨hr4, hh4, hb4, hy4⟩ := HRD.out w4 hS
              have HR4 := hide hr4
              have HH4 := hide hh4
              have HB4 := hide hb4
              obtain ⟨z1, z2, z3⟩ := hy4
              have HV4 := hide (HREST.out w4 hS)
              rw [hvc]
              clear hr4 hh4 hb4 hw4 hS
              go_wp2_with (go_at_call 25; refine HV4.out.mono ?_; rintro e w5 ⟨v5, rfl, hv5, hb5⟩; obtain ⟨ao3, cap3, g3, rfl, ho3⟩ := owns_at hv5 HR4.out.bd; have HO3 := hide ho3; have HB5 := hide hb5; clear hv5 ho3 hb5)
              go_loopg [73, 7] nm (fun k i nv wr => ∃ (k1 : Nat), k1 + k = nm ∧ i = .int .i64 (k1 : Int) ∧ nv = .int .i64 ((vc : Int) + (k1 : Int)) ∧ Hid (Rf wr F b L none) ∧ Hid (OwnsAt F wr ao3 g3 m3) ∧ Hid (RefsAt F wr (some ⟨gH, 0, none⟩) gH 0 L) ∧ Hid (Below w.heap.size w wr))
              case atStart => exact ⟨0, by omega, rfl, by simp, hide (HR4.out.below HB5.out), HO3, hide (HH4.out.below HB5.out), hide (below_next HB4.out HB5.out)⟩
              case round =>
                obtain ⟨k1, hk1, rfl, rfl, HRc, HOc, HHc, HBc⟩ := hrel
                cases gk with
                | zero =>
                  have hke : k1 = nm := by omega
                  subst hke
                  have hnl5 : ¬ ((k1 : Nat) : Int) < (k1 : Int) := by omega
                  go_wp2_with fail
                  go_roundg m
                  case measure => omega
                  case rel => exact ⟨(i0 + 1) + 1, by omega, by go_num, by rw [HVC.out]; push_cast; rfl, HRc, HHc, HBc⟩
                | succ n5 =>
                  have hlti2 : (k1 : Int) < (nm : Int) := by omega
                  have hge2 : (0 : Int) ≤ (k1 : Int) := by omega
                  obtain ⟨o, ho⟩ : ∃ o, m3[k1]? = some o := ⟨m3[k1]'(by omega), by rw [List.getElem?_eq_getElem]⟩
                  obtain rfl := HOc.out.ad (by omega)
                  obtain ⟨t1, t2⟩ := HOc.out.cells k1 o ho
                  have hL1 := HGA.out k1 o ho
                  have hO : OkO o := HOKL.out.own _ (List.mem_of_getElem? hL1)
                  obtain ⟨c, hc⟩ : ∃ c, ofS L o = c := ⟨_, rfl⟩
                  have HOF := hide hc
                  rw [hc] at hL1
                  obtain ⟨ik, hik0⟩ : ∃ ik, (i0 + 1) + k1 = ik := ⟨_, rfl⟩
                  rw [hik0] at hL1
                  have HIK := hide hL1
                  have hik : ik < nL := by rw [← hnL]; exact (List.getElem?_eq_some_iff.1 hL1).1
                  have e4 : IntKind.i64.wrap ((k1 : Int) + 1) = (k1 : Int) + 1 := IntWalk.i64_in _ ⟨by omega, by omega⟩
                  have e5 : IntKind.i64.wrap ((vc : Int) + (k1 : Int) + 1) = (vc : Int) + (k1 : Int) + 1 := IntWalk.i64_in _ ⟨by omega, by omega⟩
                  obtain ⟨x, hx⟩ : ∃ x, wr.heap.size = x := ⟨_, rfl⟩
                  obtain ⟨w8, hw8⟩ : ∃ w8, wr.alloc (.cells #[.int .i64 o.1, .int .i64 o.2] 35) = w8 := ⟨_, rfl⟩
                  have HBX : Hid (BoxO w8 x o) := hide (by rw [← hw8, ← hx]; exact boxO_new _ _ _)
                  have HB8 : Hid (Below wr.heap.size wr w8) := hide (by rw [← hw8]; exact below_box _ _)
                  have HS0 : Hid (S5 w F b L (some ⟨g3, 0, none⟩) g3 m3 (some ⟨gH, 0, none⟩) gH x o w8) := hide ⟨HRc.out.below HB8.out, HOc.out.below HB8.out, HHc.out.below HB8.out, HBX.out, below_next HBc.out HB8.out⟩
                  have HSD := hide (HS0.out.below (below_drew0 w8))
                  clear ho hL1 hc
                  go_wp2_with fail
                  refine wp_region_held_drew (S := S5 w F b L (some ⟨g3, 0, none⟩) g3 m3 (some ⟨gH, 0, none⟩) gH x o) (by kernel_rfl) HSD.out (fun hS => ?_)
                  refine take_want 0 (some 78) (.int .i64 ((i0 + 1 : Nat) : Int)) rfl rfl rfl (by kernel_rfl) (by kernel_rfl) (by kernel_rfl) (fun _ _ _ h => h) (fun wx hx => exec_move rfl rfl) hS ?_
                  simp only [Act.put, List.setIfInBounds_toArray, List.set_cons_zero, List.set_cons_succ]
                  refine take_want 1 (some 79) (.int .i64 (k1 : Int)) rfl rfl rfl (by kernel_rfl) (by kernel_rfl) (by kernel_rfl) (fun _ _ _ h => h) (fun wx hx => exec_move rfl rfl) hS ?_
                  simp only [Act.put, List.setIfInBounds_toArray, List.set_cons_zero, List.set_cons_succ]
                  refine take_want 2 (some 80) (.int .i64 (ik : Int)) rfl rfl rfl (by kernel_rfl) (by kernel_rfl) (by kernel_rfl) (fun _ _ _ h => h) (fun wx hx => exec_addN rfl rfl rfl (by omega) (by omega) (by omega)) hS ?_
                  simp only [Act.put, List.setIfInBounds_toArray, List.set_cons_zero, List.set_cons_succ]
                  refine take_want 3 (some 81) (.slice (some ⟨gH, 0, none⟩) nL capH) rfl rfl rfl (by kernel_rfl) (by kernel_rfl) (by kernel_rfl) (fun _ _ _ h => h) (fun wx hx => exec_move rfl rfl) hS ?_
                  simp only [Act.put, List.setIfInBounds_toArray, List.set_cons_zero, List.set_cons_succ]
                  refine take_want 4 (some 82) (.int .i64 (nL : Int)) rfl rfl rfl (by kernel_rfl) (by kernel_rfl) (by kernel_rfl) (fun _ _ _ h => h) (fun wx hx => exec_len rfl (len_refs _ _ _ _) rfl) hS ?_
                  simp only [Act.put, List.setIfInBounds_toArray, List.set_cons_zero, List.set_cons_succ]
                  refine take_want 5 (some 83) (.bool false) rfl rfl rfl (by kernel_rfl) (by kernel_rfl) (by kernel_rfl) (fun _ _ _ h => h) (fun wx hx => exec_geqF rfl rfl rfl (by omega)) hS ?_
                  simp only [Act.put, List.setIfInBounds_toArray, List.set_cons_zero, List.set_cons_succ]
                  refine take_want 6 (some 84) (.bool false) rfl rfl rfl (by kernel_rfl) (by kernel_rfl) (by kernel_rfl) (fun _ _ _ h => h) (fun wx hx => exec_move rfl rfl) hS ?_
                  simp only [Act.put, List.setIfInBounds_toArray, List.set_cons_zero, List.set_cons_succ]
                  refine take_want 7 (some 85) (.pointer (some ⟨x, 0, none⟩)) rfl rfl rfl (by kernel_rfl) (by kernel_rfl) (by kernel_rfl) (fun _ _ _ h => h) (fun wx hx => exec_field rfl (fldO0 _ wx) rfl) hS ?_
                  simp only [Act.put, List.setIfInBounds_toArray, List.set_cons_zero, List.set_cons_succ]
                  refine take_want 8 (some 86) (.int .i64 o.1) rfl rfl rfl (by kernel_rfl) (by kernel_rfl) (by kernel_rfl) (fun _ _ _ h => h) (fun wx hx => exec_load rfl (load_intV hx.bx.1) rfl) hS ?_
                  simp only [Act.put, List.setIfInBounds_toArray, List.set_cons_zero, List.set_cons_succ]
                  refine take_want 9 (some 87) (.slice (some ⟨gH, 0, none⟩) nL capH) rfl rfl rfl (by kernel_rfl) (by kernel_rfl) (by kernel_rfl) (fun _ _ _ h => h) (fun wx hx => exec_move rfl rfl) hS ?_
                  simp only [Act.put, List.setIfInBounds_toArray, List.set_cons_zero, List.set_cons_succ]
                  refine take_want 10 (some 88) (.int .i64 ((i0 + 1 : Nat) : Int)) rfl rfl rfl (by kernel_rfl) (by kernel_rfl) (by kernel_rfl) (fun _ _ _ h => h) (fun wx hx => exec_move rfl rfl) hS ?_
                  simp only [Act.put, List.setIfInBounds_toArray, List.set_cons_zero, List.set_cons_succ]
                  refine take_want 11 (some 89) (.int .i64 (k1 : Int)) rfl rfl rfl (by kernel_rfl) (by kernel_rfl) (by kernel_rfl) (fun _ _ _ h => h) (fun wx hx => exec_move rfl rfl) hS ?_
                  simp only [Act.put, List.setIfInBounds_toArray, List.set_cons_zero, List.set_cons_succ]
                  refine take_want 12 (some 90) (.int .i64 (ik : Int)) rfl rfl rfl (by kernel_rfl) (by kernel_rfl) (by kernel_rfl) (fun _ _ _ h => h) (fun wx hx => exec_addN rfl rfl rfl (by omega) (by omega) (by omega)) hS ?_
                  simp only [Act.put, List.setIfInBounds_toArray, List.set_cons_zero, List.set_cons_succ]
                  refine take_want 13 (some 91) (.pointer (some ⟨gH, 0 + ik * 3, none⟩)) rfl rfl rfl (by kernel_rfl) (by kernel_rfl) (by kernel_rfl) (fun _ _ _ h => h) (fun wx hx => exec_index rfl (index_refs hik) rfl rfl) hS ?_
                  simp only [Act.put, List.setIfInBounds_toArray, List.set_cons_zero, List.set_cons_succ]
                  refine take_want 14 (some 92) (.pointer (some ⟨gH, 0 + ik * 3, none⟩)) rfl rfl rfl (by kernel_rfl) (by kernel_rfl) (by kernel_rfl) (fun _ _ _ h => h) (fun wx hx => exec_field rfl (fldQ0 _ _ wx) rfl) hS ?_
                  simp only [Act.put, List.setIfInBounds_toArray, List.set_cons_zero, List.set_cons_succ]
                  refine take_want 15 (some 93) (.int .i64 o.1) rfl rfl rfl (by kernel_rfl) (by kernel_rfl) (by kernel_rfl) (fun _ _ _ h => h) (fun wx hx => exec_load rfl (load_intV (hx.hv.cells ik (o, c) HIK.out).1) rfl) hS ?_
                  simp only [Act.put, List.setIfInBounds_toArray, List.set_cons_zero, List.set_cons_succ]
                  refine take_want 16 (some 94) (.bool false) rfl rfl rfl (by kernel_rfl) (by kernel_rfl) (by kernel_rfl) (fun _ _ _ h => h) (fun wx hx => exec_neqN rfl rfl rfl rfl) hS ?_
                  simp only [Act.put, List.setIfInBounds_toArray, List.set_cons_zero, List.set_cons_succ]
                  refine take_want 17 (some 95) (.bool false) rfl rfl rfl (by kernel_rfl) (by kernel_rfl) (by kernel_rfl) (fun _ _ _ h => h) (fun wx hx => exec_pickF rfl rfl rfl) hS ?_
                  simp only [Act.put, List.setIfInBounds_toArray, List.set_cons_zero, List.set_cons_succ]
                  refine take_want 18 (some 96) (.bool false) rfl rfl rfl (by kernel_rfl) (by kernel_rfl) (by kernel_rfl) (fun _ _ _ h => h) (fun wx hx => exec_move rfl rfl) hS ?_
                  simp only [Act.put, List.setIfInBounds_toArray, List.set_cons_zero, List.set_cons_succ]
                  refine take_want 19 (some 97) (.pointer (some ⟨x, 1, none⟩)) rfl rfl rfl (by kernel_rfl) (by kernel_rfl) (by kernel_rfl) (fun _ _ _ h => h) (fun wx hx => exec_field rfl (fldO1 _ wx) rfl) hS ?_
                  simp only [Act.put, List.setIfInBounds_toArray, List.set_cons_zero, List.set_cons_succ]
                  refine take_want 20 (some 98) (.int .i64 o.2) rfl rfl rfl (by kernel_rfl) (by kernel_rfl) (by kernel_rfl) (fun _ _ _ h => h) (fun wx hx => exec_load rfl (load_intV hx.bx.2) rfl) hS ?_
                  simp only [Act.put, List.setIfInBounds_toArray, List.set_cons_zero, List.set_cons_succ]
                  refine take_want 21 (some 99) (.slice (some ⟨gH, 0, none⟩) nL capH) rfl rfl rfl (by kernel_rfl) (by kernel_rfl) (by kernel_rfl) (fun _ _ _ h => h) (fun wx hx => exec_move rfl rfl) hS ?_
                  simp only [Act.put, List.setIfInBounds_toArray, List.set_cons_zero, List.set_cons_succ]
                  refine take_want 22 (some 100) (.int .i64 ((i0 + 1 : Nat) : Int)) rfl rfl rfl (by kernel_rfl) (by kernel_rfl) (by kernel_rfl) (fun _ _ _ h => h) (fun wx hx => exec_move rfl rfl) hS ?_
                  simp only [Act.put, List.setIfInBounds_toArray, List.set_cons_zero, List.set_cons_succ]
                  refine take_want 23 (some 101) (.int .i64 (k1 : Int)) rfl rfl rfl (by kernel_rfl) (by kernel_rfl) (by kernel_rfl) (fun _ _ _ h => h) (fun wx hx => exec_move rfl rfl) hS ?_
                  simp only [Act.put, List.setIfInBounds_toArray, List.set_cons_zero, List.set_cons_succ]
                  refine take_want 24 (some 102) (.int .i64 (ik : Int)) rfl rfl rfl (by kernel_rfl) (by kernel_rfl) (by kernel_rfl) (fun _ _ _ h => h) (fun wx hx => exec_addN rfl rfl rfl (by omega) (by omega) (by omega)) hS ?_
                  simp only [Act.put, List.setIfInBounds_toArray, List.set_cons_zero, List.set_cons_succ]
                  refine take_want 25 (some 103) (.pointer (some ⟨gH, 0 + ik * 3, none⟩)) rfl rfl rfl (by kernel_rfl) (by kernel_rfl) (by kernel_rfl) (fun _ _ _ h => h) (fun wx hx => exec_index rfl (index_refs hik) rfl rfl) hS ?_
                  simp only [Act.put, List.setIfInBounds_toArray, List.set_cons_zero, List.set_cons_succ]
                  refine take_want 26 (some 104) (.pointer (some ⟨gH, 0 + ik * 3 + 1, none⟩)) rfl rfl rfl (by kernel_rfl) (by kernel_rfl) (by kernel_rfl) (fun _ _ _ h => h) (fun wx hx => exec_field rfl (fldQ1 _ _ wx) rfl) hS ?_
                  simp only [Act.put, List.setIfInBounds_toArray, List.set_cons_zero, List.set_cons_succ]
                  refine take_want 27 (some 105) (.int .i64 o.2) rfl rfl rfl (by kernel_rfl) (by kernel_rfl) (by kernel_rfl) (fun _ _ _ h => h) (fun wx hx => exec_load rfl (load_intV (hx.hv.cells ik (o, c) HIK.out).2.1) rfl) hS ?_
                  simp only [Act.put, List.setIfInBounds_toArray, List.set_cons_zero, List.set_cons_succ]
                  refine take_want 28 (some 106) (.bool false) rfl rfl rfl (by kernel_rfl) (by kernel_rfl) (by kernel_rfl) (fun _ _ _ h => h) (fun wx hx => exec_neqN rfl rfl rfl rfl) hS ?_
                  simp only [Act.put, List.setIfInBounds_toArray, List.set_cons_zero, List.set_cons_succ]
                  refine take_want 29 (some 107) (.bool false) rfl rfl rfl (by kernel_rfl) (by kernel_rfl) (by kernel_rfl) (fun _ _ _ h => h) (fun wx hx => exec_pickF rfl rfl rfl) hS ?_
                  simp only [Act.put, List.setIfInBounds_toArray, List.set_cons_zero, List.set_cons_succ]
                  refine take_want 30 (some 108) (.bool false) rfl rfl rfl (by kernel_rfl) (by kernel_rfl) (by kernel_rfl) (fun _ _ _ h => h) (fun wx hx => exec_move rfl rfl) hS ?_
                  simp only [Act.put, List.setIfInBounds_toArray, List.set_cons_zero, List.set_cons_succ]
                  refine take_want 31 (some 109) (.pointer (some ⟨b, 0, none⟩)) rfl rfl rfl (by kernel_rfl) (by kernel_rfl) (by kernel_rfl) (fun _ _ _ h => h) (fun wx hx => exec_move rfl rfl) hS ?_
                  simp only [Act.put, List.setIfInBounds_toArray, List.set_cons_zero, List.set_cons_succ]
                  refine take_want 32 (some 110) (encO o) rfl rfl rfl (by kernel_rfl) (by kernel_rfl) (by kernel_rfl) (fun _ _ _ h => h) (fun wx hx => exec_load rfl hx.bx.load rfl) hS ?_
                  simp only [Act.put, List.setIfInBounds_toArray, List.set_cons_zero, List.set_cons_succ]
                  refine take_want 34 (some 112) (.slice (some ⟨gH, 0, none⟩) nL capH) rfl rfl rfl (by kernel_rfl) (by kernel_rfl) (by kernel_rfl) (fun _ _ _ h => h) (fun wx hx => exec_move rfl rfl) hS ?_
                  simp only [Act.put, List.setIfInBounds_toArray, List.set_cons_zero, List.set_cons_succ]
                  refine take_want 35 (some 113) (.int .i64 ((i0 + 1 : Nat) : Int)) rfl rfl rfl (by kernel_rfl) (by kernel_rfl) (by kernel_rfl) (fun _ _ _ h => h) (fun wx hx => exec_move rfl rfl) hS ?_
                  simp only [Act.put, List.setIfInBounds_toArray, List.set_cons_zero, List.set_cons_succ]
                  refine take_want 36 (some 114) (.int .i64 (k1 : Int)) rfl rfl rfl (by kernel_rfl) (by kernel_rfl) (by kernel_rfl) (fun _ _ _ h => h) (fun wx hx => exec_move rfl rfl) hS ?_
                  simp only [Act.put, List.setIfInBounds_toArray, List.set_cons_zero, List.set_cons_succ]
                  refine take_want 37 (some 115) (.int .i64 (ik : Int)) rfl rfl rfl (by kernel_rfl) (by kernel_rfl) (by kernel_rfl) (fun _ _ _ h => h) (fun wx hx => exec_addN rfl rfl rfl (by omega) (by omega) (by omega)) hS ?_
                  simp only [Act.put, List.setIfInBounds_toArray, List.set_cons_zero, List.set_cons_succ]
                  refine take_want 38 (some 116) (.pointer (some ⟨gH, 0 + ik * 3, none⟩)) rfl rfl rfl (by kernel_rfl) (by kernel_rfl) (by kernel_rfl) (fun _ _ _ h => h) (fun wx hx => exec_index rfl (index_refs hik) rfl rfl) hS ?_
                  simp only [Act.put, List.setIfInBounds_toArray, List.set_cons_zero, List.set_cons_succ]
                  refine take_want 39 (some 117) (.pointer (some ⟨gH, 0 + ik * 3 + 2, none⟩)) rfl rfl rfl (by kernel_rfl) (by kernel_rfl) (by kernel_rfl) (fun _ _ _ h => h) (fun wx hx => exec_field rfl (fldQ2 _ _ wx) rfl) hS ?_
                  simp only [Act.put, List.setIfInBounds_toArray, List.set_cons_zero, List.set_cons_succ]
                  refine take_want 40 (some 118) (.int .i64 c) rfl rfl rfl (by kernel_rfl) (by kernel_rfl) (by kernel_rfl) (fun _ _ _ h => h) (fun wx hx => exec_load rfl (load_intV (hx.hv.cells ik (o, c) HIK.out).2.2) rfl) hS ?_
                  simp only [Act.put, List.setIfInBounds_toArray, List.set_cons_zero, List.set_cons_succ]
                  refine call_want 33 (some 111) rfl rfl rfl (by kernel_rfl) (exec_call2 rfl enterOf rfl rfl rfl) ((of_any (o := o) hS.rf hO).mono ?_)
                  rintro e' w' ⟨rfl, hbw⟩
                  have hS2 := hS.below hbw
                  clear hbw
                  rw [HOF.out]
                  refine ⟨_, rfl, hS2, ?_⟩
                  simp only [Act.put, List.setIfInBounds_toArray, List.set_cons_zero, List.set_cons_succ]
                  refine take_want 41 (some 119) (.bool false) rfl rfl rfl (by kernel_rfl) (by kernel_rfl) (by kernel_rfl) (fun _ _ _ h => h) (fun wx hx => exec_neqN rfl rfl rfl rfl) hS2 ?_
                  simp only [Act.put, List.setIfInBounds_toArray, List.set_cons_zero, List.set_cons_succ]
                  refine take_want 42 (some 120) (.bool false) rfl rfl rfl (by kernel_rfl) (by kernel_rfl) (by kernel_rfl) (fun _ _ _ h => h) (fun wx hx => exec_pickF rfl rfl rfl) hS2 ?_
                  simp only [Act.put, List.setIfInBounds_toArray, List.set_cons_zero, List.set_cons_succ]
                  refine wpAnyH_done (by kernel_rfl) ?_ _
                  go_wp2_with fail
                  go_roundg n5
                  case measure => omega
                  case rel => exact ⟨k1 + 1, by omega, by go_num, by rw [Int.add_assoc]; push_cast; rfl, hide hS2.rf, hide hS2.os, hide hS2.hv, hide hS2.bel⟩
end Go.Proofs.Ytjopdejgijojmaa
