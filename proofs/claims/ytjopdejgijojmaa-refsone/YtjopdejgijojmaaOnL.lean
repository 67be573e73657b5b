/- The law RefsOne. -/
import Derived.Test.YtjopdejgijojmaaOn0
namespace Go.Proofs.Ytjopdejgijojmaa
open Go.RowKit Go.Extern

set_option maxRecDepth 100000 in
set_option maxHeartbeats 8000000 in
theorem oneL_any (rs : List Ref) (hok : ∀ r ∈ rs, OkR r) (ao : Option Addr) (cap g off : Nat) (w : World) (hv : RefsAt (fun _ => False) w ao g off rs) :
    Calls Try.prog 4 #[.slice ao rs.length cap] w fun e w' => e = .returned (.bool true) ∧ Below w.heap.size w w' := by
  by_cases c1 : (200 : Int) < (rs.length : Int)
  · clear hv
    go_enter Try.func4, Try.ntmps4
    go_wp2_with (first
      | (go_at_call 8; refine (new_any _).mono ?_; rintro e w1 ⟨b, rfl, hb, hrf, hbel⟩; have HB1 := hide hbel; clear hrf hbel hb)
      | (go_at_call 9; refine (awake_any _).mono ?_; rintro e w2 ⟨rfl, hb2⟩; have HB2 := hide hb2; clear hb2))
    go_ret
    exact ⟨rfl, HB1.out.trans (HB2.out.mono HB1.out.size)⟩
  have HOK := hide hok
  have HV := hide hv
  have hln : rs.length ≤ 200 := by omega
  clear hv hok
  go_enter Try.func4, Try.ntmps4
  go_wp2_with (first
    | (go_at_call 8; refine (new_any _).mono ?_; rintro e w1 ⟨b, rfl, hb, hrf, hbel⟩; have HR1 := hide hrf; have HB1 := hide hbel; clear hrf hbel hb))
  go_loopg [28] rs.length (fun k i wr => ∃ (j : Nat) (F : Nat → Prop), j + k = rs.length ∧ i = .int .i64 (j : Int) ∧ Hid (Rf wr F b (putL [] (rs.take j)) none) ∧ Hid (∀ k, F k → w.heap.size ≤ k) ∧ Hid (RefsAt F wr ao g off rs) ∧ Hid (Below w.heap.size w wr))
  case atStart => exact ⟨0, _, by omega, rfl, HR1, hide (fun k hk => hk.1), hide (HV.out.start (fun k hk => hk.1) HB1.out), HB1⟩
  case round =>
    obtain ⟨j, F, hj, rfl, HR, HF, HRA, HB⟩ := hrel
    cases gk with
    | succ m =>
      have hlt : j < rs.length := by omega
      have hlti : (j : Int) < (rs.length : Int) := by omega
      have hge : (0 : Int) ≤ (j : Int) := by omega
      obtain ⟨r, hr⟩ : ∃ r, rs[j]? = some r := ⟨rs[j], by simp [hlt]⟩
      obtain rfl := HRA.out.ad (by omega)
      obtain ⟨k1, k2, k3⟩ := HRA.out.cells j r hr
      have HOR : Hid (OkR r) := hide (HOK.out r (List.mem_of_getElem? hr))
      have HPS := hide (putL_snoc (l := []) hr)
      have e2 : IntKind.i64.wrap ((j : Int) + 1) = (j : Int) + 1 := IntWalk.i64_in _ ⟨by omega, by omega⟩
      obtain ⟨x, hx⟩ : ∃ x, wr.heap.size = x := ⟨_, rfl⟩
      obtain ⟨w3, hw3⟩ : ∃ w3, wr.alloc (.cells #[.int .i64 r.1.1, .int .i64 r.1.2, .int .i64 r.2] 28) = w3 := ⟨_, rfl⟩
      have y1 : w3.cell? ⟨x, 0, none⟩ = some (.int .i64 r.1.1) := by rw [← hw3, ← hx]; simp
      have y2 : w3.cell? ⟨x, 1, none⟩ = some (.int .i64 r.1.2) := by rw [← hw3, ← hx]; simp
      have y3 : w3.cell? ⟨x, 2, none⟩ = some (.int .i64 r.2) := by rw [← hw3, ← hx]; simp
      have HB3 : Hid (Below wr.heap.size wr w3) := hide (by rw [← hw3]; exact below_box _ _)
      have HR3 := hide (HR.out.below HB3.out)
      have HXF : Hid (¬ F x) := hide (fun hF => by have := HR.out.bd x hF; omega)
      have HXL : Hid (x < w3.heap.size) := hide (by rw [← hw3]; simp; omega)
      have HY3 := hide y3
      clear hr
      by_cases hneg : r.2 < 0
      · have HP3 := hide (put_any (r := r) HR3.out HOR.out)
        rw [if_pos hneg, errV60] at HP3
        go_wp2_with (go_at_call 10; refine HP3.out.mono ?_; rintro e w4 ⟨rfl, hr4⟩; have HR4 := hide hr4; clear hr4)
        have HY4 : Hid (w4.cell? ⟨x, 2, none⟩ = some (.int .i64 r.2)) := hide (cell_same (HR4.out.turn.block x HXL.out HXF.out) HY3.out)
        refine wp_region_held_drew (S := fun wx => wx.cell? ⟨x, 2, none⟩ = some (.int .i64 r.2)) (by kernel_rfl) HY4.out (fun hS => ?_)
        refine take_want 0 (some 41) (.iface 66 (.int .i64 60)) rfl rfl rfl (by kernel_rfl) (by kernel_rfl) (by kernel_rfl) (fun _ _ _ h => h) (fun wx hx => exec_move rfl rfl) hS ?_
        simp only [Act.put, List.setIfInBounds_toArray, List.set_cons_zero, List.set_cons_succ]
        refine take_want 1 (some 42) (.bool false) rfl rfl rfl (by kernel_rfl) (by kernel_rfl) (by kernel_rfl) (fun _ _ _ h => h) (fun wx hx => exec_nilF rfl rfl rfl) hS ?_
        simp only [Act.put, List.setIfInBounds_toArray, List.set_cons_zero, List.set_cons_succ]
        refine take_want 2 (some 43) (.pointer (some ⟨x, 2, none⟩)) rfl rfl rfl (by kernel_rfl) (by kernel_rfl) (by kernel_rfl) (fun _ _ _ h => h) (fun wx hx => exec_field rfl (fldR2 _ wx) rfl) hS ?_
        simp only [Act.put, List.setIfInBounds_toArray, List.set_cons_zero, List.set_cons_succ]
        refine take_want 3 (some 44) (.int .i64 r.2) rfl rfl rfl (by kernel_rfl) (by kernel_rfl) (by kernel_rfl) (fun _ _ _ h => h) (fun wx hx => exec_load rfl (load_intV hx) rfl) hS ?_
        simp only [Act.put, List.setIfInBounds_toArray, List.set_cons_zero, List.set_cons_succ]
        refine take_want 4 (some 45) (.bool false) rfl rfl rfl (by kernel_rfl) (by kernel_rfl) (by kernel_rfl) (fun _ _ _ h => h) (fun wx hx => exec_geqF rfl rfl rfl (by omega)) hS ?_
        simp only [Act.put, List.setIfInBounds_toArray, List.set_cons_zero, List.set_cons_succ]
        refine take_want 5 (some 46) (.bool false) rfl rfl rfl (by kernel_rfl) (by kernel_rfl) (by kernel_rfl) (fun _ _ _ h => h) (fun wx hx => exec_neqB rfl rfl rfl) hS ?_
        simp only [Act.put, List.setIfInBounds_toArray, List.set_cons_zero, List.set_cons_succ]
        refine wpAnyH_done (by kernel_rfl) ?_ _
        go_wp2_with fail
        go_roundg m
        case measure => omega
        case rel =>
          have hb3 : Below w.heap.size w w3 := HB.out.trans (HB3.out.mono HB.out.size)
          have hbd := below_drew0 w4
          exact ⟨j + 1, _, by omega, by go_num, hide (by rw [HPS.out]; exact HR4.out.rf.below hbd), hide (ext_ge HF.out hb3.size), hide (((HRA.out.below HB3.out).turn HR4.out.turn).below hbd), hide ((Rf.turn_below HR4.out HF.out hb3).drew)⟩
      · have HP3 := hide (put_any (r := r) HR3.out HOR.out)
        rw [if_neg hneg] at HP3
        go_wp2_with (go_at_call 10; refine HP3.out.mono ?_; rintro e w4 ⟨rfl, hr4⟩; have HR4 := hide hr4; clear hr4)
        have HY4 : Hid (w4.cell? ⟨x, 2, none⟩ = some (.int .i64 r.2)) := hide (cell_same (HR4.out.turn.block x HXL.out HXF.out) HY3.out)
        refine wp_region_held_drew (S := fun wx => wx.cell? ⟨x, 2, none⟩ = some (.int .i64 r.2)) (by kernel_rfl) HY4.out (fun hS => ?_)
        refine take_want 0 (some 41) .nilIface rfl rfl rfl (by kernel_rfl) (by kernel_rfl) (by kernel_rfl) (fun _ _ _ h => h) (fun wx hx => exec_move rfl rfl) hS ?_
        simp only [Act.put, List.setIfInBounds_toArray, List.set_cons_zero, List.set_cons_succ]
        refine take_want 1 (some 42) (.bool true) rfl rfl rfl (by kernel_rfl) (by kernel_rfl) (by kernel_rfl) (fun _ _ _ h => h) (fun wx hx => exec_nil rfl rfl rfl) hS ?_
        simp only [Act.put, List.setIfInBounds_toArray, List.set_cons_zero, List.set_cons_succ]
        refine take_want 2 (some 43) (.pointer (some ⟨x, 2, none⟩)) rfl rfl rfl (by kernel_rfl) (by kernel_rfl) (by kernel_rfl) (fun _ _ _ h => h) (fun wx hx => exec_field rfl (fldR2 _ wx) rfl) hS ?_
        simp only [Act.put, List.setIfInBounds_toArray, List.set_cons_zero, List.set_cons_succ]
        refine take_want 3 (some 44) (.int .i64 r.2) rfl rfl rfl (by kernel_rfl) (by kernel_rfl) (by kernel_rfl) (fun _ _ _ h => h) (fun wx hx => exec_load rfl (load_intV hx) rfl) hS ?_
        simp only [Act.put, List.setIfInBounds_toArray, List.set_cons_zero, List.set_cons_succ]
        refine take_want 4 (some 45) (.bool true) rfl rfl rfl (by kernel_rfl) (by kernel_rfl) (by kernel_rfl) (fun _ _ _ h => h) (fun wx hx => exec_geqT rfl rfl rfl (by omega)) hS ?_
        simp only [Act.put, List.setIfInBounds_toArray, List.set_cons_zero, List.set_cons_succ]
        refine take_want 5 (some 46) (.bool false) rfl rfl rfl (by kernel_rfl) (by kernel_rfl) (by kernel_rfl) (fun _ _ _ h => h) (fun wx hx => exec_neqB rfl rfl rfl) hS ?_
        simp only [Act.put, List.setIfInBounds_toArray, List.set_cons_zero, List.set_cons_succ]
        refine wpAnyH_done (by kernel_rfl) ?_ _
        go_wp2_with fail
        go_roundg m
        case measure => omega
        case rel =>
          have hb3 : Below w.heap.size w w3 := HB.out.trans (HB3.out.mono HB.out.size)
          have hbd := below_drew0 w4
          exact ⟨j + 1, _, by omega, by go_num, hide (by rw [HPS.out]; exact HR4.out.rf.below hbd), hide (ext_ge HF.out hb3.size), hide (((HRA.out.below HB3.out).turn HR4.out.turn).below hbd), hide ((Rf.turn_below HR4.out HF.out hb3).drew)⟩
    | zero =>
      have hje : j = rs.length := by omega
      subst hje
      have hnl : ¬ ((rs.length : Nat) : Int) < (rs.length : Int) := by omega
      obtain ⟨L, hL⟩ : ∃ L, putL [] rs = L := ⟨_, rfl⟩
      have HR5 : Hid (Rf wr F b L none) := hide (by have := HR.out; rw [List.take_length, hL] at this; exact this)
      have HLL : Hid (L.length ≤ 200) := hide (by have := putL_length Okl.nil HOK.out; rw [hL] at this; simp at this; omega)
      have hLL : L.length ≤ 1000000 := by have := HLL.out; omega
      have HAD := hide (addrs_any HR5.out hLL)
      go_wp2_with (go_at_call 18; refine HAD.out.mono ?_; rintro e w6 ⟨v2, ns, rfl, hia, hv2, hb6, hnl2⟩; obtain ⟨ao2, cap2, g2, rfl, hi2⟩ := ints_at hv2 HR5.out.bd; have HIA := hide hia; have HI2 := hide hi2; have HB6 := hide hb6; clear hia hv2 hi2 hb6; obtain ⟨nn, hnn⟩ : ∃ nn, ns.length = nn := ⟨_, rfl⟩; rw [hnn])
      have HF6 : Hid (Rf w6 F b L none) := hide (HR5.out.below HB6.out)
      have HBw6 : Hid (Below w.heap.size w w6) := hide (HB.out.trans (HB6.out.mono HB.out.size))
      have HOKL : Hid (Okl L) := hide HR5.out.ok
      have HPOS : Hid (∀ a ∈ ns, 0 < a ∧ I64 a) := hide (fun a ha => by obtain ⟨o, ho⟩ := (HIA.out.2 a).1 ha; exact ⟨HOKL.out.pos _ ho, HOKL.out.rng _ ho⟩)
      have hnn2 : nn ≤ 200 := by have := HLL.out; omega
      go_loopg [51, 7, 8] nn (fun k i nv lv wr => ∃ (j : Nat) (la : Int), j + k = nn ∧ i = .int .i64 (j : Int) ∧ nv = .int .i64 ((addrSum L (ns.take j) : Nat) : Int) ∧ lv = .int .i64 la ∧ Hid (∀ a ∈ ns.drop j, la < a) ∧ Hid (Rf wr F b L none) ∧ Hid (IntsAt F wr ao2 g2 ns) ∧ Hid (Below w.heap.size w wr))
      case atStart => exact ⟨0, 0, by omega, rfl, rfl, rfl, hide (fun a ha => (HPOS.out a (by simpa using ha)).1), HF6, HI2, HBw6⟩
      case round =>
        obtain ⟨j, la, hj2, rfl, rfl, rfl, HLA, HR7, HI7, HB7⟩ := hrel
        cases gk with
        | zero =>
          have hje : j = nn := by omega
          subst hje
          have hnl3 : ¬ ((j : Nat) : Int) < (j : Int) := by omega
          have hsum : addrSum L (ns.take j) = L.length := by rw [List.take_of_length_le (by omega)]; exact addrSum_all HIA.out
          rw [hsum]
          have HcL := hide (len_any HR7.out)
          go_wp2_with (first
            | (go_at_call 22; refine HcL.out.mono ?_; rintro e wB ⟨rfl, rfl⟩)
            | (go_at_call 9; refine (awake_any _).mono ?_; rintro e wC ⟨rfl, hbC⟩; have HBC := hide hbC; clear hbC))
          go_ret
          exact ⟨rfl, HB7.out.trans (HBC.out.mono HB7.out.size)⟩
        | succ m =>
          have hlt : j < ns.length := by omega
          have hlti : (j : Int) < (nn : Int) := by omega
          have hge : (0 : Int) ≤ (j : Int) := by omega
          obtain ⟨a, ha⟩ : ∃ a, ns[j]? = some a := ⟨ns[j], by simp [hlt]⟩
          obtain rfl := HI7.out.ad (by omega)
          have k1 := HI7.out.cells j a ha
          have hmem := List.mem_of_getElem? ha
          have haI : I64 a := (HPOS.out a hmem).2
          have hdrop : ns.drop j = a :: ns.drop (j + 1) := by
            obtain ⟨h1, rfl⟩ := List.getElem?_eq_some_iff.1 ha
            exact List.drop_eq_getElem_cons h1
          have hla : la < a := HLA.out a (by rw [hdrop]; simp)
          have hlab : decide (a ≤ la) = false := by simp; omega
          have HLA2 : Hid (∀ c ∈ ns.drop (j + 1), a < c) := hide (by
            have hp : (ns.drop j).Pairwise (fun a b => a < b) := List.Pairwise.sublist (List.drop_sublist j ns) HIA.out.1
            rw [hdrop] at hp
            exact (List.pairwise_cons.1 hp).1)
          have HSN := hide (addrSum_snoc (l := L) ha)
          obtain ⟨m3, hm⟩ : ∃ m3, byS L a = m3 := ⟨_, rfl⟩
          obtain ⟨nm, hnm⟩ : ∃ nm, m3.length = nm := ⟨_, rfl⟩
          have hnm1 : 1 ≤ nm := by
            obtain ⟨o, ho⟩ := (HIA.out.2 a).1 hmem
            have := List.length_pos_of_mem (mem_byS.2 ho)
            rw [hm, hnm] at this; omega
          have hnmb : nm ≤ 200 := by have := byS_length L a; have := HLL.out; rw [hm, hnm] at *; omega
          have HMS : Hid (SrtO m3) := hide (by rw [← hm]; exact srt_byS HOKL.out.srt a)
          have HMI : Hid (∀ o ∈ m3, (o, a) ∈ L) := hide (fun o ho => by rw [← hm] at ho; exact mem_byS.1 ho)
          have hsl : addrSum L (ns.take j) ≤ 200 := by have := addrSum_le HIA.out j; have := HLL.out; omega
          have hcb : decide ((nm : Int) < 1) = false := by simp; omega
          have HcC := hide (count_any HR7.out haI)
          rw [hm, hnm] at HcC
          have HOW := hide (owners_any HR7.out haI hLL)
          rw [hm] at HOW
          obtain ⟨sj, hsj⟩ : ∃ sj, addrSum L (ns.take j) = sj := ⟨_, rfl⟩
          rw [hsj] at hsl HSN ⊢
          have e5 : IntKind.i64.wrap ((sj : Int) + (nm : Int)) = (sj : Int) + (nm : Int) := IntWalk.i64_in _ ⟨by omega, by omega⟩
          have e6 : IntKind.i64.wrap ((j : Int) + 1) = (j : Int) + 1 := IntWalk.i64_in _ ⟨by omega, by omega⟩
          have HGA := hide ha
          clear ha hmem hdrop hla
          go_wp2_with (first
            | (go_at_call 19; refine HcC.out.mono ?_; rintro e wB ⟨rfl, rfl⟩)
            | (go_at_call 20; refine HOW.out.mono ?_; rintro e wA ⟨v3, rfl, hv3, hbA⟩; obtain ⟨ao3, cap3, g3, rfl, ho3⟩ := owns_at hv3 HR7.out.bd; have HO3 := hide ho3; have HBA := hide hbA; clear hv3 ho3 hbA))
          have HRb : Hid (Rf wA F b L none) := hide (HR7.out.below HBA.out)
          have HBb : Hid (Below w.heap.size w wA) := hide (HB7.out.trans (HBA.out.mono HB7.out.size))
          have HIb : Hid (IntsAt F wA (some ⟨g2, 0, none⟩) g2 ns) := hide (HI7.out.below HBA.out)
          go_loopg [69] nm (fun k i wr => ∃ (i1 : Nat), i1 + k = nm ∧ i = .int .i64 (i1 : Int) ∧ Hid (Rf wr F b L none) ∧ Hid (OwnsAt F wr ao3 g3 m3) ∧ Hid (IntsAt F wr (some ⟨g2, 0, none⟩) g2 ns) ∧ Hid (Below w.heap.size w wr))
          case atStart => exact ⟨0, by omega, rfl, HRb, HO3, HIb, HBb⟩
          case round =>
            obtain ⟨i1, hi1, rfl, HRc, HOc, HIc, HBc⟩ := hrel
            cases gk with
            | zero =>
              have hie : i1 = nm := by omega
              subst hie
              have hnl4 : ¬ ((i1 : Nat) : Int) < (i1 : Int) := by omega
              have HcC2 := hide (count_any HRc.out haI)
              rw [hm, hnm] at HcC2
              go_wp2_with (go_at_call 19; refine HcC2.out.mono ?_; rintro e wB ⟨rfl, rfl⟩)
              go_roundg m
              case measure => omega
              case rel => exact ⟨j + 1, a, by omega, by go_num, by rw [HSN.out, hm, hnm]; push_cast; rfl, rfl, HLA2, HRc, HIc, HBc⟩
            | succ q =>
              have hlt : i1 < m3.length := by omega
              have hlti : (i1 : Int) < (nm : Int) := by omega
              have hge : (0 : Int) ≤ (i1 : Int) := by omega
              obtain ⟨o, ho⟩ : ∃ o, m3[i1]? = some o := ⟨m3[i1], by simp [hlt]⟩
              obtain rfl := HOc.out.ad (by omega)
              obtain ⟨k2, k3⟩ := HOc.out.cells i1 o ho
              have hmo := HMI.out o (List.mem_of_getElem? ho)
              have hO : OkO o := HOKL.out.own _ hmo
              have HOF : Hid (ofS L o = a) := hide (ofS_mem HOKL.out.srt hmo)
              have e4 : IntKind.i64.wrap ((i1 : Int) + 1) = (i1 : Int) + 1 := IntWalk.i64_in _ ⟨by omega, by omega⟩
              obtain ⟨x, hx⟩ : ∃ x, wr.heap.size = x := ⟨_, rfl⟩
              obtain ⟨w8, hw8⟩ : ∃ w8, wr.alloc (.cells #[.int .i64 o.1, .int .i64 o.2] 35) = w8 := ⟨_, rfl⟩
              have HBX : Hid (BoxO w8 x o) := hide (by rw [← hw8, ← hx]; exact boxO_new _ _ _)
              have HB8 : Hid (Below wr.heap.size wr w8) := hide (by rw [← hw8]; exact below_box _ _)
              have HS0 : Hid (S4 w F b L (some ⟨g3, 0, none⟩) g3 m3 (some ⟨g2, 0, none⟩) g2 ns x o w8) := hide ⟨HRc.out.below HB8.out, HOc.out.below HB8.out, HIc.out.below HB8.out, HBX.out, HBc.out.trans (HB8.out.mono HBc.out.size)⟩
              have HSD := hide (HS0.out.below (below_drew0 w8))
              have HGO := hide ho
              clear ho hmo
              go_wp2_with fail
              by_cases hi0 : i1 = 0
              · subst hi0
                refine wp_region_held_drew (S := S4 w F b L (some ⟨g3, 0, none⟩) g3 m3 (some ⟨g2, 0, none⟩) g2 ns x o) (by kernel_rfl) HSD.out (fun hS => ?_)
                refine take_want 0 (some 74) (.pointer (some ⟨b, 0, none⟩)) rfl rfl rfl (by kernel_rfl) (by kernel_rfl) (by kernel_rfl) (fun _ _ _ h => h) (fun wx hx => exec_move rfl rfl) hS ?_
                simp only [Act.put, List.setIfInBounds_toArray, List.set_cons_zero, List.set_cons_succ]
                refine take_want 1 (some 75) (encO o) rfl rfl rfl (by kernel_rfl) (by kernel_rfl) (by kernel_rfl) (fun _ _ _ h => h) (fun wx hx => exec_load rfl hx.bx.load rfl) hS ?_
                simp only [Act.put, List.setIfInBounds_toArray, List.set_cons_zero, List.set_cons_succ]
                refine take_want 3 (some 77) (.int .i64 a) rfl rfl rfl (by kernel_rfl) (by kernel_rfl) (by kernel_rfl) (fun _ _ _ h => h) (fun wx hx => exec_move rfl rfl) hS ?_
                simp only [Act.put, List.setIfInBounds_toArray, List.set_cons_zero, List.set_cons_succ]
                refine call_want 2 (some 76) rfl rfl rfl (by kernel_rfl) (exec_call2 rfl enterOf rfl rfl rfl) ((of_any (o := o) hS.rf hO).mono ?_)
                rintro e' w' ⟨rfl, hbw⟩
                have hS2 := hS.below hbw
                clear hbw
                rw [HOF.out]
                refine ⟨_, rfl, hS2, ?_⟩
                simp only [Act.put, List.setIfInBounds_toArray, List.set_cons_zero, List.set_cons_succ]
                refine take_want 4 (some 78) (.bool false) rfl rfl rfl (by kernel_rfl) (by kernel_rfl) (by kernel_rfl) (fun _ _ _ h => h) (fun wx hx => exec_neqN rfl rfl rfl rfl) hS2 ?_
                simp only [Act.put, List.setIfInBounds_toArray, List.set_cons_zero, List.set_cons_succ]
                refine take_want 5 (some 79) (.bool false) rfl rfl rfl (by kernel_rfl) (by kernel_rfl) (by kernel_rfl) (fun _ _ _ h => h) (fun wx hx => exec_move rfl rfl) hS2 ?_
                simp only [Act.put, List.setIfInBounds_toArray, List.set_cons_zero, List.set_cons_succ]
                refine take_want 6 (some 80) (.int .i64 ((0 : Nat) : Int)) rfl rfl rfl (by kernel_rfl) (by kernel_rfl) (by kernel_rfl) (fun _ _ _ h => h) (fun wx hx => exec_move rfl rfl) hS2 ?_
                simp only [Act.put, List.setIfInBounds_toArray, List.set_cons_zero, List.set_cons_succ]
                refine take_want 7 (some 81) (.bool false) rfl rfl rfl (by kernel_rfl) (by kernel_rfl) (by kernel_rfl) (fun _ _ _ h => h) (fun wx hx => exec_gtrF rfl rfl rfl (by omega)) hS2 ?_
                simp only [Act.put, List.setIfInBounds_toArray, List.set_cons_zero, List.set_cons_succ]
                refine take_want 8 (some 82) (.bool false) rfl rfl rfl (by kernel_rfl) (by kernel_rfl) (by kernel_rfl) (fun _ _ _ h => h) (fun wx hx => exec_move rfl rfl) hS2 ?_
                simp only [Act.put, List.setIfInBounds_toArray, List.set_cons_zero, List.set_cons_succ]
                refine skip_want 9 (some 83) rfl rfl rfl (by kernel_rfl) (by kernel_rfl) (by kernel_rfl) (fun _ _ _ h => h) hS2 ?_
                simp only [Act.put, List.setIfInBounds_toArray, List.set_cons_zero, List.set_cons_succ]
                refine skip_want 10 (some 84) rfl rfl rfl (by kernel_rfl) (by kernel_rfl) (by kernel_rfl) (fun _ _ _ h => h) hS2 ?_
                simp only [Act.put, List.setIfInBounds_toArray, List.set_cons_zero, List.set_cons_succ]
                refine skip_want 11 (some 85) rfl rfl rfl (by kernel_rfl) (by kernel_rfl) (by kernel_rfl) (fun _ _ _ h => h) hS2 ?_
                simp only [Act.put, List.setIfInBounds_toArray, List.set_cons_zero, List.set_cons_succ]
                refine skip_want 12 (some 86) rfl rfl rfl (by kernel_rfl) (by kernel_rfl) (by kernel_rfl) (fun _ _ _ h => h) hS2 ?_
                simp only [Act.put, List.setIfInBounds_toArray, List.set_cons_zero, List.set_cons_succ]
                refine skip_want 13 (some 87) rfl rfl rfl (by kernel_rfl) (by kernel_rfl) (by kernel_rfl) (fun _ _ _ h => h) hS2 ?_
                simp only [Act.put, List.setIfInBounds_toArray, List.set_cons_zero, List.set_cons_succ]
                refine skip_want 14 (some 88) rfl rfl rfl (by kernel_rfl) (by kernel_rfl) (by kernel_rfl) (fun _ _ _ h => h) hS2 ?_
                simp only [Act.put, List.setIfInBounds_toArray, List.set_cons_zero, List.set_cons_succ]
                refine skip_want 15 (some 89) rfl rfl rfl (by kernel_rfl) (by kernel_rfl) (by kernel_rfl) (fun _ _ _ h => h) hS2 ?_
                simp only [Act.put, List.setIfInBounds_toArray, List.set_cons_zero, List.set_cons_succ]
                refine skip_want 16 (some 90) rfl rfl rfl (by kernel_rfl) (by kernel_rfl) (by kernel_rfl) (fun _ _ _ h => h) hS2 ?_
                simp only [Act.put, List.setIfInBounds_toArray, List.set_cons_zero, List.set_cons_succ]
                refine skip_want 17 (some 91) rfl rfl rfl (by kernel_rfl) (by kernel_rfl) (by kernel_rfl) (fun _ _ _ h => h) hS2 ?_
                simp only [Act.put, List.setIfInBounds_toArray, List.set_cons_zero, List.set_cons_succ]
                refine take_want 18 (some 92) (.bool false) rfl rfl rfl (by kernel_rfl) (by kernel_rfl) (by kernel_rfl) (fun _ _ _ h => h) (fun wx hx => exec_pickF rfl rfl rfl) hS2 ?_
                simp only [Act.put, List.setIfInBounds_toArray, List.set_cons_zero, List.set_cons_succ]
                refine take_want 19 (some 93) (.bool false) rfl rfl rfl (by kernel_rfl) (by kernel_rfl) (by kernel_rfl) (fun _ _ _ h => h) (fun wx hx => exec_pickF rfl rfl rfl) hS2 ?_
                simp only [Act.put, List.setIfInBounds_toArray, List.set_cons_zero, List.set_cons_succ]
                refine wpAnyH_done (by kernel_rfl) ?_ _
                go_wp2_with fail
                go_roundg q
                case measure => omega
                case rel => exact ⟨0 + 1, by omega, by go_num, hide hS2.rf, hide hS2.os, hide hS2.ns, hide hS2.bel⟩
              · obtain ⟨i0, rfl⟩ : ∃ i0, i1 = i0 + 1 := ⟨i1 - 1, by omega⟩
                obtain ⟨p, hp⟩ : ∃ p, m3[i0]? = some p := ⟨m3[i0]'(by omega), by rw [List.getElem?_eq_getElem]⟩
                have HPV := hide hp
                have hpo : o ≠ p := by
                  obtain ⟨h1, rfl⟩ := List.getElem?_eq_some_iff.1 HPV.out
                  obtain ⟨h2, rfl⟩ := List.getElem?_eq_some_iff.1 HGO.out
                  exact (ltO_ne (List.pairwise_iff_getElem.1 HMS.out i0 (i0 + 1) h1 h2 (by omega))).symm
                refine wp_region_held_drew (S := S4 w F b L (some ⟨g3, 0, none⟩) g3 m3 (some ⟨g2, 0, none⟩) g2 ns x o) (by kernel_rfl) HSD.out (fun hS => ?_)
                refine take_want 0 (some 74) (.pointer (some ⟨b, 0, none⟩)) rfl rfl rfl (by kernel_rfl) (by kernel_rfl) (by kernel_rfl) (fun _ _ _ h => h) (fun wx hx => exec_move rfl rfl) hS ?_
                simp only [Act.put, List.setIfInBounds_toArray, List.set_cons_zero, List.set_cons_succ]
                refine take_want 1 (some 75) (encO o) rfl rfl rfl (by kernel_rfl) (by kernel_rfl) (by kernel_rfl) (fun _ _ _ h => h) (fun wx hx => exec_load rfl hx.bx.load rfl) hS ?_
                simp only [Act.put, List.setIfInBounds_toArray, List.set_cons_zero, List.set_cons_succ]
                refine take_want 3 (some 77) (.int .i64 a) rfl rfl rfl (by kernel_rfl) (by kernel_rfl) (by kernel_rfl) (fun _ _ _ h => h) (fun wx hx => exec_move rfl rfl) hS ?_
                simp only [Act.put, List.setIfInBounds_toArray, List.set_cons_zero, List.set_cons_succ]
                refine call_want 2 (some 76) rfl rfl rfl (by kernel_rfl) (exec_call2 rfl enterOf rfl rfl rfl) ((of_any (o := o) hS.rf hO).mono ?_)
                rintro e' w' ⟨rfl, hbw⟩
                have hS2 := hS.below hbw
                clear hbw
                rw [HOF.out]
                refine ⟨_, rfl, hS2, ?_⟩
                simp only [Act.put, List.setIfInBounds_toArray, List.set_cons_zero, List.set_cons_succ]
                refine take_want 4 (some 78) (.bool false) rfl rfl rfl (by kernel_rfl) (by kernel_rfl) (by kernel_rfl) (fun _ _ _ h => h) (fun wx hx => exec_neqN rfl rfl rfl rfl) hS2 ?_
                simp only [Act.put, List.setIfInBounds_toArray, List.set_cons_zero, List.set_cons_succ]
                refine take_want 5 (some 79) (.bool false) rfl rfl rfl (by kernel_rfl) (by kernel_rfl) (by kernel_rfl) (fun _ _ _ h => h) (fun wx hx => exec_move rfl rfl) hS2 ?_
                simp only [Act.put, List.setIfInBounds_toArray, List.set_cons_zero, List.set_cons_succ]
                refine take_want 6 (some 80) (.int .i64 ((i0 + 1 : Nat) : Int)) rfl rfl rfl (by kernel_rfl) (by kernel_rfl) (by kernel_rfl) (fun _ _ _ h => h) (fun wx hx => exec_move rfl rfl) hS2 ?_
                simp only [Act.put, List.setIfInBounds_toArray, List.set_cons_zero, List.set_cons_succ]
                refine take_want 7 (some 81) (.bool true) rfl rfl rfl (by kernel_rfl) (by kernel_rfl) (by kernel_rfl) (fun _ _ _ h => h) (fun wx hx => exec_gtrT rfl rfl rfl (by omega)) hS2 ?_
                simp only [Act.put, List.setIfInBounds_toArray, List.set_cons_zero, List.set_cons_succ]
                refine take_want 8 (some 82) (.bool true) rfl rfl rfl (by kernel_rfl) (by kernel_rfl) (by kernel_rfl) (fun _ _ _ h => h) (fun wx hx => exec_move rfl rfl) hS2 ?_
                simp only [Act.put, List.setIfInBounds_toArray, List.set_cons_zero, List.set_cons_succ]
                refine take_want 9 (some 83) (encO o) rfl rfl rfl (by kernel_rfl) (by kernel_rfl) (by kernel_rfl) (fun _ _ _ h => h) (fun wx hx => exec_load rfl hx.bx.load rfl) hS2 ?_
                simp only [Act.put, List.setIfInBounds_toArray, List.set_cons_zero, List.set_cons_succ]
                refine take_want 10 (some 84) (.pointer (some ⟨b, 0, none⟩)) rfl rfl rfl (by kernel_rfl) (by kernel_rfl) (by kernel_rfl) (fun _ _ _ h => h) (fun wx hx => exec_move rfl rfl) hS2 ?_
                simp only [Act.put, List.setIfInBounds_toArray, List.set_cons_zero, List.set_cons_succ]
                refine take_want 11 (some 85) (.int .i64 a) rfl rfl rfl (by kernel_rfl) (by kernel_rfl) (by kernel_rfl) (fun _ _ _ h => h) (fun wx hx => exec_move rfl rfl) hS2 ?_
                simp only [Act.put, List.setIfInBounds_toArray, List.set_cons_zero, List.set_cons_succ]
                refine take_want 13 (some 87) (.int .i64 ((i0 + 1 : Nat) : Int)) rfl rfl rfl (by kernel_rfl) (by kernel_rfl) (by kernel_rfl) (fun _ _ _ h => h) (fun wx hx => exec_move rfl rfl) hS2 ?_
                simp only [Act.put, List.setIfInBounds_toArray, List.set_cons_zero, List.set_cons_succ]
                refine take_want 14 (some 88) (.int .i64 (i0 : Int)) rfl rfl rfl (by kernel_rfl) (by kernel_rfl) (by kernel_rfl) (fun _ _ _ h => h) (fun wx hx => exec_subN rfl rfl rfl (by omega) (by omega) (by omega)) hS2 ?_
                simp only [Act.put, List.setIfInBounds_toArray, List.set_cons_zero, List.set_cons_succ]
                refine call_want 12 (some 86) rfl rfl rfl (by kernel_rfl) (exec_call2 rfl enterOwners rfl rfl rfl) ((owners_any hS2.rf haI hLL).mono ?_)
                rintro e' w' ⟨v4, rfl, hv4, hbw⟩
                obtain ⟨ao4, cap4, g4, rfl, ho4⟩ := owns_at hv4 hS2.rf.bd
                rw [hm] at ho4
                rw [hm, hnm]
                obtain rfl := ho4.ad (by omega)
                have hp4 := ho4.cells i0 p HPV.out
                have hS3 := hS2.below hbw
                have hi4 : i0 < nm := by omega
                clear hbw hv4 ho4
                refine ⟨_, rfl, hS3, ?_⟩
                simp only [Act.put, List.setIfInBounds_toArray, List.set_cons_zero, List.set_cons_succ]
                refine take_want 15 (some 89) (.pointer (some ⟨g4, i0 * 2, none⟩)) rfl rfl rfl (by kernel_rfl) (by kernel_rfl) (by kernel_rfl) (fun _ _ _ h => h) (fun wx hx => exec_index rfl (index_owners hi4) rfl rfl) hS3 ?_
                simp only [Act.put, List.setIfInBounds_toArray, List.set_cons_zero, List.set_cons_succ]
                refine only_valueW 16 (some 90) rfl rfl rfl (by kernel_rfl) (exec_load rfl (load_own_at hp4.1 hp4.2) rfl) hS3 ?_
                simp only [Act.put, List.setIfInBounds_toArray, List.set_cons_zero, List.set_cons_succ]
                refine take_want 17 (some 91) (.bool false) rfl rfl rfl (by kernel_rfl) (by kernel_rfl) (by kernel_rfl) (fun _ _ _ h => h) (fun wx hx => exec_eqlOF rfl (eqlO o p wx hpo) rfl rfl) hS3 ?_
                simp only [Act.put, List.setIfInBounds_toArray, List.set_cons_zero, List.set_cons_succ]
                refine take_want 18 (some 92) (.bool false) rfl rfl rfl (by kernel_rfl) (by kernel_rfl) (by kernel_rfl) (fun _ _ _ h => h) (fun wx hx => exec_pickT rfl rfl rfl) hS3 ?_
                simp only [Act.put, List.setIfInBounds_toArray, List.set_cons_zero, List.set_cons_succ]
                refine take_want 19 (some 93) (.bool false) rfl rfl rfl (by kernel_rfl) (by kernel_rfl) (by kernel_rfl) (fun _ _ _ h => h) (fun wx hx => exec_pickF rfl rfl rfl) hS3 ?_
                simp only [Act.put, List.setIfInBounds_toArray, List.set_cons_zero, List.set_cons_succ]
                refine wpAnyH_done (by kernel_rfl) ?_ _
                go_wp2_with fail
                go_roundg q
                case measure => omega
                case rel => exact ⟨i0 + 1 + 1, by omega, by go_num, hide hS3.rf, hide hS3.os, hide hS3.ns, hide hS3.bel⟩
end Go.Proofs.Ytjopdejgijojmaa
