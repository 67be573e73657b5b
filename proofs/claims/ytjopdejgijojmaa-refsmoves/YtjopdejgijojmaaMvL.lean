/- The law RefsMoves. -/
import Derived.Test.YtjopdejgijojmaaMv0
namespace Go.Proofs.Ytjopdejgijojmaa
open Go.RowKit Go.Extern

set_option maxRecDepth 100000 in
set_option maxHeartbeats 8000000 in
theorem movesL_any (rs : List Ref) (hok : ∀ r ∈ rs, OkR r) (from_ to_ : Int) (hfI : I64 from_) (htI : I64 to_) (ao : Option Addr) (cap g off : Nat) (w : World) (hv : RefsAt (fun _ => False) w ao g off rs) :
    Calls Try.prog 7 #[.slice ao rs.length cap, .int .i64 from_, .int .i64 to_] w fun e w' => e = .returned (.bool true) ∧ Below w.heap.size w w' := by
  by_cases c1 : (150 : Int) < (rs.length : Int)
  · clear hv
    go_enter Try.func7, Try.ntmps7
    go_wp2_with (first
      | (go_at_call 8; refine (new_any _).mono ?_; rintro e w1 ⟨b, rfl, hb, hrf, hbel⟩; have HB1 := hide hbel; clear hrf hbel hb)
      | (go_at_call 9; refine (awake_any _).mono ?_; rintro e w2 ⟨rfl, hb2⟩; have HB2 := hide hb2; clear hb2))
    go_ret
    exact ⟨rfl, HB1.out.trans (HB2.out.mono HB1.out.size)⟩
  by_cases c2 : from_ < 1
  · clear hv
    go_enter Try.func7, Try.ntmps7
    go_wp2_with (first
      | (go_at_call 8; refine (new_any _).mono ?_; rintro e w1 ⟨b, rfl, hb, hrf, hbel⟩; have HB1 := hide hbel; clear hrf hbel hb)
      | (go_at_call 9; refine (awake_any _).mono ?_; rintro e w2 ⟨rfl, hb2⟩; have HB2 := hide hb2; clear hb2))
    go_ret
    exact ⟨rfl, HB1.out.trans (HB2.out.mono HB1.out.size)⟩
  by_cases c3 : to_ < 1
  · have c2' : decide (from_ < 1) = false := by simpa using c2
    clear hv c2
    go_enter Try.func7, Try.ntmps7
    go_wp2_with (first
      | (go_at_call 8; refine (new_any _).mono ?_; rintro e w1 ⟨b, rfl, hb, hrf, hbel⟩; have HB1 := hide hbel; clear hrf hbel hb)
      | (go_at_call 9; refine (awake_any _).mono ?_; rintro e w2 ⟨rfl, hb2⟩; have HB2 := hide hb2; clear hb2))
    go_ret
    exact ⟨rfl, HB1.out.trans (HB2.out.mono HB1.out.size)⟩
  by_cases c4 : from_ = to_
  · have c2' : decide (from_ < 1) = false := by simpa using c2
    have c3' : decide (to_ < 1) = false := by simpa using c3
    have c4' : (from_ == to_) = true := by simpa using c4
    clear hv c2 c3
    subst c4
    go_enter Try.func7, Try.ntmps7
    go_wp2_with (first
      | (go_at_call 8; refine (new_any _).mono ?_; rintro e w1 ⟨b, rfl, hb, hrf, hbel⟩; have HB1 := hide hbel; clear hrf hbel hb)
      | (go_at_call 9; refine (awake_any _).mono ?_; rintro e w2 ⟨rfl, hb2⟩; have HB2 := hide hb2; clear hb2))
    go_ret
    exact ⟨rfl, HB1.out.trans (HB2.out.mono HB1.out.size)⟩
  have c2' : decide (from_ < 1) = false := by simpa using c2
  have c3' : decide (to_ < 1) = false := by simpa using c3
  have c4' : (from_ == to_) = false := by simpa using c4
  have HF1 : Hid (1 ≤ from_) := hide (by omega)
  have HT1 : Hid (1 ≤ to_) := hide (by omega)
  have HNE := hide c4
  have HOK := hide hok
  have HV := hide hv
  have hln : rs.length ≤ 150 := by omega
  clear hv hok c2 c3 c4
  go_enter Try.func7, Try.ntmps7
  go_wp2_with (first
    | (go_at_call 8; refine (new_any _).mono ?_; rintro e w1 ⟨b, rfl, hb, hrf, hbel⟩; have HR1 := hide hrf; have HB1 := hide hbel; clear hrf hbel hb))
  go_loopg [45] rs.length (fun k i wr => ∃ (j : Nat) (F : Nat → Prop), j + k = rs.length ∧ i = .int .i64 (j : Int) ∧ Hid (Rf wr F b (putL [] (rs.take j)) none) ∧ Hid (∀ k, F k → w.heap.size ≤ k) ∧ Hid (RefsAt F wr ao g off rs) ∧ Hid (Below w.heap.size w wr))
  case atStart => exact ⟨0, _, by omega, rfl, HR1, hide (fun k hk => hk.1), hide (HV.out.start (fun k hk => hk.1) HB1.out), HB1⟩
  case round =>
    obtain ⟨j, F, hj, rfl, HR, HF, HRA, HB⟩ := hrel
    cases gk with
    | succ m =>
      have hlt : j < rs.length := by omega
      have hlti : (j : Int) < (rs.length : Int) := by omega
      have hge : (0 : Int) ≤ (j : Int) := by omega
      obtain ⟨r, hr⟩ : ∃ r, rs[j]? = some r := ⟨rs[j], by simp [hlt]⟩
      obtain rfl := HRA.out.ad (by omega)
      obtain ⟨k1, k2, k3⟩ := HRA.out.cells j r hr
      have HOR : Hid (OkR r) := hide (HOK.out r (List.mem_of_getElem? hr))
      have HPS := hide (putL_snoc (l := []) hr)
      have e2 : IntKind.i64.wrap ((j : Int) + 1) = (j : Int) + 1 := IntWalk.i64_in _ ⟨by omega, by omega⟩
      obtain ⟨x, hx⟩ : ∃ x, wr.heap.size = x := ⟨_, rfl⟩
      obtain ⟨w3, hw3⟩ : ∃ w3, wr.alloc (.cells #[.int .i64 r.1.1, .int .i64 r.1.2, .int .i64 r.2] 28) = w3 := ⟨_, rfl⟩
      have y1 : w3.cell? ⟨x, 0, none⟩ = some (.int .i64 r.1.1) := by rw [← hw3, ← hx]; simp
      have y2 : w3.cell? ⟨x, 1, none⟩ = some (.int .i64 r.1.2) := by rw [← hw3, ← hx]; simp
      have y3 : w3.cell? ⟨x, 2, none⟩ = some (.int .i64 r.2) := by rw [← hw3, ← hx]; simp
      have HB3 : Hid (Below wr.heap.size wr w3) := hide (by rw [← hw3]; exact below_box _ _)
      have HR3 := hide (HR.out.below HB3.out)
      clear hr
      go_wp2_with (go_at_call 10; refine (put_some (r := r) HR3.out HOR.out).mono ?_; rintro e w4 ⟨ev, rfl, hr4⟩; have HR4 := hide hr4; clear hr4)
      go_roundg m
      case measure => omega
      case rel =>
        have hb3 : Below w.heap.size w w3 := HB.out.trans (HB3.out.mono HB.out.size)
        exact ⟨j + 1, _, by omega, by go_num, hide (by rw [HPS.out]; exact HR4.out.rf), hide (ext_ge HF.out hb3.size), hide ((HRA.out.below HB3.out).turn HR4.out.turn), hide (Rf.turn_below HR4.out HF.out hb3)⟩
    | zero =>
      have hje : j = rs.length := by omega
      subst hje
      have hnl : ¬ ((rs.length : Nat) : Int) < (rs.length : Int) := by omega
      obtain ⟨L, hL⟩ : ∃ L, putL [] rs = L := ⟨_, rfl⟩
      have HR5 : Hid (Rf wr F b L none) := hide (by have := HR.out; rw [List.take_length, hL] at this; exact this)
      have HLL : Hid (L.length ≤ 150) := hide (by have := putL_length Okl.nil HOK.out; rw [hL] at this; simp at this; omega)
      have HMV : Hid (Moved L from_ to_ (mvL L to_ (byS L from_))) := hide (moved HR5.out.ok (by have := HF1.out; omega) (by have := HT1.out; omega) htI HNE.out)
      obtain ⟨nf, hnf⟩ : ∃ nf, (byS L from_).length = nf := ⟨_, rfl⟩
      obtain ⟨nt, hnt⟩ : ∃ nt, (byS L to_).length = nt := ⟨_, rfl⟩
      obtain ⟨nl, hnl2⟩ : ∃ nl, L.length = nl := ⟨_, rfl⟩
      have b1 : nf ≤ 150 := by have := byS_length L from_; have := HLL.out; omega
      have b2 : nt ≤ 150 := by have := byS_length L to_; have := HLL.out; omega
      have e2 : IntKind.i64.wrap ((nf : Int) + (nt : Int)) = (nf : Int) + (nt : Int) := IntWalk.i64_in _ ⟨by omega, by omega⟩
      have HcC : Hid (∀ a, I64 a → Calls Try.prog 19 #[.pointer (some ⟨b, 0, none⟩), .int .i64 a] wr fun e w' => e = .returned (.int .i64 ((byS L a).length : Int)) ∧ w' = wr) := hide (fun a ha => count_any HR5.out ha)
      have HcL := hide (len_any HR5.out)
      have HOW := hide (owners_any HR5.out hfI (by have := HLL.out; omega))
      have HSR : Hid (∀ o ∈ byS L from_, OkO o) := hide (fun o ho => HR5.out.ok.own _ (mem_byS.1 ho))
      go_wp2_with (first
        | (go_at_call 22; refine HcL.out.mono ?_; rintro e w5 ⟨rfl, rfl⟩; rw [hnl2])
        | (go_at_call 19; refine (HcC.out _ (by first | exact hfI | exact htI)).mono ?_; rintro e w5 ⟨rfl, rfl⟩)
        | (go_at_call 20; refine HOW.out.mono ?_; rintro e w6 ⟨v2, rfl, hv2, hb6⟩; obtain ⟨ao2, cap2, g2, rfl, ho2⟩ := owns_at hv2 HR5.out.bd; have HO2 := hide ho2; have HB6 := hide hb6; clear hv2 ho2 hb6))
      have HF6 : Hid (Rf w6 F b L none) := hide (HR5.out.below HB6.out)
      have HBw6 : Hid (Below w.heap.size w w6) := hide (HB.out.trans (HB6.out.mono HB.out.size))
      obtain ⟨os, hos⟩ : ∃ os, byS L from_ = os := ⟨_, rfl⟩
      rw [hos] at HO2 HSR HMV hnf
      have hosl : os.length = nf := hnf
      go_loopg [72] nf (fun k i wr => ∃ (j : Nat) (F2 : Nat → Prop), j + k = nf ∧ i = .int .i64 (j : Int) ∧ Hid (Rf wr F2 b (mvL L to_ (os.take j)) none) ∧ Hid (∀ k, F2 k → w.heap.size ≤ k) ∧ Hid (OwnsAt F2 wr ao2 g2 os) ∧ Hid (Below w.heap.size w wr))
      case atStart => exact ⟨0, F, by omega, rfl, HF6, HF, HO2, HBw6⟩
      case round =>
        obtain ⟨j, F2, hj2, rfl, HR7, HF7, HO7, HB7⟩ := hrel
        cases gk with
        | succ m =>
          have hlt : j < os.length := by omega
          have hlti : (j : Int) < (nf : Int) := by omega
          have hge : (0 : Int) ≤ (j : Int) := by omega
          obtain ⟨o, ho⟩ : ∃ o, os[j]? = some o := ⟨os[j], by simp [hlt]⟩
          obtain rfl := HO7.out.ad (by omega)
          obtain ⟨k1, k2⟩ := HO7.out.cells j o ho
          have hO : OkO o := HSR.out o (List.mem_of_getElem? ho)
          have HPS := hide (mvL_snoc (l := L) (to_ := to_) ho)
          have e3 : IntKind.i64.wrap ((j : Int) + 1) = (j : Int) + 1 := IntWalk.i64_in _ ⟨by omega, by omega⟩
          obtain ⟨x, hx⟩ : ∃ x, wr.heap.size = x := ⟨_, rfl⟩
          obtain ⟨w8, hw8⟩ : ∃ w8, wr.alloc (.cells #[.int .i64 o.1, .int .i64 o.2] 35) = w8 := ⟨_, rfl⟩
          obtain ⟨y1, y2⟩ : BoxO w8 x o := by rw [← hw8, ← hx]; exact boxO_new _ _ _
          have HB8 : Hid (Below wr.heap.size wr w8) := hide (by rw [← hw8]; exact below_box _ _)
          have HR8 := hide (HR7.out.below HB8.out)
          have ht0 : 0 ≤ to_ := by have := HT1.out; omega
          clear ho
          go_wp2_with (go_at_call 10; refine (put_ok (o := o) HR8.out hO htI ht0).mono ?_; rintro e w9 ⟨rfl, hr9⟩; have HR9 := hide hr9; clear hr9)
          go_roundg m
          case measure => omega
          case rel =>
            have hb8 : Below w.heap.size w w8 := HB7.out.trans (HB8.out.mono HB7.out.size)
            exact ⟨j + 1, _, by omega, by go_num, hide (by rw [HPS.out]; exact HR9.out.rf), hide (ext_ge HF7.out hb8.size), hide ((HO7.out.below HB8.out).turn HR9.out.turn), hide (Rf.turn_below HR9.out HF7.out hb8)⟩
        | zero =>
          have hje : j = nf := by omega
          subst hje
          have hnl3 : ¬ ((j : Nat) : Int) < (j : Int) := by omega
          obtain ⟨L2, hL2⟩ : ∃ L2, mvL L to_ os = L2 := ⟨_, rfl⟩
          rw [hL2] at HMV
          have HRa : Hid (Rf wr F2 b L2 none) := hide (by have := HR7.out; rw [List.take_of_length_le (by omega), hL2] at this; exact this)
          have HL2 : Hid (L2.length ≤ 150) := hide (by rw [HMV.out.size]; exact HLL.out)
          have HOW2 := hide (owners_any HRa.out htI (by have := HL2.out; omega))
          obtain ⟨m, hm⟩ : ∃ m, byS L2 to_ = m := ⟨_, rfl⟩
          have HMS : Hid (SrtO m) := hide (by rw [← hm]; exact srt_byS HMV.out.ok.srt to_)
          have HMI : Hid (∀ o ∈ m, (o, to_) ∈ L2) := hide (fun o ho => by rw [← hm] at ho; exact mem_byS.1 ho)
          obtain ⟨nm, hnm⟩ : ∃ nm, m.length = nm := ⟨_, rfl⟩
          have HNM : Hid (nm = j + nt) := hide (by have := HMV.out.len; rw [hm, hos, hnm, hosl, hnt] at this; exact this)
          rw [hm] at HOW2
          go_wp2_with (go_at_call 20; refine HOW2.out.mono ?_; rintro e wA ⟨v3, rfl, hv3, hbA⟩; obtain ⟨ao3, cap3, g3, rfl, ho3⟩ := owns_at hv3 HRa.out.bd; have HO3 := hide ho3; have HBA := hide hbA; clear hv3 ho3 hbA)
          have HRb : Hid (Rf wA F2 b L2 none) := hide (HRa.out.below HBA.out)
          have HBb : Hid (Below w.heap.size w wA) := hide (HB7.out.trans (HBA.out.mono HB7.out.size))
          go_loopg [87] nm (fun k i wr => ∃ (i1 : Nat), i1 + k = nm ∧ i = .int .i64 (i1 : Int) ∧ Hid (Rf wr F2 b L2 none) ∧ Hid (OwnsAt F2 wr ao3 g3 m) ∧ Hid (Below w.heap.size w wr))
          case atStart => exact ⟨0, by omega, rfl, HRb, HO3, HBb⟩
          case round =>
            obtain ⟨i1, hi1, rfl, HRc, HOc, HBc⟩ := hrel
            cases gk with
            | zero =>
              have hie : i1 = nm := by omega
              subst hie
              have hnl4 : ¬ ((i1 : Nat) : Int) < (i1 : Int) := by omega
              have HcC2 := hide (count_any HRc.out hfI)
              rw [HMV.out.none_] at HcC2
              have HcL2 := hide (len_any HRc.out)
              rw [HMV.out.size] at HcL2
              have hni : ((i1 : Nat) : Int) = (j : Int) + (nt : Int) := by have := HNM.out; omega
              have hnb : (((i1 : Nat) : Int) == (j : Int) + (nt : Int)) = true := by simpa using hni
              clear hni
              go_wp2_with (first
                | (go_at_call 19; refine HcC2.out.mono ?_; rintro e wB ⟨rfl, rfl⟩)
                | (go_at_call 22; refine HcL2.out.mono ?_; rintro e wB ⟨rfl, rfl⟩; rw [hnl2])
                | (go_at_call 9; refine (awake_any _).mono ?_; rintro e wC ⟨rfl, hbC⟩; have HBC := hide hbC; clear hbC))
              go_ret
              exact ⟨rfl, HBc.out.trans (HBC.out.mono HBc.out.size)⟩
            | succ q =>
              have hlt : i1 < m.length := by omega
              have hlti : (i1 : Int) < (nm : Int) := by omega
              have hge : (0 : Int) ≤ (i1 : Int) := by omega
              obtain ⟨o, ho⟩ : ∃ o, m[i1]? = some o := ⟨m[i1], by simp [hlt]⟩
              obtain rfl := HOc.out.ad (by omega)
              obtain ⟨k1, k2⟩ := HOc.out.cells i1 o ho
              have hmo := HMI.out o (List.mem_of_getElem? ho)
              have hO : OkO o := HMV.out.ok.own _ hmo
              have HOF : Hid (ofS L2 o = to_) := hide (ofS_mem HMV.out.ok.srt hmo)
              have e4 : IntKind.i64.wrap ((i1 : Int) + 1) = (i1 : Int) + 1 := IntWalk.i64_in _ ⟨by omega, by have := HNM.out; omega⟩
              obtain ⟨x, hx⟩ : ∃ x, wr.heap.size = x := ⟨_, rfl⟩
              obtain ⟨w8, hw8⟩ : ∃ w8, wr.alloc (.cells #[.int .i64 o.1, .int .i64 o.2] 35) = w8 := ⟨_, rfl⟩
              have HBX : Hid (BoxO w8 x o) := hide (by rw [← hw8, ← hx]; exact boxO_new _ _ _)
              have HB8 : Hid (Below wr.heap.size wr w8) := hide (by rw [← hw8]; exact below_box _ _)
              have HS0 : Hid (S3 w F2 b L2 (some ⟨g3, 0, none⟩) g3 m x o w8) := hide ⟨HRc.out.below HB8.out, HOc.out.below HB8.out, HBX.out, HBc.out.trans (HB8.out.mono HBc.out.size)⟩
              have HSD := hide (HS0.out.below (below_drew0 w8))
              have HGO := hide ho
              clear ho hmo
              go_wp2_with fail
              by_cases hi0 : i1 = 0
              · subst hi0
                refine wp_region_held_drew (S := S3 w F2 b L2 (some ⟨g3, 0, none⟩) g3 m x o) (by kernel_rfl) HSD.out (fun hS => ?_)
                refine take_want 0 (some 92) (.pointer (some ⟨b, 0, none⟩)) rfl rfl rfl (by kernel_rfl) (by kernel_rfl) (by kernel_rfl) (fun _ _ _ h => h) (fun wx hx => exec_move rfl rfl) hS ?_
                simp only [Act.put, List.setIfInBounds_toArray, List.set_cons_zero, List.set_cons_succ]
                refine take_want 1 (some 93) (encO o) rfl rfl rfl (by kernel_rfl) (by kernel_rfl) (by kernel_rfl) (fun _ _ _ h => h) (fun wx hx => exec_load rfl hx.bx.load rfl) hS ?_
                simp only [Act.put, List.setIfInBounds_toArray, List.set_cons_zero, List.set_cons_succ]
                refine take_want 3 (some 95) (.int .i64 to_) rfl rfl rfl (by kernel_rfl) (by kernel_rfl) (by kernel_rfl) (fun _ _ _ h => h) (fun wx hx => exec_move rfl rfl) hS ?_
                simp only [Act.put, List.setIfInBounds_toArray, List.set_cons_zero, List.set_cons_succ]
                refine call_want 2 (some 94) rfl rfl rfl (by kernel_rfl) (exec_call2 rfl enterOf rfl rfl rfl) ((of_any (o := o) hS.rf hO).mono ?_)
                rintro e' w' ⟨rfl, hbw⟩
                have hS2 := hS.below hbw
                clear hbw
                rw [HOF.out]
                refine ⟨_, rfl, hS2, ?_⟩
                simp only [Act.put, List.setIfInBounds_toArray, List.set_cons_zero, List.set_cons_succ]
                refine take_want 4 (some 96) (.bool false) rfl rfl rfl (by kernel_rfl) (by kernel_rfl) (by kernel_rfl) (fun _ _ _ h => h) (fun wx hx => exec_neqN rfl rfl rfl rfl) hS2 ?_
                simp only [Act.put, List.setIfInBounds_toArray, List.set_cons_zero, List.set_cons_succ]
                refine take_want 5 (some 97) (.bool false) rfl rfl rfl (by kernel_rfl) (by kernel_rfl) (by kernel_rfl) (fun _ _ _ h => h) (fun wx hx => exec_move rfl rfl) hS2 ?_
                simp only [Act.put, List.setIfInBounds_toArray, List.set_cons_zero, List.set_cons_succ]
                refine take_want 6 (some 98) (.int .i64 ((0 : Nat) : Int)) rfl rfl rfl (by kernel_rfl) (by kernel_rfl) (by kernel_rfl) (fun _ _ _ h => h) (fun wx hx => exec_move rfl rfl) hS2 ?_
                simp only [Act.put, List.setIfInBounds_toArray, List.set_cons_zero, List.set_cons_succ]
                refine take_want 7 (some 99) (.bool false) rfl rfl rfl (by kernel_rfl) (by kernel_rfl) (by kernel_rfl) (fun _ _ _ h => h) (fun wx hx => exec_gtrF rfl rfl rfl (by omega)) hS2 ?_
                simp only [Act.put, List.setIfInBounds_toArray, List.set_cons_zero, List.set_cons_succ]
                refine take_want 8 (some 100) (.bool false) rfl rfl rfl (by kernel_rfl) (by kernel_rfl) (by kernel_rfl) (fun _ _ _ h => h) (fun wx hx => exec_move rfl rfl) hS2 ?_
                simp only [Act.put, List.setIfInBounds_toArray, List.set_cons_zero, List.set_cons_succ]
                refine skip_want 9 (some 101) rfl rfl rfl (by kernel_rfl) (by kernel_rfl) (by kernel_rfl) (fun _ _ _ h => h) hS2 ?_
                simp only [Act.put, List.setIfInBounds_toArray, List.set_cons_zero, List.set_cons_succ]
                refine skip_want 10 (some 102) rfl rfl rfl (by kernel_rfl) (by kernel_rfl) (by kernel_rfl) (fun _ _ _ h => h) hS2 ?_
                simp only [Act.put, List.setIfInBounds_toArray, List.set_cons_zero, List.set_cons_succ]
                refine skip_want 11 (some 103) rfl rfl rfl (by kernel_rfl) (by kernel_rfl) (by kernel_rfl) (fun _ _ _ h => h) hS2 ?_
                simp only [Act.put, List.setIfInBounds_toArray, List.set_cons_zero, List.set_cons_succ]
                refine skip_want 12 (some 104) rfl rfl rfl (by kernel_rfl) (by kernel_rfl) (by kernel_rfl) (fun _ _ _ h => h) hS2 ?_
                simp only [Act.put, List.setIfInBounds_toArray, List.set_cons_zero, List.set_cons_succ]
                refine skip_want 13 (some 105) rfl rfl rfl (by kernel_rfl) (by kernel_rfl) (by kernel_rfl) (fun _ _ _ h => h) hS2 ?_
                simp only [Act.put, List.setIfInBounds_toArray, List.set_cons_zero, List.set_cons_succ]
                refine skip_want 14 (some 106) rfl rfl rfl (by kernel_rfl) (by kernel_rfl) (by kernel_rfl) (fun _ _ _ h => h) hS2 ?_
                simp only [Act.put, List.setIfInBounds_toArray, List.set_cons_zero, List.set_cons_succ]
                refine skip_want 15 (some 107) rfl rfl rfl (by kernel_rfl) (by kernel_rfl) (by kernel_rfl) (fun _ _ _ h => h) hS2 ?_
                simp only [Act.put, List.setIfInBounds_toArray, List.set_cons_zero, List.set_cons_succ]
                refine skip_want 16 (some 108) rfl rfl rfl (by kernel_rfl) (by kernel_rfl) (by kernel_rfl) (fun _ _ _ h => h) hS2 ?_
                simp only [Act.put, List.setIfInBounds_toArray, List.set_cons_zero, List.set_cons_succ]
                refine skip_want 17 (some 109) rfl rfl rfl (by kernel_rfl) (by kernel_rfl) (by kernel_rfl) (fun _ _ _ h => h) hS2 ?_
                simp only [Act.put, List.setIfInBounds_toArray, List.set_cons_zero, List.set_cons_succ]
                refine skip_want 18 (some 110) rfl rfl rfl (by kernel_rfl) (by kernel_rfl) (by kernel_rfl) (fun _ _ _ h => h) hS2 ?_
                simp only [Act.put, List.setIfInBounds_toArray, List.set_cons_zero, List.set_cons_succ]
                refine skip_want 19 (some 111) rfl rfl rfl (by kernel_rfl) (by kernel_rfl) (by kernel_rfl) (fun _ _ _ h => h) hS2 ?_
                simp only [Act.put, List.setIfInBounds_toArray, List.set_cons_zero, List.set_cons_succ]
                refine skip_want 20 (some 112) rfl rfl rfl (by kernel_rfl) (by kernel_rfl) (by kernel_rfl) (fun _ _ _ h => h) hS2 ?_
                simp only [Act.put, List.setIfInBounds_toArray, List.set_cons_zero, List.set_cons_succ]
                refine skip_want 21 (some 113) rfl rfl rfl (by kernel_rfl) (by kernel_rfl) (by kernel_rfl) (fun _ _ _ h => h) hS2 ?_
                simp only [Act.put, List.setIfInBounds_toArray, List.set_cons_zero, List.set_cons_succ]
                refine skip_want 22 (some 114) rfl rfl rfl (by kernel_rfl) (by kernel_rfl) (by kernel_rfl) (fun _ _ _ h => h) hS2 ?_
                simp only [Act.put, List.setIfInBounds_toArray, List.set_cons_zero, List.set_cons_succ]
                refine skip_want 23 (some 115) rfl rfl rfl (by kernel_rfl) (by kernel_rfl) (by kernel_rfl) (fun _ _ _ h => h) hS2 ?_
                simp only [Act.put, List.setIfInBounds_toArray, List.set_cons_zero, List.set_cons_succ]
                refine skip_want 24 (some 116) rfl rfl rfl (by kernel_rfl) (by kernel_rfl) (by kernel_rfl) (fun _ _ _ h => h) hS2 ?_
                simp only [Act.put, List.setIfInBounds_toArray, List.set_cons_zero, List.set_cons_succ]
                refine skip_want 25 (some 117) rfl rfl rfl (by kernel_rfl) (by kernel_rfl) (by kernel_rfl) (fun _ _ _ h => h) hS2 ?_
                simp only [Act.put, List.setIfInBounds_toArray, List.set_cons_zero, List.set_cons_succ]
                refine skip_want 26 (some 118) rfl rfl rfl (by kernel_rfl) (by kernel_rfl) (by kernel_rfl) (fun _ _ _ h => h) hS2 ?_
                simp only [Act.put, List.setIfInBounds_toArray, List.set_cons_zero, List.set_cons_succ]
                refine skip_want 27 (some 119) rfl rfl rfl (by kernel_rfl) (by kernel_rfl) (by kernel_rfl) (fun _ _ _ h => h) hS2 ?_
                simp only [Act.put, List.setIfInBounds_toArray, List.set_cons_zero, List.set_cons_succ]
                refine skip_want 28 (some 120) rfl rfl rfl (by kernel_rfl) (by kernel_rfl) (by kernel_rfl) (fun _ _ _ h => h) hS2 ?_
                simp only [Act.put, List.setIfInBounds_toArray, List.set_cons_zero, List.set_cons_succ]
                refine skip_want 29 (some 121) rfl rfl rfl (by kernel_rfl) (by kernel_rfl) (by kernel_rfl) (fun _ _ _ h => h) hS2 ?_
                simp only [Act.put, List.setIfInBounds_toArray, List.set_cons_zero, List.set_cons_succ]
                refine skip_want 30 (some 122) rfl rfl rfl (by kernel_rfl) (by kernel_rfl) (by kernel_rfl) (fun _ _ _ h => h) hS2 ?_
                simp only [Act.put, List.setIfInBounds_toArray, List.set_cons_zero, List.set_cons_succ]
                refine skip_want 31 (some 123) rfl rfl rfl (by kernel_rfl) (by kernel_rfl) (by kernel_rfl) (fun _ _ _ h => h) hS2 ?_
                simp only [Act.put, List.setIfInBounds_toArray, List.set_cons_zero, List.set_cons_succ]
                refine skip_want 32 (some 124) rfl rfl rfl (by kernel_rfl) (by kernel_rfl) (by kernel_rfl) (fun _ _ _ h => h) hS2 ?_
                simp only [Act.put, List.setIfInBounds_toArray, List.set_cons_zero, List.set_cons_succ]
                refine skip_want 33 (some 125) rfl rfl rfl (by kernel_rfl) (by kernel_rfl) (by kernel_rfl) (fun _ _ _ h => h) hS2 ?_
                simp only [Act.put, List.setIfInBounds_toArray, List.set_cons_zero, List.set_cons_succ]
                refine skip_want 34 (some 126) rfl rfl rfl (by kernel_rfl) (by kernel_rfl) (by kernel_rfl) (fun _ _ _ h => h) hS2 ?_
                simp only [Act.put, List.setIfInBounds_toArray, List.set_cons_zero, List.set_cons_succ]
                refine skip_want 35 (some 127) rfl rfl rfl (by kernel_rfl) (by kernel_rfl) (by kernel_rfl) (fun _ _ _ h => h) hS2 ?_
                simp only [Act.put, List.setIfInBounds_toArray, List.set_cons_zero, List.set_cons_succ]
                refine skip_want 36 (some 128) rfl rfl rfl (by kernel_rfl) (by kernel_rfl) (by kernel_rfl) (fun _ _ _ h => h) hS2 ?_
                simp only [Act.put, List.setIfInBounds_toArray, List.set_cons_zero, List.set_cons_succ]
                refine skip_want 37 (some 129) rfl rfl rfl (by kernel_rfl) (by kernel_rfl) (by kernel_rfl) (fun _ _ _ h => h) hS2 ?_
                simp only [Act.put, List.setIfInBounds_toArray, List.set_cons_zero, List.set_cons_succ]
                refine skip_want 38 (some 130) rfl rfl rfl (by kernel_rfl) (by kernel_rfl) (by kernel_rfl) (fun _ _ _ h => h) hS2 ?_
                simp only [Act.put, List.setIfInBounds_toArray, List.set_cons_zero, List.set_cons_succ]
                refine skip_want 39 (some 131) rfl rfl rfl (by kernel_rfl) (by kernel_rfl) (by kernel_rfl) (fun _ _ _ h => h) hS2 ?_
                simp only [Act.put, List.setIfInBounds_toArray, List.set_cons_zero, List.set_cons_succ]
                refine take_want 40 (some 132) (.bool false) rfl rfl rfl (by kernel_rfl) (by kernel_rfl) (by kernel_rfl) (fun _ _ _ h => h) (fun wx hx => exec_pickF rfl rfl rfl) hS2 ?_
                simp only [Act.put, List.setIfInBounds_toArray, List.set_cons_zero, List.set_cons_succ]
                refine take_want 41 (some 133) (.bool false) rfl rfl rfl (by kernel_rfl) (by kernel_rfl) (by kernel_rfl) (fun _ _ _ h => h) (fun wx hx => exec_pickF rfl rfl rfl) hS2 ?_
                simp only [Act.put, List.setIfInBounds_toArray, List.set_cons_zero, List.set_cons_succ]
                refine wpAnyH_done (by kernel_rfl) ?_ _
                go_wp2_with fail
                go_roundg q
                case measure => omega
                case rel => exact ⟨0 + 1, by omega, by go_num, hide hS2.rf, hide hS2.os, hide hS2.bel⟩
              · obtain ⟨i0, rfl⟩ : ∃ i0, i1 = i0 + 1 := ⟨i1 - 1, by omega⟩
                obtain ⟨p, hp⟩ : ∃ p, m[i0]? = some p := ⟨m[i0]'(by omega), by rw [List.getElem?_eq_getElem]⟩
                have HPV := hide hp
                have hi0 : i0 < nm := by omega
                have hlt2 : ltO p o = true := by
                  obtain ⟨h1, rfl⟩ := List.getElem?_eq_some_iff.1 HPV.out
                  obtain ⟨h2, rfl⟩ := List.getElem?_eq_some_iff.1 HGO.out
                  exact List.pairwise_iff_getElem.1 HMS.out i0 (i0 + 1) h1 h2 (by omega)
                rw [ltO_iff] at hlt2
                have hbig : nm < 1000 := by have := HNM.out; omega
                by_cases hpe : p.1 = o.1
                · have hpb : p.2 < o.2 := by omega
                  refine wp_region_held_drew (S := S3 w F2 b L2 (some ⟨g3, 0, none⟩) g3 m x o) (by kernel_rfl) HSD.out (fun hS => ?_)
                  refine take_want 0 (some 92) (.pointer (some ⟨b, 0, none⟩)) rfl rfl rfl (by kernel_rfl) (by kernel_rfl) (by kernel_rfl) (fun _ _ _ h => h) (fun wx hx => exec_move rfl rfl) hS ?_
                  simp only [Act.put, List.setIfInBounds_toArray, List.set_cons_zero, List.set_cons_succ]
                  refine take_want 1 (some 93) (encO o) rfl rfl rfl (by kernel_rfl) (by kernel_rfl) (by kernel_rfl) (fun _ _ _ h => h) (fun wx hx => exec_load rfl hx.bx.load rfl) hS ?_
                  simp only [Act.put, List.setIfInBounds_toArray, List.set_cons_zero, List.set_cons_succ]
                  refine take_want 3 (some 95) (.int .i64 to_) rfl rfl rfl (by kernel_rfl) (by kernel_rfl) (by kernel_rfl) (fun _ _ _ h => h) (fun wx hx => exec_move rfl rfl) hS ?_
                  simp only [Act.put, List.setIfInBounds_toArray, List.set_cons_zero, List.set_cons_succ]
                  refine call_want 2 (some 94) rfl rfl rfl (by kernel_rfl) (exec_call2 rfl enterOf rfl rfl rfl) ((of_any (o := o) hS.rf hO).mono ?_)
                  rintro e' w' ⟨rfl, hbw⟩
                  have hS2 := hS.below hbw
                  clear hbw
                  rw [HOF.out]
                  refine ⟨_, rfl, hS2, ?_⟩
                  simp only [Act.put, List.setIfInBounds_toArray, List.set_cons_zero, List.set_cons_succ]
                  refine take_want 4 (some 96) (.bool false) rfl rfl rfl (by kernel_rfl) (by kernel_rfl) (by kernel_rfl) (fun _ _ _ h => h) (fun wx hx => exec_neqN rfl rfl rfl rfl) hS2 ?_
                  simp only [Act.put, List.setIfInBounds_toArray, List.set_cons_zero, List.set_cons_succ]
                  refine take_want 5 (some 97) (.bool false) rfl rfl rfl (by kernel_rfl) (by kernel_rfl) (by kernel_rfl) (fun _ _ _ h => h) (fun wx hx => exec_move rfl rfl) hS2 ?_
                  simp only [Act.put, List.setIfInBounds_toArray, List.set_cons_zero, List.set_cons_succ]
                  refine take_want 6 (some 98) (.int .i64 ((i0 + 1 : Nat) : Int)) rfl rfl rfl (by kernel_rfl) (by kernel_rfl) (by kernel_rfl) (fun _ _ _ h => h) (fun wx hx => exec_move rfl rfl) hS2 ?_
                  simp only [Act.put, List.setIfInBounds_toArray, List.set_cons_zero, List.set_cons_succ]
                  refine take_want 7 (some 99) (.bool true) rfl rfl rfl (by kernel_rfl) (by kernel_rfl) (by kernel_rfl) (fun _ _ _ h => h) (fun wx hx => exec_gtrT rfl rfl rfl (by omega)) hS2 ?_
                  simp only [Act.put, List.setIfInBounds_toArray, List.set_cons_zero, List.set_cons_succ]
                  refine take_want 8 (some 100) (.bool true) rfl rfl rfl (by kernel_rfl) (by kernel_rfl) (by kernel_rfl) (fun _ _ _ h => h) (fun wx hx => exec_move rfl rfl) hS2 ?_
                  simp only [Act.put, List.setIfInBounds_toArray, List.set_cons_zero, List.set_cons_succ]
                  refine take_want 9 (some 101) (.slice (some ⟨g3, 0, none⟩) nm cap3) rfl rfl rfl (by kernel_rfl) (by kernel_rfl) (by kernel_rfl) (fun _ _ _ h => h) (fun wx hx => exec_move rfl rfl) hS2 ?_
                  simp only [Act.put, List.setIfInBounds_toArray, List.set_cons_zero, List.set_cons_succ]
                  refine take_want 10 (some 102) (.int .i64 ((i0 + 1 : Nat) : Int)) rfl rfl rfl (by kernel_rfl) (by kernel_rfl) (by kernel_rfl) (fun _ _ _ h => h) (fun wx hx => exec_move rfl rfl) hS2 ?_
                  simp only [Act.put, List.setIfInBounds_toArray, List.set_cons_zero, List.set_cons_succ]
                  refine take_want 11 (some 103) (.int .i64 (i0 : Int)) rfl rfl rfl (by kernel_rfl) (by kernel_rfl) (by kernel_rfl) (fun _ _ _ h => h) (fun wx hx => exec_subN rfl rfl rfl (by omega) (by omega) (by omega)) hS2 ?_
                  simp only [Act.put, List.setIfInBounds_toArray, List.set_cons_zero, List.set_cons_succ]
                  refine take_want 12 (some 104) (.pointer (some ⟨g3, i0 * 2, none⟩)) rfl rfl rfl (by kernel_rfl) (by kernel_rfl) (by kernel_rfl) (fun _ _ _ h => h) (fun wx hx => exec_index rfl (index_owners hi0) rfl rfl) hS2 ?_
                  simp only [Act.put, List.setIfInBounds_toArray, List.set_cons_zero, List.set_cons_succ]
                  refine take_want 13 (some 105) (.pointer (some ⟨g3, i0 * 2, none⟩)) rfl rfl rfl (by kernel_rfl) (by kernel_rfl) (by kernel_rfl) (fun _ _ _ h => h) (fun wx hx => exec_field rfl (fldP0 _ _ wx) rfl) hS2 ?_
                  simp only [Act.put, List.setIfInBounds_toArray, List.set_cons_zero, List.set_cons_succ]
                  refine take_want 14 (some 106) (.int .i64 p.1) rfl rfl rfl (by kernel_rfl) (by kernel_rfl) (by kernel_rfl) (fun _ _ _ h => h) (fun wx hx => exec_load rfl (load_intV (hx.os.cells i0 p HPV.out).1) rfl) hS2 ?_
                  simp only [Act.put, List.setIfInBounds_toArray, List.set_cons_zero, List.set_cons_succ]
                  refine take_want 15 (some 107) (.pointer (some ⟨x, 0, none⟩)) rfl rfl rfl (by kernel_rfl) (by kernel_rfl) (by kernel_rfl) (fun _ _ _ h => h) (fun wx hx => exec_field rfl (fldO0 _ wx) rfl) hS2 ?_
                  simp only [Act.put, List.setIfInBounds_toArray, List.set_cons_zero, List.set_cons_succ]
                  refine take_want 16 (some 108) (.int .i64 o.1) rfl rfl rfl (by kernel_rfl) (by kernel_rfl) (by kernel_rfl) (fun _ _ _ h => h) (fun wx hx => exec_load rfl (load_intV hx.bx.1) rfl) hS2 ?_
                  simp only [Act.put, List.setIfInBounds_toArray, List.set_cons_zero, List.set_cons_succ]
                  refine take_want 17 (some 109) (.bool false) rfl rfl rfl (by kernel_rfl) (by kernel_rfl) (by kernel_rfl) (fun _ _ _ h => h) (fun wx hx => exec_gtrF rfl rfl rfl (by omega)) hS2 ?_
                  simp only [Act.put, List.setIfInBounds_toArray, List.set_cons_zero, List.set_cons_succ]
                  refine take_want 18 (some 110) (.bool false) rfl rfl rfl (by kernel_rfl) (by kernel_rfl) (by kernel_rfl) (fun _ _ _ h => h) (fun wx hx => exec_move rfl rfl) hS2 ?_
                  simp only [Act.put, List.setIfInBounds_toArray, List.set_cons_zero, List.set_cons_succ]
                  refine take_want 19 (some 111) (.slice (some ⟨g3, 0, none⟩) nm cap3) rfl rfl rfl (by kernel_rfl) (by kernel_rfl) (by kernel_rfl) (fun _ _ _ h => h) (fun wx hx => exec_move rfl rfl) hS2 ?_
                  simp only [Act.put, List.setIfInBounds_toArray, List.set_cons_zero, List.set_cons_succ]
                  refine take_want 20 (some 112) (.int .i64 ((i0 + 1 : Nat) : Int)) rfl rfl rfl (by kernel_rfl) (by kernel_rfl) (by kernel_rfl) (fun _ _ _ h => h) (fun wx hx => exec_move rfl rfl) hS2 ?_
                  simp only [Act.put, List.setIfInBounds_toArray, List.set_cons_zero, List.set_cons_succ]
                  refine take_want 21 (some 113) (.int .i64 (i0 : Int)) rfl rfl rfl (by kernel_rfl) (by kernel_rfl) (by kernel_rfl) (fun _ _ _ h => h) (fun wx hx => exec_subN rfl rfl rfl (by omega) (by omega) (by omega)) hS2 ?_
                  simp only [Act.put, List.setIfInBounds_toArray, List.set_cons_zero, List.set_cons_succ]
                  refine take_want 22 (some 114) (.pointer (some ⟨g3, i0 * 2, none⟩)) rfl rfl rfl (by kernel_rfl) (by kernel_rfl) (by kernel_rfl) (fun _ _ _ h => h) (fun wx hx => exec_index rfl (index_owners hi0) rfl rfl) hS2 ?_
                  simp only [Act.put, List.setIfInBounds_toArray, List.set_cons_zero, List.set_cons_succ]
                  refine take_want 23 (some 115) (.pointer (some ⟨g3, i0 * 2, none⟩)) rfl rfl rfl (by kernel_rfl) (by kernel_rfl) (by kernel_rfl) (fun _ _ _ h => h) (fun wx hx => exec_field rfl (fldP0 _ _ wx) rfl) hS2 ?_
                  simp only [Act.put, List.setIfInBounds_toArray, List.set_cons_zero, List.set_cons_succ]
                  refine take_want 24 (some 116) (.int .i64 p.1) rfl rfl rfl (by kernel_rfl) (by kernel_rfl) (by kernel_rfl) (fun _ _ _ h => h) (fun wx hx => exec_load rfl (load_intV (hx.os.cells i0 p HPV.out).1) rfl) hS2 ?_
                  simp only [Act.put, List.setIfInBounds_toArray, List.set_cons_zero, List.set_cons_succ]
                  refine take_want 25 (some 117) (.pointer (some ⟨x, 0, none⟩)) rfl rfl rfl (by kernel_rfl) (by kernel_rfl) (by kernel_rfl) (fun _ _ _ h => h) (fun wx hx => exec_field rfl (fldO0 _ wx) rfl) hS2 ?_
                  simp only [Act.put, List.setIfInBounds_toArray, List.set_cons_zero, List.set_cons_succ]
                  refine take_want 26 (some 118) (.int .i64 o.1) rfl rfl rfl (by kernel_rfl) (by kernel_rfl) (by kernel_rfl) (fun _ _ _ h => h) (fun wx hx => exec_load rfl (load_intV hx.bx.1) rfl) hS2 ?_
                  simp only [Act.put, List.setIfInBounds_toArray, List.set_cons_zero, List.set_cons_succ]
                  refine take_want 27 (some 119) (.bool true) rfl rfl rfl (by kernel_rfl) (by kernel_rfl) (by kernel_rfl) (fun _ _ _ h => h) (fun wx hx => exec_eqlNT rfl rfl rfl (by omega)) hS2 ?_
                  simp only [Act.put, List.setIfInBounds_toArray, List.set_cons_zero, List.set_cons_succ]
                  refine take_want 28 (some 120) (.bool true) rfl rfl rfl (by kernel_rfl) (by kernel_rfl) (by kernel_rfl) (fun _ _ _ h => h) (fun wx hx => exec_move rfl rfl) hS2 ?_
                  simp only [Act.put, List.setIfInBounds_toArray, List.set_cons_zero, List.set_cons_succ]
                  refine take_want 29 (some 121) (.slice (some ⟨g3, 0, none⟩) nm cap3) rfl rfl rfl (by kernel_rfl) (by kernel_rfl) (by kernel_rfl) (fun _ _ _ h => h) (fun wx hx => exec_move rfl rfl) hS2 ?_
                  simp only [Act.put, List.setIfInBounds_toArray, List.set_cons_zero, List.set_cons_succ]
                  refine take_want 30 (some 122) (.int .i64 ((i0 + 1 : Nat) : Int)) rfl rfl rfl (by kernel_rfl) (by kernel_rfl) (by kernel_rfl) (fun _ _ _ h => h) (fun wx hx => exec_move rfl rfl) hS2 ?_
                  simp only [Act.put, List.setIfInBounds_toArray, List.set_cons_zero, List.set_cons_succ]
                  refine take_want 31 (some 123) (.int .i64 (i0 : Int)) rfl rfl rfl (by kernel_rfl) (by kernel_rfl) (by kernel_rfl) (fun _ _ _ h => h) (fun wx hx => exec_subN rfl rfl rfl (by omega) (by omega) (by omega)) hS2 ?_
                  simp only [Act.put, List.setIfInBounds_toArray, List.set_cons_zero, List.set_cons_succ]
                  refine take_want 32 (some 124) (.pointer (some ⟨g3, i0 * 2, none⟩)) rfl rfl rfl (by kernel_rfl) (by kernel_rfl) (by kernel_rfl) (fun _ _ _ h => h) (fun wx hx => exec_index rfl (index_owners hi0) rfl rfl) hS2 ?_
                  simp only [Act.put, List.setIfInBounds_toArray, List.set_cons_zero, List.set_cons_succ]
                  refine take_want 33 (some 125) (.pointer (some ⟨g3, i0 * 2 + 1, none⟩)) rfl rfl rfl (by kernel_rfl) (by kernel_rfl) (by kernel_rfl) (fun _ _ _ h => h) (fun wx hx => exec_field rfl (fldP1 _ _ wx) rfl) hS2 ?_
                  simp only [Act.put, List.setIfInBounds_toArray, List.set_cons_zero, List.set_cons_succ]
                  refine take_want 34 (some 126) (.int .i64 p.2) rfl rfl rfl (by kernel_rfl) (by kernel_rfl) (by kernel_rfl) (fun _ _ _ h => h) (fun wx hx => exec_load rfl (load_intV (hx.os.cells i0 p HPV.out).2) rfl) hS2 ?_
                  simp only [Act.put, List.setIfInBounds_toArray, List.set_cons_zero, List.set_cons_succ]
                  refine take_want 35 (some 127) (.pointer (some ⟨x, 1, none⟩)) rfl rfl rfl (by kernel_rfl) (by kernel_rfl) (by kernel_rfl) (fun _ _ _ h => h) (fun wx hx => exec_field rfl (fldO1 _ wx) rfl) hS2 ?_
                  simp only [Act.put, List.setIfInBounds_toArray, List.set_cons_zero, List.set_cons_succ]
                  refine take_want 36 (some 128) (.int .i64 o.2) rfl rfl rfl (by kernel_rfl) (by kernel_rfl) (by kernel_rfl) (fun _ _ _ h => h) (fun wx hx => exec_load rfl (load_intV hx.bx.2) rfl) hS2 ?_
                  simp only [Act.put, List.setIfInBounds_toArray, List.set_cons_zero, List.set_cons_succ]
                  refine take_want 37 (some 129) (.bool false) rfl rfl rfl (by kernel_rfl) (by kernel_rfl) (by kernel_rfl) (fun _ _ _ h => h) (fun wx hx => exec_geqF rfl rfl rfl (by omega)) hS2 ?_
                  simp only [Act.put, List.setIfInBounds_toArray, List.set_cons_zero, List.set_cons_succ]
                  refine take_want 38 (some 130) (.bool false) rfl rfl rfl (by kernel_rfl) (by kernel_rfl) (by kernel_rfl) (fun _ _ _ h => h) (fun wx hx => exec_pickT rfl rfl rfl) hS2 ?_
                  simp only [Act.put, List.setIfInBounds_toArray, List.set_cons_zero, List.set_cons_succ]
                  refine take_want 39 (some 131) (.bool false) rfl rfl rfl (by kernel_rfl) (by kernel_rfl) (by kernel_rfl) (fun _ _ _ h => h) (fun wx hx => exec_pickF rfl rfl rfl) hS2 ?_
                  simp only [Act.put, List.setIfInBounds_toArray, List.set_cons_zero, List.set_cons_succ]
                  refine take_want 40 (some 132) (.bool false) rfl rfl rfl (by kernel_rfl) (by kernel_rfl) (by kernel_rfl) (fun _ _ _ h => h) (fun wx hx => exec_pickT rfl rfl rfl) hS2 ?_
                  simp only [Act.put, List.setIfInBounds_toArray, List.set_cons_zero, List.set_cons_succ]
                  refine take_want 41 (some 133) (.bool false) rfl rfl rfl (by kernel_rfl) (by kernel_rfl) (by kernel_rfl) (fun _ _ _ h => h) (fun wx hx => exec_pickF rfl rfl rfl) hS2 ?_
                  simp only [Act.put, List.setIfInBounds_toArray, List.set_cons_zero, List.set_cons_succ]
                  refine wpAnyH_done (by kernel_rfl) ?_ _
                  go_wp2_with fail
                  go_roundg q
                  case measure => omega
                  case rel => exact ⟨i0 + 1 + 1, by omega, by go_num, hide hS2.rf, hide hS2.os, hide hS2.bel⟩
                · have hpb : p.1 < o.1 := by omega
                  refine wp_region_held_drew (S := S3 w F2 b L2 (some ⟨g3, 0, none⟩) g3 m x o) (by kernel_rfl) HSD.out (fun hS => ?_)
                  refine take_want 0 (some 92) (.pointer (some ⟨b, 0, none⟩)) rfl rfl rfl (by kernel_rfl) (by kernel_rfl) (by kernel_rfl) (fun _ _ _ h => h) (fun wx hx => exec_move rfl rfl) hS ?_
                  simp only [Act.put, List.setIfInBounds_toArray, List.set_cons_zero, List.set_cons_succ]
                  refine take_want 1 (some 93) (encO o) rfl rfl rfl (by kernel_rfl) (by kernel_rfl) (by kernel_rfl) (fun _ _ _ h => h) (fun wx hx => exec_load rfl hx.bx.load rfl) hS ?_
                  simp only [Act.put, List.setIfInBounds_toArray, List.set_cons_zero, List.set_cons_succ]
                  refine take_want 3 (some 95) (.int .i64 to_) rfl rfl rfl (by kernel_rfl) (by kernel_rfl) (by kernel_rfl) (fun _ _ _ h => h) (fun wx hx => exec_move rfl rfl) hS ?_
                  simp only [Act.put, List.setIfInBounds_toArray, List.set_cons_zero, List.set_cons_succ]
                  refine call_want 2 (some 94) rfl rfl rfl (by kernel_rfl) (exec_call2 rfl enterOf rfl rfl rfl) ((of_any (o := o) hS.rf hO).mono ?_)
                  rintro e' w' ⟨rfl, hbw⟩
                  have hS2 := hS.below hbw
                  clear hbw
                  rw [HOF.out]
                  refine ⟨_, rfl, hS2, ?_⟩
                  simp only [Act.put, List.setIfInBounds_toArray, List.set_cons_zero, List.set_cons_succ]
                  refine take_want 4 (some 96) (.bool false) rfl rfl rfl (by kernel_rfl) (by kernel_rfl) (by kernel_rfl) (fun _ _ _ h => h) (fun wx hx => exec_neqN rfl rfl rfl rfl) hS2 ?_
                  simp only [Act.put, List.setIfInBounds_toArray, List.set_cons_zero, List.set_cons_succ]
                  refine take_want 5 (some 97) (.bool false) rfl rfl rfl (by kernel_rfl) (by kernel_rfl) (by kernel_rfl) (fun _ _ _ h => h) (fun wx hx => exec_move rfl rfl) hS2 ?_
                  simp only [Act.put, List.setIfInBounds_toArray, List.set_cons_zero, List.set_cons_succ]
                  refine take_want 6 (some 98) (.int .i64 ((i0 + 1 : Nat) : Int)) rfl rfl rfl (by kernel_rfl) (by kernel_rfl) (by kernel_rfl) (fun _ _ _ h => h) (fun wx hx => exec_move rfl rfl) hS2 ?_
                  simp only [Act.put, List.setIfInBounds_toArray, List.set_cons_zero, List.set_cons_succ]
                  refine take_want 7 (some 99) (.bool true) rfl rfl rfl (by kernel_rfl) (by kernel_rfl) (by kernel_rfl) (fun _ _ _ h => h) (fun wx hx => exec_gtrT rfl rfl rfl (by omega)) hS2 ?_
                  simp only [Act.put, List.setIfInBounds_toArray, List.set_cons_zero, List.set_cons_succ]
                  refine take_want 8 (some 100) (.bool true) rfl rfl rfl (by kernel_rfl) (by kernel_rfl) (by kernel_rfl) (fun _ _ _ h => h) (fun wx hx => exec_move rfl rfl) hS2 ?_
                  simp only [Act.put, List.setIfInBounds_toArray, List.set_cons_zero, List.set_cons_succ]
                  refine take_want 9 (some 101) (.slice (some ⟨g3, 0, none⟩) nm cap3) rfl rfl rfl (by kernel_rfl) (by kernel_rfl) (by kernel_rfl) (fun _ _ _ h => h) (fun wx hx => exec_move rfl rfl) hS2 ?_
                  simp only [Act.put, List.setIfInBounds_toArray, List.set_cons_zero, List.set_cons_succ]
                  refine take_want 10 (some 102) (.int .i64 ((i0 + 1 : Nat) : Int)) rfl rfl rfl (by kernel_rfl) (by kernel_rfl) (by kernel_rfl) (fun _ _ _ h => h) (fun wx hx => exec_move rfl rfl) hS2 ?_
                  simp only [Act.put, List.setIfInBounds_toArray, List.set_cons_zero, List.set_cons_succ]
                  refine take_want 11 (some 103) (.int .i64 (i0 : Int)) rfl rfl rfl (by kernel_rfl) (by kernel_rfl) (by kernel_rfl) (fun _ _ _ h => h) (fun wx hx => exec_subN rfl rfl rfl (by omega) (by omega) (by omega)) hS2 ?_
                  simp only [Act.put, List.setIfInBounds_toArray, List.set_cons_zero, List.set_cons_succ]
                  refine take_want 12 (some 104) (.pointer (some ⟨g3, i0 * 2, none⟩)) rfl rfl rfl (by kernel_rfl) (by kernel_rfl) (by kernel_rfl) (fun _ _ _ h => h) (fun wx hx => exec_index rfl (index_owners hi0) rfl rfl) hS2 ?_
                  simp only [Act.put, List.setIfInBounds_toArray, List.set_cons_zero, List.set_cons_succ]
                  refine take_want 13 (some 105) (.pointer (some ⟨g3, i0 * 2, none⟩)) rfl rfl rfl (by kernel_rfl) (by kernel_rfl) (by kernel_rfl) (fun _ _ _ h => h) (fun wx hx => exec_field rfl (fldP0 _ _ wx) rfl) hS2 ?_
                  simp only [Act.put, List.setIfInBounds_toArray, List.set_cons_zero, List.set_cons_succ]
                  refine take_want 14 (some 106) (.int .i64 p.1) rfl rfl rfl (by kernel_rfl) (by kernel_rfl) (by kernel_rfl) (fun _ _ _ h => h) (fun wx hx => exec_load rfl (load_intV (hx.os.cells i0 p HPV.out).1) rfl) hS2 ?_
                  simp only [Act.put, List.setIfInBounds_toArray, List.set_cons_zero, List.set_cons_succ]
                  refine take_want 15 (some 107) (.pointer (some ⟨x, 0, none⟩)) rfl rfl rfl (by kernel_rfl) (by kernel_rfl) (by kernel_rfl) (fun _ _ _ h => h) (fun wx hx => exec_field rfl (fldO0 _ wx) rfl) hS2 ?_
                  simp only [Act.put, List.setIfInBounds_toArray, List.set_cons_zero, List.set_cons_succ]
                  refine take_want 16 (some 108) (.int .i64 o.1) rfl rfl rfl (by kernel_rfl) (by kernel_rfl) (by kernel_rfl) (fun _ _ _ h => h) (fun wx hx => exec_load rfl (load_intV hx.bx.1) rfl) hS2 ?_
                  simp only [Act.put, List.setIfInBounds_toArray, List.set_cons_zero, List.set_cons_succ]
                  refine take_want 17 (some 109) (.bool false) rfl rfl rfl (by kernel_rfl) (by kernel_rfl) (by kernel_rfl) (fun _ _ _ h => h) (fun wx hx => exec_gtrF rfl rfl rfl (by omega)) hS2 ?_
                  simp only [Act.put, List.setIfInBounds_toArray, List.set_cons_zero, List.set_cons_succ]
                  refine take_want 18 (some 110) (.bool false) rfl rfl rfl (by kernel_rfl) (by kernel_rfl) (by kernel_rfl) (fun _ _ _ h => h) (fun wx hx => exec_move rfl rfl) hS2 ?_
                  simp only [Act.put, List.setIfInBounds_toArray, List.set_cons_zero, List.set_cons_succ]
                  refine take_want 19 (some 111) (.slice (some ⟨g3, 0, none⟩) nm cap3) rfl rfl rfl (by kernel_rfl) (by kernel_rfl) (by kernel_rfl) (fun _ _ _ h => h) (fun wx hx => exec_move rfl rfl) hS2 ?_
                  simp only [Act.put, List.setIfInBounds_toArray, List.set_cons_zero, List.set_cons_succ]
                  refine take_want 20 (some 112) (.int .i64 ((i0 + 1 : Nat) : Int)) rfl rfl rfl (by kernel_rfl) (by kernel_rfl) (by kernel_rfl) (fun _ _ _ h => h) (fun wx hx => exec_move rfl rfl) hS2 ?_
                  simp only [Act.put, List.setIfInBounds_toArray, List.set_cons_zero, List.set_cons_succ]
                  refine take_want 21 (some 113) (.int .i64 (i0 : Int)) rfl rfl rfl (by kernel_rfl) (by kernel_rfl) (by kernel_rfl) (fun _ _ _ h => h) (fun wx hx => exec_subN rfl rfl rfl (by omega) (by omega) (by omega)) hS2 ?_
                  simp only [Act.put, List.setIfInBounds_toArray, List.set_cons_zero, List.set_cons_succ]
                  refine take_want 22 (some 114) (.pointer (some ⟨g3, i0 * 2, none⟩)) rfl rfl rfl (by kernel_rfl) (by kernel_rfl) (by kernel_rfl) (fun _ _ _ h => h) (fun wx hx => exec_index rfl (index_owners hi0) rfl rfl) hS2 ?_
                  simp only [Act.put, List.setIfInBounds_toArray, List.set_cons_zero, List.set_cons_succ]
                  refine take_want 23 (some 115) (.pointer (some ⟨g3, i0 * 2, none⟩)) rfl rfl rfl (by kernel_rfl) (by kernel_rfl) (by kernel_rfl) (fun _ _ _ h => h) (fun wx hx => exec_field rfl (fldP0 _ _ wx) rfl) hS2 ?_
                  simp only [Act.put, List.setIfInBounds_toArray, List.set_cons_zero, List.set_cons_succ]
                  refine take_want 24 (some 116) (.int .i64 p.1) rfl rfl rfl (by kernel_rfl) (by kernel_rfl) (by kernel_rfl) (fun _ _ _ h => h) (fun wx hx => exec_load rfl (load_intV (hx.os.cells i0 p HPV.out).1) rfl) hS2 ?_
                  simp only [Act.put, List.setIfInBounds_toArray, List.set_cons_zero, List.set_cons_succ]
                  refine take_want 25 (some 117) (.pointer (some ⟨x, 0, none⟩)) rfl rfl rfl (by kernel_rfl) (by kernel_rfl) (by kernel_rfl) (fun _ _ _ h => h) (fun wx hx => exec_field rfl (fldO0 _ wx) rfl) hS2 ?_
                  simp only [Act.put, List.setIfInBounds_toArray, List.set_cons_zero, List.set_cons_succ]
                  refine take_want 26 (some 118) (.int .i64 o.1) rfl rfl rfl (by kernel_rfl) (by kernel_rfl) (by kernel_rfl) (fun _ _ _ h => h) (fun wx hx => exec_load rfl (load_intV hx.bx.1) rfl) hS2 ?_
                  simp only [Act.put, List.setIfInBounds_toArray, List.set_cons_zero, List.set_cons_succ]
                  refine take_want 27 (some 119) (.bool false) rfl rfl rfl (by kernel_rfl) (by kernel_rfl) (by kernel_rfl) (fun _ _ _ h => h) (fun wx hx => exec_eqlNF rfl rfl rfl (by omega)) hS2 ?_
                  simp only [Act.put, List.setIfInBounds_toArray, List.set_cons_zero, List.set_cons_succ]
                  refine take_want 28 (some 120) (.bool false) rfl rfl rfl (by kernel_rfl) (by kernel_rfl) (by kernel_rfl) (fun _ _ _ h => h) (fun wx hx => exec_move rfl rfl) hS2 ?_
                  simp only [Act.put, List.setIfInBounds_toArray, List.set_cons_zero, List.set_cons_succ]
                  refine skip_want 29 (some 121) rfl rfl rfl (by kernel_rfl) (by kernel_rfl) (by kernel_rfl) (fun _ _ _ h => h) hS2 ?_
                  simp only [Act.put, List.setIfInBounds_toArray, List.set_cons_zero, List.set_cons_succ]
                  refine skip_want 30 (some 122) rfl rfl rfl (by kernel_rfl) (by kernel_rfl) (by kernel_rfl) (fun _ _ _ h => h) hS2 ?_
                  simp only [Act.put, List.setIfInBounds_toArray, List.set_cons_zero, List.set_cons_succ]
                  refine skip_want 31 (some 123) rfl rfl rfl (by kernel_rfl) (by kernel_rfl) (by kernel_rfl) (fun _ _ _ h => h) hS2 ?_
                  simp only [Act.put, List.setIfInBounds_toArray, List.set_cons_zero, List.set_cons_succ]
                  refine skip_want 32 (some 124) rfl rfl rfl (by kernel_rfl) (by kernel_rfl) (by kernel_rfl) (fun _ _ _ h => h) hS2 ?_
                  simp only [Act.put, List.setIfInBounds_toArray, List.set_cons_zero, List.set_cons_succ]
                  refine skip_want 33 (some 125) rfl rfl rfl (by kernel_rfl) (by kernel_rfl) (by kernel_rfl) (fun _ _ _ h => h) hS2 ?_
                  simp only [Act.put, List.setIfInBounds_toArray, List.set_cons_zero, List.set_cons_succ]
                  refine skip_want 34 (some 126) rfl rfl rfl (by kernel_rfl) (by kernel_rfl) (by kernel_rfl) (fun _ _ _ h => h) hS2 ?_
                  simp only [Act.put, List.setIfInBounds_toArray, List.set_cons_zero, List.set_cons_succ]
                  refine skip_want 35 (some 127) rfl rfl rfl (by kernel_rfl) (by kernel_rfl) (by kernel_rfl) (fun _ _ _ h => h) hS2 ?_
                  simp only [Act.put, List.setIfInBounds_toArray, List.set_cons_zero, List.set_cons_succ]
                  refine skip_want 36 (some 128) rfl rfl rfl (by kernel_rfl) (by kernel_rfl) (by kernel_rfl) (fun _ _ _ h => h) hS2 ?_
                  simp only [Act.put, List.setIfInBounds_toArray, List.set_cons_zero, List.set_cons_succ]
                  refine skip_want 37 (some 129) rfl rfl rfl (by kernel_rfl) (by kernel_rfl) (by kernel_rfl) (fun _ _ _ h => h) hS2 ?_
                  simp only [Act.put, List.setIfInBounds_toArray, List.set_cons_zero, List.set_cons_succ]
                  refine take_want 38 (some 130) (.bool false) rfl rfl rfl (by kernel_rfl) (by kernel_rfl) (by kernel_rfl) (fun _ _ _ h => h) (fun wx hx => exec_pickF rfl rfl rfl) hS2 ?_
                  simp only [Act.put, List.setIfInBounds_toArray, List.set_cons_zero, List.set_cons_succ]
                  refine take_want 39 (some 131) (.bool false) rfl rfl rfl (by kernel_rfl) (by kernel_rfl) (by kernel_rfl) (fun _ _ _ h => h) (fun wx hx => exec_pickF rfl rfl rfl) hS2 ?_
                  simp only [Act.put, List.setIfInBounds_toArray, List.set_cons_zero, List.set_cons_succ]
                  refine take_want 40 (some 132) (.bool false) rfl rfl rfl (by kernel_rfl) (by kernel_rfl) (by kernel_rfl) (fun _ _ _ h => h) (fun wx hx => exec_pickT rfl rfl rfl) hS2 ?_
                  simp only [Act.put, List.setIfInBounds_toArray, List.set_cons_zero, List.set_cons_succ]
                  refine take_want 41 (some 133) (.bool false) rfl rfl rfl (by kernel_rfl) (by kernel_rfl) (by kernel_rfl) (fun _ _ _ h => h) (fun wx hx => exec_pickF rfl rfl rfl) hS2 ?_
                  simp only [Act.put, List.setIfInBounds_toArray, List.set_cons_zero, List.set_cons_succ]
                  refine wpAnyH_done (by kernel_rfl) ?_ _
                  go_wp2_with fail
                  go_roundg q
                  case measure => omega
                  case rel => exact ⟨i0 + 1 + 1, by omega, by go_num, hide hS2.rf, hide hS2.os, hide hS2.bel⟩
end Go.Proofs.Ytjopdejgijojmaa
