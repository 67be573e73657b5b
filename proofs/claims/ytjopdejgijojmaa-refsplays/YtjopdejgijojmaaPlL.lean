/- The law RefsPlays. -/
import Derived.Test.YtjopdejgijojmaaPl0
namespace Go.Proofs.Ytjopdejgijojmaa
open Go.RowKit Go.Extern

theorem RefsAt.held {F : Nat → Prop} {w w' : World} {ao : Option Addr} {g off : Nat} {rs : List Ref} (h : RefsAt F w ao g off rs) (ht : Turn F w w') : RefsAt F w' ao g off rs := ⟨h.ad, h.out, (h.turn ht).cells⟩
theorem OpsAt.held {F : Nat → Prop} {w w' : World} {ao : Option Addr} {g off : Nat} {rs : List Opn} (h : OpsAt F w ao g off rs) (ht : Turn F w w') : OpsAt F w' ao g off rs := ⟨h.ad, h.out, (h.turn ht).cells⟩
set_option maxRecDepth 100000 in
set_option maxHeartbeats 32000000 in
theorem playsL_any (os : List Opn) (hok : ∀ p ∈ os, OkR p.2) (ao : Option Addr) (cap g off : Nat) (w : World) (hv : OpsAt (fun _ => False) w ao g off os) :
    Calls Try.prog 3 #[.slice ao os.length cap] w fun e w' => e = .returned (.bool true) ∧ Below w.heap.size w w' := by
  obtain ⟨n, hn⟩ : ∃ n, os.length = n := ⟨_, rfl⟩
  rw [hn]
  by_cases c1 : (150 : Int) < (n : Int)
  · clear hv
    go_enter Try.func3, Try.ntmps3
    go_wp2_with (first
      | (go_at_call 8; refine (new_any _).mono ?_; rintro e w1 ⟨b, rfl, hb, hrf, hbel⟩; have HB1 := hide hbel; clear hrf hbel hb)
      | (go_at_call 9; refine (awake_any _).mono ?_; rintro e w2 ⟨rfl, hb2⟩; have HB2 := hide hb2; clear hb2))
    go_ret
    exact ⟨rfl, HB1.out.trans (HB2.out.mono HB1.out.size)⟩
  have HOK := hide hok
  have HV := hide hv
  have hln : n ≤ 150 := by omega
  clear hv hok
  go_enter Try.func3, Try.ntmps3
  go_wp2_with (go_at_call 8; refine (new_any _).mono ?_; rintro e w1 ⟨b, rfl, hb, hrf, hbel⟩; have HR1 := hide hrf; have HB1 := hide hbel; clear hrf hbel hb)
  go_loopg [31, 4, 5, 6] n (fun k i lv wv bv wr => ∃ (j : Nat) (F : Nat → Prop) (aoL : Option Addr) (capL gL : Nat) (L : List Ref) (aoW : Option Addr) (capW gW : Nat) (W : List Ref) (bg : Bool), j + k = n ∧ i = .int .i64 (j : Int) ∧ lv = .slice aoL L.length capL ∧ wv = .slice aoW W.length capW ∧ bv = .bool bg ∧ Hid (Rf wr F b L (wlOf bg W)) ∧ Hid (L.length ≤ j) ∧ Hid (W.length ≤ j) ∧ Hid (∀ k, F k → w.heap.size ≤ k) ∧ Hid (RefsAt F wr aoL gL 0 L) ∧ Hid (RefsAt F wr aoW gW 0 W) ∧ Hid (OpsAt F wr ao g off os) ∧ Hid (Below w.heap.size w wr))
  case atStart => exact ⟨0, _, none, 0, 0, [], none, 0, 0, [], false, by omega, rfl, rfl, rfl, rfl, HR1, hide (by simp), hide (by simp), hide (fun k hk => hk.1), hide ⟨by simp, by simp, by simp⟩, hide ⟨by simp, by simp, by simp⟩, hide (HV.out.start (fun k hk => hk.1) HB1.out), HB1⟩
  case round =>
    obtain ⟨j, F, aoL, capL, gL, L, aoW, capW, gW, W, bg, hj, rfl, rfl, rfl, rfl, HR, HLL, HWW, HF, HAL, HAW, HOP, HB⟩ := hrel
    cases gk with
    | zero =>
      have hnlt : ¬ ((j : Nat) : Int) < (n : Int) := by omega
      go_wp2_with (go_at_call 9; refine (awake_any _).mono ?_; rintro e w9 ⟨rfl, hb9⟩; have HB9 := hide hb9; clear hb9)
      go_ret
      exact ⟨rfl, below_next HB.out HB9.out⟩
    | succ m =>
      have hlti : (j : Int) < (n : Int) := by omega
      have hge : (0 : Int) ≤ (j : Int) := by omega
      obtain ⟨op, hop⟩ : ∃ op, os[j]? = some op := ⟨os[j]'(by omega), by rw [List.getElem?_eq_getElem]⟩
      obtain ⟨kd, r⟩ := op
      obtain rfl := HOP.out.ad (by omega)
      obtain ⟨k0, k1, k2, k3⟩ := HOP.out.cells j _ hop
      simp only at k0 k1 k2 k3
      have HOR : Hid (OkR r) := hide (HOK.out _ (List.mem_of_getElem? hop))
      have e2 : IntKind.i64.wrap ((j : Int) + 1) = (j : Int) + 1 := IntWalk.i64_in _ ⟨by omega, by omega⟩
      obtain ⟨nL, hnL⟩ : ∃ nL, L.length = nL := ⟨_, rfl⟩
      obtain ⟨nW, hnW⟩ : ∃ nW, W.length = nW := ⟨_, rfl⟩
      rw [hnL, hnW]
      have hnLl : nL ≤ 150 := by have := HLL.out; omega
      have hnWl : nW ≤ 150 := by have := HWW.out; omega
      obtain ⟨x, hx⟩ : ∃ x, wr.heap.size = x := ⟨_, rfl⟩
      obtain ⟨w3, hw3⟩ : ∃ w3, wr.alloc (.cells #[.int .i64 kd, .int .i64 r.1.1, .int .i64 r.1.2, .int .i64 r.2] 30) = w3 := ⟨_, rfl⟩
      have HX3 : Hid (BoxP w3 x (kd, r)) := hide (by rw [← hw3, ← hx]; exact boxP_new _ (kd, r) _)
      obtain ⟨y0, y1, y2, y3⟩ := HX3.out
      simp only at y0 y1 y2 y3
      have HB3 : Hid (Below wr.heap.size wr w3) := hide (by rw [← hw3]; exact below_box _ _)
      have HB3w : Hid (Below w.heap.size w w3) := hide (below_next HB.out HB3.out)
      have HR3 := hide (HR.out.below HB3.out)
      have HAL3 := hide (HAL.out.below HB3.out)
      have HAW3 := hide (HAW.out.below HB3.out)
      have HOP3 := hide (HOP.out.below HB3.out)
      have HXF : Hid (¬ F x) := hide (fun hF => by have := HR.out.bd x hF; omega)
      have HXT : Hid (∀ w4, Turn F w3 w4 → BoxP w4 x (kd, r)) := hide (fun w4 ht => HX3.out.turn ht HXF.out)
      have HHL : Hid (∀ wc Fc wl, Rf wc Fc b L wl → RefsAt Fc wc aoL gL 0 L → Calls Try.prog 17 #[.pointer (some ⟨b, 0, none⟩), .slice aoL nL capL, encR r] wc fun e w' => e = .returned (.bool true) ∧ Below wc.heap.size wc w') := hide (fun wc Fc wl h1 h2 => by
        rw [← hnL]; exact holds_any h1 h2 (by omega) capL HOR.out.1)
      have HHW : Hid (∀ wc Fc wl, Rf wc Fc b W wl → RefsAt Fc wc aoW gW 0 W → Calls Try.prog 17 #[.pointer (some ⟨b, 0, none⟩), .slice aoW nW capW, encR r] wc fun e w' => e = .returned (.bool true) ∧ Below wc.heap.size wc w') := hide (fun wc Fc wl h1 h2 => by
        rw [← hnW]; exact holds_any h1 h2 (by omega) capW HOR.out.1)
      clear hop
      by_cases q1 : kd = 1
      · subst q1
        as_aux_lemma =>
          by_cases hneg : r.2 < 0
          · have HP3 := hide (put_any (r := r) HR3.out HOR.out)
            rw [if_pos hneg, errV60] at HP3
            have HPA : Hid (putA L r = L) := hide (by unfold putA; rw [if_pos hneg])
            go_wp2_with (first
              | (go_at_call 10; refine HP3.out.mono ?_; rintro e w4 ⟨rfl, hr4⟩; have HR4 := hide hr4; obtain ⟨t0, t1, t2, t3⟩ := HXT.out w4 hr4.turn; clear hr4)
              | (go_at_call 11; refine (is60 _).mono ?_; rintro e w5 ⟨rfl, hw5⟩; subst hw5))
            go_roundg m
            case measure => omega
            case rel => exact ⟨j + 1, _, aoL, capL, gL, L, aoW, capW, gW, W, bg, by omega, by go_num, by rw [hnL], by rw [hnW], rfl, hide (by have := HR4.out.rf; rw [HPA.out] at this; exact this), hide (by have := HLL.out; omega), hide (by have := HWW.out; omega), hide (ext_ge HF.out HB3w.out.size), hide (HAL3.out.turn HR4.out.turn), hide (HAW3.out.turn HR4.out.turn), hide (HOP3.out.turn HR4.out.turn), hide (Rf.turn_below HR4.out HF.out HB3w.out)⟩
          · have HP3 := hide (put_any (r := r) HR3.out HOR.out)
            rw [if_neg hneg] at HP3
            have HPA : Hid (putA L r = putS L r.1 r.2) := hide (by unfold putA; rw [if_neg hneg])
            have HRP : Hid (∀ w4, Turn F w3 w4 → Calls Try.prog 12 #[.slice aoL nL capL, encR r] w4 (RPutd w4 (putS L r.1 r.2))) := hide (fun w4 ht => by
              rw [← hnL]; exact rput_any (HAL3.out.turn ht) HR3.out.ok.srt (by omega) capL r)
            have HLN2 : Hid ((putS L r.1 r.2).length ≤ j + 1) := hide (by have h1 := putS_length L r.1 r.2 HR3.out.ok.srt; have h2 := HLL.out; omega)
            go_wp2_with (first
              | (go_at_call 10; refine HP3.out.mono ?_; rintro e w4 ⟨rfl, hr4⟩; have HR4 := hide hr4; obtain ⟨t0, t1, t2, t3⟩ := HXT.out w4 hr4.turn; clear hr4)
              | (go_at_call 12; refine (HRP.out w4 HR4.out.turn).mono ?_; rintro e w5 ⟨v5, rfl, hv5, hb5⟩; obtain ⟨s0, s1, s2, s3⟩ := (HXT.out w4 HR4.out.turn).below hb5; obtain ⟨aoN, capN, gN, hvN, hN⟩ := refs_at hv5 HR4.out.rf.bd; subst hvN; have HN5 := hide hN; have HB5 := hide hb5; have hr5 := HR4.out.rf; rw [HPA.out] at hr5; have HR5 := hide (hr5.below hb5); clear hv5 hN hb5 hr5)
              | (go_at_call 17; refine (holds_any HR5.out HN5.out (by have := HLN2.out; omega) capN HOR.out.1).mono ?_; rintro e w9 ⟨rfl, hb9⟩; have HB9 := hide hb9; clear hb9))
            go_roundg m
            case measure => omega
            case rel => exact ⟨j + 1, _, aoN, capN, gN, putS L r.1 r.2, aoW, capW, gW, W, bg, by omega, by go_num, rfl, by rw [hnW], rfl, hide (HR5.out.below HB9.out), HLN2, hide (by have := HWW.out; omega), hide (ext_ge HF.out HB3w.out.size), hide (HN5.out.below HB9.out), hide (((HAW3.out.turn HR4.out.turn).below HB5.out).below HB9.out), hide (((HOP3.out.turn HR4.out.turn).below HB5.out).below HB9.out), hide (below_next (below_next (Rf.turn_below HR4.out HF.out HB3w.out) HB5.out) HB9.out)⟩
      by_cases q2 : kd = 2
      · subst q2
        as_aux_lemma =>
          cases bg with
          | true =>
            have HBG : Hid (Calls Try.prog 13 #[.pointer (some ⟨b, 0, none⟩)] w3 fun e w' => e = .returned (.iface 66 (.int .i64 100)) ∧ w3 = w') := hide ((begin_busy (W := W) HR3.out).mono (fun e w' h => ⟨by rw [h.1, errV100], h.2.symm⟩))
            go_wp2_with (first
              | (go_at_call 13; refine HBG.out.mono ?_; rintro e w4 ⟨rfl, hw4⟩; subst hw4)
              | (go_at_call 11; refine (is100 _).mono ?_; rintro e w5 ⟨rfl, hw5⟩; subst hw5)
              | (go_at_call 17; refine (HHL.out w3 F _ HR3.out HAL3.out).mono ?_; rintro e w9 ⟨rfl, hb9⟩; have HB9 := hide hb9; clear hb9))
            go_roundg m
            case measure => omega
            case rel => exact ⟨j + 1, F, aoL, capL, gL, L, aoW, capW, gW, W, true, by omega, by go_num, by rw [hnL], by rw [hnW], rfl, hide (HR3.out.below HB9.out), hide (by have := HLL.out; omega), hide (by have := HWW.out; omega), HF, hide (HAL3.out.below HB9.out), hide (HAW3.out.below HB9.out), hide (HOP3.out.below HB9.out), hide (below_next HB3w.out HB9.out)⟩
          | false =>
            have HBG := hide (begin_ok HR3.out)
            go_wp2_with (first
              | (go_at_call 13; refine HBG.out.mono ?_; rintro e w4 ⟨rfl, hr4⟩; have HR4 := hide hr4; obtain ⟨t0, t1, t2, t3⟩ := HXT.out w4 hr4.turn; clear hr4)
              | (go_at_call 11; refine (isNil _).mono ?_; rintro e w5 ⟨rfl, hw5⟩; subst hw5)
              | (go_at_call 17; refine (HHL.out w4 _ _ HR4.out.rf (HAL3.out.turn HR4.out.turn)).mono ?_; rintro e w9 ⟨rfl, hb9⟩; have HB9 := hide hb9; clear hb9))
            go_roundg m
            case measure => omega
            case rel => exact ⟨j + 1, _, aoL, capL, gL, L, aoL, capL, gL, L, true, by omega, by go_num, by rw [hnL], by rw [hnL], rfl, hide (HR4.out.rf.below HB9.out), hide (by have := HLL.out; omega), hide (by have := HLL.out; omega), hide (ext_ge HF.out HB3w.out.size), hide ((HAL3.out.turn HR4.out.turn).below HB9.out), hide ((HAL3.out.turn HR4.out.turn).below HB9.out), hide ((HOP3.out.turn HR4.out.turn).below HB9.out), hide (below_next (Rf.turn_below HR4.out HF.out HB3w.out) HB9.out)⟩
      by_cases q3 : kd = 3
      · subst q3
        as_aux_lemma =>
          cases bg with
          | false =>
            have HCM : Hid (Calls Try.prog 14 #[.pointer (some ⟨b, 0, none⟩)] w3 fun e w' => e = .returned (.tuple #[.slice none 0 0, .iface 66 (.int .i64 100)]) ∧ w3 = w') := hide ((commit_busy HR3.out).mono (fun e w' h => ⟨by rw [h.1, errV100], h.2.symm⟩))
            go_wp2_with (first
              | (go_at_call 14; refine HCM.out.mono ?_; rintro e w4 ⟨rfl, hw4⟩; subst hw4)
              | (go_at_call 11; refine (is100 _).mono ?_; rintro e w5 ⟨rfl, hw5⟩; subst hw5))
            go_roundg m
            case measure => omega
            case rel => exact ⟨j + 1, F, aoL, capL, gL, L, aoW, capW, gW, W, false, by omega, by go_num, by rw [hnL], by rw [hnW], rfl, HR3, hide (by have := HLL.out; omega), hide (by have := HWW.out; omega), HF, HAL3, HAW3, HOP3, HB3w⟩
          | true =>
            have HWK : Hid (Okl W) := hide (Rf.okW (W := W) HR3.out)
            have HLK : Hid (Okl L) := hide HR3.out.ok
            obtain ⟨cs, hcs⟩ : ∃ cs, chS W L = cs := ⟨_, rfl⟩
            obtain ⟨nC, hnC⟩ : ∃ nC, cs.length = nC := ⟨_, rfl⟩
            have hnCl : nC ≤ 1000 := by have := chO_length HWK.out HLK.out; rw [← chS_length, hcs] at this; omega
            have HCM := hide (commit_ok (W := W) HR3.out (by omega))
            unfold Commd at HCM
            rw [hcs, hnC] at HCM
            have HRC : Hid (∀ wx, Turn F w3 wx → Calls Try.prog 15 #[.slice aoW nW capW, .slice aoL nL capL] wx (RChd wx cs)) := hide (fun wx ht => by
              rw [← hnL, ← hnW, ← hcs]; exact rchanges_any (HAW3.out.turn ht) (HAL3.out.turn ht) HWK.out HLK.out (by omega) (by omega) capW capL)
            go_wp2_with (first
              | (go_at_call 14; refine HCM.out.mono ?_; rintro e w4 ⟨v4, rfl, hv4, hr4, ht4⟩; rw [← hnC] at hv4; obtain ⟨aoC, capC, gC, hvC, hC⟩ := chgs_at (F := fun _ => False) hv4 (by simp); subst hvC; rw [hnC]; have HC4 := hide hC; have HR4 := hide hr4; have HT4 := hide ht4; clear hv4 hC hr4 ht4)
              | (go_at_call 15; refine (HRC.out w4 HT4.out).mono ?_; rintro e w5 ⟨v5, rfl, hv5, hb5⟩; obtain ⟨aoD, capD, gD, hvD, hD⟩ := chgs_at (F := fun _ => False) hv5 (by simp); subst hvD; rw [hnC]; have HD := hide hD; have HC := hide (HC4.out.below hb5); have HB5 := hide hb5; clear hv5 hD hb5))
            have HR5 := hide (HR4.out.below HB5.out)
            have HF5 : Hid (∀ k, F k → F k ∨ w3.heap.size ≤ k) := hide (fun k h => .inl h)
            have HAL5 : Hid (RefsAt F w5 aoL gL 0 L) := hide ((HAL3.out.held HT4.out).below HB5.out)
            have HAW5 : Hid (RefsAt F w5 aoW gW 0 W) := hide ((HAW3.out.held HT4.out).below HB5.out)
            have HOP5 : Hid (OpsAt F w5 (some ⟨g, off, none⟩) g off os) := hide ((HOP3.out.held HT4.out).below HB5.out)
            have HBX5 := hide ((HXT.out w4 HT4.out).below HB5.out)
            have HB5w : Hid (Below w.heap.size w w5) := hide (below_next (HB3w.out.trans (HT4.out.below HB3w.out.size HF.out)) HB5.out)
            clear HF5
            go_loopg [114] nC (fun k i wr => ∃ (t : Nat), t + k = nC ∧ i = .int .i64 (t : Int) ∧ Hid (Below w5.heap.size w5 wr))
            case atStart => exact ⟨0, by omega, rfl, hide (Below.refl _ _)⟩
            case round =>
              obtain ⟨t, ht, rfl, HBw⟩ := hrel
              cases gk with
              | succ m2 =>
                have htn : t < nC := by omega
                have hlti2 : (t : Int) < (nC : Int) := by omega
                have hge2 : (0 : Int) ≤ (t : Int) := by omega
                obtain ⟨ch, hch⟩ : ∃ ch, cs[t]? = some ch := ⟨cs[t]'(by omega), by rw [List.getElem?_eq_getElem]⟩
                have HCH := hide hch
                obtain rfl := HC.out.ad (by omega)
                obtain rfl := HD.out.ad (by omega)
                have e8 : IntKind.i64.wrap ((t : Int) + 1) = (t : Int) + 1 := IntWalk.i64_in _ ⟨by omega, by omega⟩
                clear hch
                go_wp2_with fail
                refine wp_region_held_drew (S := Below wr.heap.size wr) (by kernel_rfl) (below_drew0 wr) (fun hS => ?_)
                refine take_want 0 (some 117) (.slice (some ⟨gC, 0, none⟩) nC capC) rfl rfl rfl (by kernel_rfl) (by kernel_rfl) (by kernel_rfl) (fun _ _ _ h => h) (fun wx hx => exec_move rfl rfl) hS ?_
                simp only [Act.put, List.setIfInBounds_toArray, List.set_cons_zero, List.set_cons_succ]
                refine take_want 1 (some 118) (.int .i64 (t : Int)) rfl rfl rfl (by kernel_rfl) (by kernel_rfl) (by kernel_rfl) (fun _ _ _ h => h) (fun wx hx => exec_move rfl rfl) hS ?_
                simp only [Act.put, List.setIfInBounds_toArray, List.set_cons_zero, List.set_cons_succ]
                refine take_want 2 (some 119) (.pointer (some ⟨gC, t * 4, none⟩)) rfl rfl rfl (by kernel_rfl) (by kernel_rfl) (by kernel_rfl) (fun _ _ _ h => h) (fun wx hx => exec_index rfl (index_chg htn) rfl rfl) hS ?_
                simp only [Act.put, List.setIfInBounds_toArray, List.set_cons_zero, List.set_cons_succ]
                refine take_want 3 (some 120) (.pointer (some ⟨gC, t * 4, none⟩)) rfl rfl rfl (by kernel_rfl) (by kernel_rfl) (by kernel_rfl) (fun _ _ _ h => h) (fun wx hx => exec_field rfl (fldD0 _ _ wx) rfl) hS ?_
                simp only [Act.put, List.setIfInBounds_toArray, List.set_cons_zero, List.set_cons_succ]
                refine take_want 4 (some 121) (.pointer (some ⟨gC, t * 4, none⟩)) rfl rfl rfl (by kernel_rfl) (by kernel_rfl) (by kernel_rfl) (fun _ _ _ h => h) (fun wx hx => exec_field rfl (fldP0 _ _ wx) rfl) hS ?_
                simp only [Act.put, List.setIfInBounds_toArray, List.set_cons_zero, List.set_cons_succ]
                refine take_want 5 (some 122) (.int .i64 ch.1.1) rfl rfl rfl (by kernel_rfl) (by kernel_rfl) (by kernel_rfl) (fun _ _ _ h => h) (fun wx hx => exec_load rfl (load_intV ((HC.out.below (below_next HBw.out hx)).cells t ch HCH.out).1) rfl) hS ?_
                simp only [Act.put, List.setIfInBounds_toArray, List.set_cons_zero, List.set_cons_succ]
                refine take_want 6 (some 123) (.slice (some ⟨gD, 0, none⟩) nC capD) rfl rfl rfl (by kernel_rfl) (by kernel_rfl) (by kernel_rfl) (fun _ _ _ h => h) (fun wx hx => exec_move rfl rfl) hS ?_
                simp only [Act.put, List.setIfInBounds_toArray, List.set_cons_zero, List.set_cons_succ]
                refine take_want 7 (some 124) (.int .i64 (t : Int)) rfl rfl rfl (by kernel_rfl) (by kernel_rfl) (by kernel_rfl) (fun _ _ _ h => h) (fun wx hx => exec_move rfl rfl) hS ?_
                simp only [Act.put, List.setIfInBounds_toArray, List.set_cons_zero, List.set_cons_succ]
                refine take_want 8 (some 125) (.pointer (some ⟨gD, t * 4, none⟩)) rfl rfl rfl (by kernel_rfl) (by kernel_rfl) (by kernel_rfl) (fun _ _ _ h => h) (fun wx hx => exec_index rfl (index_rchg htn) rfl rfl) hS ?_
                simp only [Act.put, List.setIfInBounds_toArray, List.set_cons_zero, List.set_cons_succ]
                refine take_want 9 (some 126) (.pointer (some ⟨gD, t * 4, none⟩)) rfl rfl rfl (by kernel_rfl) (by kernel_rfl) (by kernel_rfl) (fun _ _ _ h => h) (fun wx hx => exec_field rfl (fldE0 _ _ wx) rfl) hS ?_
                simp only [Act.put, List.setIfInBounds_toArray, List.set_cons_zero, List.set_cons_succ]
                refine take_want 10 (some 127) (.int .i64 ch.1.1) rfl rfl rfl (by kernel_rfl) (by kernel_rfl) (by kernel_rfl) (fun _ _ _ h => h) (fun wx hx => exec_load rfl (load_intV ((HD.out.below (below_next HBw.out hx)).cells t ch HCH.out).1) rfl) hS ?_
                simp only [Act.put, List.setIfInBounds_toArray, List.set_cons_zero, List.set_cons_succ]
                refine take_want 11 (some 128) (.bool false) rfl rfl rfl (by kernel_rfl) (by kernel_rfl) (by kernel_rfl) (fun _ _ _ h => h) (fun wx hx => exec_neqN rfl rfl rfl rfl) hS ?_
                simp only [Act.put, List.setIfInBounds_toArray, List.set_cons_zero, List.set_cons_succ]
                refine take_want 12 (some 129) (.bool false) rfl rfl rfl (by kernel_rfl) (by kernel_rfl) (by kernel_rfl) (fun _ _ _ h => h) (fun wx hx => exec_move rfl rfl) hS ?_
                simp only [Act.put, List.setIfInBounds_toArray, List.set_cons_zero, List.set_cons_succ]
                refine take_want 13 (some 130) (.slice (some ⟨gC, 0, none⟩) nC capC) rfl rfl rfl (by kernel_rfl) (by kernel_rfl) (by kernel_rfl) (fun _ _ _ h => h) (fun wx hx => exec_move rfl rfl) hS ?_
                simp only [Act.put, List.setIfInBounds_toArray, List.set_cons_zero, List.set_cons_succ]
                refine take_want 14 (some 131) (.int .i64 (t : Int)) rfl rfl rfl (by kernel_rfl) (by kernel_rfl) (by kernel_rfl) (fun _ _ _ h => h) (fun wx hx => exec_move rfl rfl) hS ?_
                simp only [Act.put, List.setIfInBounds_toArray, List.set_cons_zero, List.set_cons_succ]
                refine take_want 15 (some 132) (.pointer (some ⟨gC, t * 4, none⟩)) rfl rfl rfl (by kernel_rfl) (by kernel_rfl) (by kernel_rfl) (fun _ _ _ h => h) (fun wx hx => exec_index rfl (index_chg htn) rfl rfl) hS ?_
                simp only [Act.put, List.setIfInBounds_toArray, List.set_cons_zero, List.set_cons_succ]
                refine take_want 16 (some 133) (.pointer (some ⟨gC, t * 4, none⟩)) rfl rfl rfl (by kernel_rfl) (by kernel_rfl) (by kernel_rfl) (fun _ _ _ h => h) (fun wx hx => exec_field rfl (fldD0 _ _ wx) rfl) hS ?_
                simp only [Act.put, List.setIfInBounds_toArray, List.set_cons_zero, List.set_cons_succ]
                refine take_want 17 (some 134) (.pointer (some ⟨gC, t * 4 + 1, none⟩)) rfl rfl rfl (by kernel_rfl) (by kernel_rfl) (by kernel_rfl) (fun _ _ _ h => h) (fun wx hx => exec_field rfl (fldP1 _ _ wx) rfl) hS ?_
                simp only [Act.put, List.setIfInBounds_toArray, List.set_cons_zero, List.set_cons_succ]
                refine take_want 18 (some 135) (.int .i64 ch.1.2) rfl rfl rfl (by kernel_rfl) (by kernel_rfl) (by kernel_rfl) (fun _ _ _ h => h) (fun wx hx => exec_load rfl (load_intV ((HC.out.below (below_next HBw.out hx)).cells t ch HCH.out).2.1) rfl) hS ?_
                simp only [Act.put, List.setIfInBounds_toArray, List.set_cons_zero, List.set_cons_succ]
                refine take_want 19 (some 136) (.slice (some ⟨gD, 0, none⟩) nC capD) rfl rfl rfl (by kernel_rfl) (by kernel_rfl) (by kernel_rfl) (fun _ _ _ h => h) (fun wx hx => exec_move rfl rfl) hS ?_
                simp only [Act.put, List.setIfInBounds_toArray, List.set_cons_zero, List.set_cons_succ]
                refine take_want 20 (some 137) (.int .i64 (t : Int)) rfl rfl rfl (by kernel_rfl) (by kernel_rfl) (by kernel_rfl) (fun _ _ _ h => h) (fun wx hx => exec_move rfl rfl) hS ?_
                simp only [Act.put, List.setIfInBounds_toArray, List.set_cons_zero, List.set_cons_succ]
                refine take_want 21 (some 138) (.pointer (some ⟨gD, t * 4, none⟩)) rfl rfl rfl (by kernel_rfl) (by kernel_rfl) (by kernel_rfl) (fun _ _ _ h => h) (fun wx hx => exec_index rfl (index_rchg htn) rfl rfl) hS ?_
                simp only [Act.put, List.setIfInBounds_toArray, List.set_cons_zero, List.set_cons_succ]
                refine take_want 22 (some 139) (.pointer (some ⟨gD, t * 4 + 1, none⟩)) rfl rfl rfl (by kernel_rfl) (by kernel_rfl) (by kernel_rfl) (fun _ _ _ h => h) (fun wx hx => exec_field rfl (fldE1 _ _ wx) rfl) hS ?_
                simp only [Act.put, List.setIfInBounds_toArray, List.set_cons_zero, List.set_cons_succ]
                refine take_want 23 (some 140) (.int .i64 ch.1.2) rfl rfl rfl (by kernel_rfl) (by kernel_rfl) (by kernel_rfl) (fun _ _ _ h => h) (fun wx hx => exec_load rfl (load_intV ((HD.out.below (below_next HBw.out hx)).cells t ch HCH.out).2.1) rfl) hS ?_
                simp only [Act.put, List.setIfInBounds_toArray, List.set_cons_zero, List.set_cons_succ]
                refine take_want 24 (some 141) (.bool false) rfl rfl rfl (by kernel_rfl) (by kernel_rfl) (by kernel_rfl) (fun _ _ _ h => h) (fun wx hx => exec_neqN rfl rfl rfl rfl) hS ?_
                simp only [Act.put, List.setIfInBounds_toArray, List.set_cons_zero, List.set_cons_succ]
                refine take_want 25 (some 142) (.bool false) rfl rfl rfl (by kernel_rfl) (by kernel_rfl) (by kernel_rfl) (fun _ _ _ h => h) (fun wx hx => exec_pickF rfl rfl rfl) hS ?_
                simp only [Act.put, List.setIfInBounds_toArray, List.set_cons_zero, List.set_cons_succ]
                refine take_want 26 (some 143) (.bool false) rfl rfl rfl (by kernel_rfl) (by kernel_rfl) (by kernel_rfl) (fun _ _ _ h => h) (fun wx hx => exec_move rfl rfl) hS ?_
                simp only [Act.put, List.setIfInBounds_toArray, List.set_cons_zero, List.set_cons_succ]
                refine take_want 27 (some 144) (.slice (some ⟨gC, 0, none⟩) nC capC) rfl rfl rfl (by kernel_rfl) (by kernel_rfl) (by kernel_rfl) (fun _ _ _ h => h) (fun wx hx => exec_move rfl rfl) hS ?_
                simp only [Act.put, List.setIfInBounds_toArray, List.set_cons_zero, List.set_cons_succ]
                refine take_want 28 (some 145) (.int .i64 (t : Int)) rfl rfl rfl (by kernel_rfl) (by kernel_rfl) (by kernel_rfl) (fun _ _ _ h => h) (fun wx hx => exec_move rfl rfl) hS ?_
                simp only [Act.put, List.setIfInBounds_toArray, List.set_cons_zero, List.set_cons_succ]
                refine take_want 29 (some 146) (.pointer (some ⟨gC, t * 4, none⟩)) rfl rfl rfl (by kernel_rfl) (by kernel_rfl) (by kernel_rfl) (fun _ _ _ h => h) (fun wx hx => exec_index rfl (index_chg htn) rfl rfl) hS ?_
                simp only [Act.put, List.setIfInBounds_toArray, List.set_cons_zero, List.set_cons_succ]
                refine take_want 30 (some 147) (.pointer (some ⟨gC, t * 4 + 2, none⟩)) rfl rfl rfl (by kernel_rfl) (by kernel_rfl) (by kernel_rfl) (fun _ _ _ h => h) (fun wx hx => exec_field rfl (fldD1 _ _ wx) rfl) hS ?_
                simp only [Act.put, List.setIfInBounds_toArray, List.set_cons_zero, List.set_cons_succ]
                refine take_want 31 (some 148) (.int .i64 ch.2.1) rfl rfl rfl (by kernel_rfl) (by kernel_rfl) (by kernel_rfl) (fun _ _ _ h => h) (fun wx hx => exec_load rfl (load_intV ((HC.out.below (below_next HBw.out hx)).cells t ch HCH.out).2.2.1) rfl) hS ?_
                simp only [Act.put, List.setIfInBounds_toArray, List.set_cons_zero, List.set_cons_succ]
                refine take_want 32 (some 149) (.slice (some ⟨gD, 0, none⟩) nC capD) rfl rfl rfl (by kernel_rfl) (by kernel_rfl) (by kernel_rfl) (fun _ _ _ h => h) (fun wx hx => exec_move rfl rfl) hS ?_
                simp only [Act.put, List.setIfInBounds_toArray, List.set_cons_zero, List.set_cons_succ]
                refine take_want 33 (some 150) (.int .i64 (t : Int)) rfl rfl rfl (by kernel_rfl) (by kernel_rfl) (by kernel_rfl) (fun _ _ _ h => h) (fun wx hx => exec_move rfl rfl) hS ?_
                simp only [Act.put, List.setIfInBounds_toArray, List.set_cons_zero, List.set_cons_succ]
                refine take_want 34 (some 151) (.pointer (some ⟨gD, t * 4, none⟩)) rfl rfl rfl (by kernel_rfl) (by kernel_rfl) (by kernel_rfl) (fun _ _ _ h => h) (fun wx hx => exec_index rfl (index_rchg htn) rfl rfl) hS ?_
                simp only [Act.put, List.setIfInBounds_toArray, List.set_cons_zero, List.set_cons_succ]
                refine take_want 35 (some 152) (.pointer (some ⟨gD, t * 4 + 2, none⟩)) rfl rfl rfl (by kernel_rfl) (by kernel_rfl) (by kernel_rfl) (fun _ _ _ h => h) (fun wx hx => exec_field rfl (fldE2 _ _ wx) rfl) hS ?_
                simp only [Act.put, List.setIfInBounds_toArray, List.set_cons_zero, List.set_cons_succ]
                refine take_want 36 (some 153) (.int .i64 ch.2.1) rfl rfl rfl (by kernel_rfl) (by kernel_rfl) (by kernel_rfl) (fun _ _ _ h => h) (fun wx hx => exec_load rfl (load_intV ((HD.out.below (below_next HBw.out hx)).cells t ch HCH.out).2.2.1) rfl) hS ?_
                simp only [Act.put, List.setIfInBounds_toArray, List.set_cons_zero, List.set_cons_succ]
                refine take_want 37 (some 154) (.bool false) rfl rfl rfl (by kernel_rfl) (by kernel_rfl) (by kernel_rfl) (fun _ _ _ h => h) (fun wx hx => exec_neqN rfl rfl rfl rfl) hS ?_
                simp only [Act.put, List.setIfInBounds_toArray, List.set_cons_zero, List.set_cons_succ]
                refine take_want 38 (some 155) (.bool false) rfl rfl rfl (by kernel_rfl) (by kernel_rfl) (by kernel_rfl) (fun _ _ _ h => h) (fun wx hx => exec_pickF rfl rfl rfl) hS ?_
                simp only [Act.put, List.setIfInBounds_toArray, List.set_cons_zero, List.set_cons_succ]
                refine take_want 39 (some 156) (.bool false) rfl rfl rfl (by kernel_rfl) (by kernel_rfl) (by kernel_rfl) (fun _ _ _ h => h) (fun wx hx => exec_move rfl rfl) hS ?_
                simp only [Act.put, List.setIfInBounds_toArray, List.set_cons_zero, List.set_cons_succ]
                refine take_want 40 (some 157) (.slice (some ⟨gC, 0, none⟩) nC capC) rfl rfl rfl (by kernel_rfl) (by kernel_rfl) (by kernel_rfl) (fun _ _ _ h => h) (fun wx hx => exec_move rfl rfl) hS ?_
                simp only [Act.put, List.setIfInBounds_toArray, List.set_cons_zero, List.set_cons_succ]
                refine take_want 41 (some 158) (.int .i64 (t : Int)) rfl rfl rfl (by kernel_rfl) (by kernel_rfl) (by kernel_rfl) (fun _ _ _ h => h) (fun wx hx => exec_move rfl rfl) hS ?_
                simp only [Act.put, List.setIfInBounds_toArray, List.set_cons_zero, List.set_cons_succ]
                refine take_want 42 (some 159) (.pointer (some ⟨gC, t * 4, none⟩)) rfl rfl rfl (by kernel_rfl) (by kernel_rfl) (by kernel_rfl) (fun _ _ _ h => h) (fun wx hx => exec_index rfl (index_chg htn) rfl rfl) hS ?_
                simp only [Act.put, List.setIfInBounds_toArray, List.set_cons_zero, List.set_cons_succ]
                refine take_want 43 (some 160) (.pointer (some ⟨gC, t * 4 + 3, none⟩)) rfl rfl rfl (by kernel_rfl) (by kernel_rfl) (by kernel_rfl) (fun _ _ _ h => h) (fun wx hx => exec_field rfl (fldD2 _ _ wx) rfl) hS ?_
                simp only [Act.put, List.setIfInBounds_toArray, List.set_cons_zero, List.set_cons_succ]
                refine take_want 44 (some 161) (.int .i64 ch.2.2) rfl rfl rfl (by kernel_rfl) (by kernel_rfl) (by kernel_rfl) (fun _ _ _ h => h) (fun wx hx => exec_load rfl (load_intV ((HC.out.below (below_next HBw.out hx)).cells t ch HCH.out).2.2.2) rfl) hS ?_
                simp only [Act.put, List.setIfInBounds_toArray, List.set_cons_zero, List.set_cons_succ]
                refine take_want 45 (some 162) (.slice (some ⟨gD, 0, none⟩) nC capD) rfl rfl rfl (by kernel_rfl) (by kernel_rfl) (by kernel_rfl) (fun _ _ _ h => h) (fun wx hx => exec_move rfl rfl) hS ?_
                simp only [Act.put, List.setIfInBounds_toArray, List.set_cons_zero, List.set_cons_succ]
                refine take_want 46 (some 163) (.int .i64 (t : Int)) rfl rfl rfl (by kernel_rfl) (by kernel_rfl) (by kernel_rfl) (fun _ _ _ h => h) (fun wx hx => exec_move rfl rfl) hS ?_
                simp only [Act.put, List.setIfInBounds_toArray, List.set_cons_zero, List.set_cons_succ]
                refine take_want 47 (some 164) (.pointer (some ⟨gD, t * 4, none⟩)) rfl rfl rfl (by kernel_rfl) (by kernel_rfl) (by kernel_rfl) (fun _ _ _ h => h) (fun wx hx => exec_index rfl (index_rchg htn) rfl rfl) hS ?_
                simp only [Act.put, List.setIfInBounds_toArray, List.set_cons_zero, List.set_cons_succ]
                refine take_want 48 (some 165) (.pointer (some ⟨gD, t * 4 + 3, none⟩)) rfl rfl rfl (by kernel_rfl) (by kernel_rfl) (by kernel_rfl) (fun _ _ _ h => h) (fun wx hx => exec_field rfl (fldE3 _ _ wx) rfl) hS ?_
                simp only [Act.put, List.setIfInBounds_toArray, List.set_cons_zero, List.set_cons_succ]
                refine take_want 49 (some 166) (.int .i64 ch.2.2) rfl rfl rfl (by kernel_rfl) (by kernel_rfl) (by kernel_rfl) (fun _ _ _ h => h) (fun wx hx => exec_load rfl (load_intV ((HD.out.below (below_next HBw.out hx)).cells t ch HCH.out).2.2.2) rfl) hS ?_
                simp only [Act.put, List.setIfInBounds_toArray, List.set_cons_zero, List.set_cons_succ]
                refine take_want 50 (some 167) (.bool false) rfl rfl rfl (by kernel_rfl) (by kernel_rfl) (by kernel_rfl) (fun _ _ _ h => h) (fun wx hx => exec_neqN rfl rfl rfl rfl) hS ?_
                simp only [Act.put, List.setIfInBounds_toArray, List.set_cons_zero, List.set_cons_succ]
                refine take_want 51 (some 168) (.bool false) rfl rfl rfl (by kernel_rfl) (by kernel_rfl) (by kernel_rfl) (fun _ _ _ h => h) (fun wx hx => exec_pickF rfl rfl rfl) hS ?_
                simp only [Act.put, List.setIfInBounds_toArray, List.set_cons_zero, List.set_cons_succ]
                refine wpAnyH_done (by kernel_rfl) ?_ _
                have HB2 : Hid (Below w5.heap.size w5 wr.drew) := hide (below_next HBw.out hS)
                clear hS
                go_wp2_with fail
                go_roundg m2
                case measure => omega
                case rel => exact ⟨t + 1, by omega, by go_num, HB2⟩
              | zero =>
                have hnlt3 : ¬ ((t : Nat) : Int) < (nC : Int) := by omega
                obtain ⟨t0, t1, t2, t3⟩ := HBX5.out.below HBw.out
                have HR6 := hide (HR5.out.below HBw.out)
                have HAL6 := hide (HAL5.out.below HBw.out)
                go_wp2_with (go_at_call 17; refine (HHL.out wr F _ HR6.out HAL6.out).mono ?_; rintro e w9 ⟨rfl, hb9⟩; have HB9 := hide hb9; clear hb9)
                go_roundg m
                case measure => omega
                case rel => exact ⟨j + 1, F, aoL, capL, gL, L, aoW, capW, gW, W, false, by omega, by go_num, by rw [hnL], by rw [hnW], rfl, hide (HR6.out.below HB9.out), hide (by have := HLL.out; omega), hide (by have := HWW.out; omega), HF, hide (HAL6.out.below HB9.out), hide ((HAW5.out.below HBw.out).below HB9.out), hide ((HOP5.out.below HBw.out).below HB9.out), hide (below_next (below_next HB5w.out HBw.out) HB9.out)⟩
      by_cases q4 : kd = 4
      · subst q4
        as_aux_lemma =>
          cases bg with
          | false =>
            have HBK : Hid (Calls Try.prog 16 #[.pointer (some ⟨b, 0, none⟩)] w3 fun e w' => e = .returned (.iface 66 (.int .i64 100)) ∧ w3 = w') := hide ((back_busy HR3.out).mono (fun e w' h => ⟨by rw [h.1, errV100], h.2.symm⟩))
            go_wp2_with (first
              | (go_at_call 16; refine HBK.out.mono ?_; rintro e w4 ⟨rfl, hw4⟩; subst hw4)
              | (go_at_call 11; refine (is100 _).mono ?_; rintro e w5 ⟨rfl, hw5⟩; subst hw5)
              | (go_at_call 17; refine (HHL.out w3 F _ HR3.out HAL3.out).mono ?_; rintro e w9 ⟨rfl, hb9⟩; have HB9 := hide hb9; clear hb9))
            go_roundg m
            case measure => omega
            case rel => exact ⟨j + 1, F, aoL, capL, gL, L, aoW, capW, gW, W, false, by omega, by go_num, by rw [hnL], by rw [hnW], rfl, hide (HR3.out.below HB9.out), hide (by have := HLL.out; omega), hide (by have := HWW.out; omega), HF, hide (HAL3.out.below HB9.out), hide (HAW3.out.below HB9.out), hide (HOP3.out.below HB9.out), hide (below_next HB3w.out HB9.out)⟩
          | true =>
            have HBK := hide (back_ok (W := W) HR3.out)
            go_wp2_with (first
              | (go_at_call 16; refine HBK.out.mono ?_; rintro e w4 ⟨rfl, hr4⟩; have HR4 := hide hr4; obtain ⟨t0, t1, t2, t3⟩ := HXT.out w4 hr4.turn; clear hr4)
              | (go_at_call 17; refine (HHW.out w4 _ _ HR4.out.rf (HAW3.out.turn HR4.out.turn)).mono ?_; rintro e w9 ⟨rfl, hb9⟩; have HB9 := hide hb9; clear hb9))
            go_roundg m
            case measure => omega
            case rel => exact ⟨j + 1, _, aoW, capW, gW, W, aoW, capW, gW, W, false, by omega, by go_num, by rw [hnW], by rw [hnW], rfl, hide (HR4.out.rf.below HB9.out), hide (by have := HWW.out; omega), hide (by have := HWW.out; omega), hide (ext_ge HF.out HB3w.out.size), hide ((HAW3.out.turn HR4.out.turn).below HB9.out), hide ((HAW3.out.turn HR4.out.turn).below HB9.out), hide ((HOP3.out.turn HR4.out.turn).below HB9.out), hide (below_next (Rf.turn_below HR4.out HF.out HB3w.out) HB9.out)⟩
      have b1 : (kd == 1) = false := by simpa using q1
      have b2 : (kd == 2) = false := by simpa using q2
      have b3 : (kd == 3) = false := by simpa using q3
      have b4 : (kd == 4) = false := by simpa using q4
      as_aux_lemma =>
        go_wp2_with (go_at_call 17; refine (HHL.out w3 F _ HR3.out HAL3.out).mono ?_; rintro e w9 ⟨rfl, hb9⟩; have HB9 := hide hb9; clear hb9)
        go_roundg m
        case measure => omega
        case rel => exact ⟨j + 1, F, aoL, capL, gL, L, aoW, capW, gW, W, bg, by omega, by go_num, by rw [hnL], by rw [hnW], rfl, hide (HR3.out.below HB9.out), hide (by have := HLL.out; omega), hide (by have := HWW.out; omega), HF, hide (HAL3.out.below HB9.out), hide (HAW3.out.below HB9.out), hide (HOP3.out.below HB9.out), hide (below_next HB3w.out HB9.out)⟩
end Go.Proofs.Ytjopdejgijojmaa
