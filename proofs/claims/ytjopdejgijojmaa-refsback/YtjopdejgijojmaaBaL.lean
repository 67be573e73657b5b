/- The law RefsBack. -/
import Derived.Test.YtjopdejgijojmaaBa0
namespace Go.Proofs.Ytjopdejgijojmaa
open Go.RowKit Go.Extern

set_option maxRecDepth 100000 in
set_option maxHeartbeats 16000000 in
theorem backL_any (rs0 : List Ref) (hk0 : ∀ r ∈ rs0, OkR r) (rs1 : List Ref) (hk1 : ∀ r ∈ rs1, OkR r) (bk : Bool) (ao0 : Option Addr) (cap0 g0 off0 : Nat) (ao1 : Option Addr) (cap1 g1 off1 : Nat) (w : World) (hs0 : RefsAt (fun _ => False) w ao0 g0 off0 rs0) (hs1 : RefsAt (fun _ => False) w ao1 g1 off1 rs1) :
    Calls Try.prog 5 #[.slice ao0 rs0.length cap0, .slice ao1 rs1.length cap1, .bool bk] w fun e w' => e = .returned (.bool true) ∧ Below w.heap.size w w' := by
  obtain ⟨n0, hn0⟩ : ∃ n, rs0.length = n := ⟨_, rfl⟩
  obtain ⟨n1, hn1⟩ : ∃ n, rs1.length = n := ⟨_, rfl⟩
  rw [hn0, hn1]
  by_cases c1 : (150 : Int) < (n0 : Int)
  · clear hs0 hs1 hk0 hk1
    go_enter Try.func5, Try.ntmps5
    go_wp2_with (first
      | (go_at_call 8; refine (new_any _).mono ?_; rintro e w1 ⟨b, rfl, hb, hrf, hbel⟩; have HB1 := hide hbel; have cpn : (w1.alloc (.cells #[.pointer (some ⟨b, 0, none⟩)] 23)).cell? ⟨w1.heap.size, 0, none⟩ = some (.pointer (some ⟨b, 0, none⟩)) := (by simp); clear hrf hbel hb)
      | (go_at_call 9; refine (awake_any _).mono ?_; rintro e w2 ⟨rfl, hb2⟩; have HB2 := hide hb2; clear hb2))
    go_ret
    exact ⟨rfl, below_next (below_next HB1.out (below_box _ _)) HB2.out⟩
  by_cases c2 : (150 : Int) < (n1 : Int)
  · clear hs0 hs1 hk0 hk1
    go_enter Try.func5, Try.ntmps5
    go_wp2_with (first
      | (go_at_call 8; refine (new_any _).mono ?_; rintro e w1 ⟨b, rfl, hb, hrf, hbel⟩; have HB1 := hide hbel; have cpn : (w1.alloc (.cells #[.pointer (some ⟨b, 0, none⟩)] 23)).cell? ⟨w1.heap.size, 0, none⟩ = some (.pointer (some ⟨b, 0, none⟩)) := (by simp); clear hrf hbel hb)
      | (go_at_call 9; refine (awake_any _).mono ?_; rintro e w2 ⟨rfl, hb2⟩; have HB2 := hide hb2; clear hb2))
    go_ret
    exact ⟨rfl, below_next (below_next HB1.out (below_box _ _)) HB2.out⟩
  have HOK0 := hide hk0
  have HOK1 := hide hk1
  have HV0 := hide hs0
  have HV1 := hide hs1
  have hl0 : n0 ≤ 150 := by omega
  have hl1 : n1 ≤ 150 := by omega
  clear hs0 hs1 hk0 hk1
  go_enter Try.func5, Try.ntmps5
  go_wp2_with (go_at_call 8; refine (new_any _).mono ?_; rintro e w1 ⟨b, rfl, hb, hrf, hbel⟩; have HR1 := hide hrf; have HB1 := hide hbel; obtain ⟨p, hp⟩ : ∃ p, w1.heap.size = p := ⟨_, rfl⟩; obtain ⟨wp, hwp⟩ : ∃ wp, w1.alloc (.cells #[.pointer (some ⟨b, 0, none⟩)] 23) = wp := ⟨_, rfl⟩; have cp0 : wp.cell? ⟨p, 0, none⟩ = some (.pointer (some ⟨b, 0, none⟩)) := (by rw [← hwp, ← hp]; simp); obtain ⟨q, hq⟩ : ∃ q, wp.heap.size = q := ⟨_, rfl⟩; obtain ⟨wq, hwq⟩ : ∃ wq, wp.alloc (.cells #[.slice none 0 0] 26) = wq := ⟨_, rfl⟩; clear hrf hbel hb)
  have hpq : q = p + 1 := by rw [← hq, ← hwp]; simp; omega
  have HBp : Hid (Below w1.heap.size w1 wp) := hide (by rw [← hwp]; exact below_box _ _)
  have HBq : Hid (Below wp.heap.size wp wq) := hide (by rw [← hwq]; exact below_box _ _)
  have HB0q : Hid (Below w.heap.size w wq) := hide (below_next HB1.out (below_next HBp.out HBq.out))
  have hbp0 : wp.heap[p]? = some (.cells #[.pointer (some ⟨b, 0, none⟩)] 23 (0, 0)) := by rw [← hwp, ← hp]; exact World.alloc_heap_new _ _
  have HK0 : Hid (BkS wq (fun k => w.heap.size ≤ k ∧ k < w1.heap.size) b p q [] none none 0 0) := hide ⟨HR1.out.below (below_next HBp.out HBq.out), by rw [HBq.out.block p (heap_lt hbp0)]; exact hbp0, by rw [← hwq, ← hq]; exact World.alloc_heap_new _ _, ⟨by simp, by simp, by simp⟩, fun h => by omega, fun h => by omega, by omega⟩
  have hwq0 : w.heap.size ≤ q := by have := HB1.out.size; omega
  have HQ0 := hide hwq0
  have HS0 : Hid (∀ {F : Nat → Prop}, (∀ k, F k → w.heap.size ≤ k) → RefsAt (with1 F q) wq ao0 g0 off0 rs0) := hide (fun hF => HV0.out.start (with1_ge hF hwq0) HB0q.out)
  have HS1 : Hid (∀ {F : Nat → Prop}, (∀ k, F k → w.heap.size ≤ k) → RefsAt (with1 F q) wq ao1 g1 off1 rs1) := hide (fun hF => HV1.out.start (with1_ge hF hwq0) HB0q.out)
  clear hbp0 HBp HBq cp0 hpq
  go_loopg [42] n0 (fun k i wr => ∃ (j : Nat) (F : Nat → Prop) (aoW : Option Addr) (capW gW : Nat) (L0 : List Ref), j + k = n0 ∧ i = .int .i64 (j : Int) ∧ Hid (BkS wr F b p q L0 none aoW capW gW) ∧ Hid (L0 = putL [] (rs0.take j)) ∧ Hid (∀ k, F k → w.heap.size ≤ k) ∧ Hid (RefsAt (with1 F q) wr ao0 g0 off0 rs0) ∧ Hid (RefsAt (with1 F q) wr ao1 g1 off1 rs1) ∧ Hid (Below w.heap.size w wr))
  case atStart => exact ⟨0, _, none, 0, 0, [], by omega, rfl, HK0, hide (by simp [putL]), hide (fun k hk => hk.1), hide (HS0.out (fun k hk => hk.1)), hide (HS1.out (fun k hk => hk.1)), HB0q⟩
  case round =>
    obtain ⟨j, F, aoW, capW, gW, L0, hj, rfl, HK, HLP, HF, HA0, HA1, HB⟩ := hrel
    have HLN : Hid (L0.length ≤ 150) := hide (by
      have := putL_length Okl.nil (rs := rs0.take j) (fun r hr => HOK0.out r (List.mem_of_mem_take hr))
      rw [← HLP.out] at this
      have h2 := List.length_take_le j rs0
      simp at this; omega)
    cases gk with
    | succ m =>
      have hlti : (j : Int) < (n0 : Int) := by omega
      have hge : (0 : Int) ≤ (j : Int) := by omega
      obtain ⟨r, hr⟩ : ∃ r, rs0[j]? = some r := ⟨rs0[j]'(by omega), by rw [List.getElem?_eq_getElem]⟩
      obtain rfl := HA0.out.ad (by omega)
      obtain ⟨k1, k2, k3⟩ := HA0.out.cells j r hr
      have HOR : Hid (OkR r) := hide (HOK0.out r (List.mem_of_getElem? hr))
      have HPS := hide (putL_snoc (l := []) hr)
      have e2 : IntKind.i64.wrap ((j : Int) + 1) = (j : Int) + 1 := IntWalk.i64_in _ ⟨by omega, by omega⟩
      obtain ⟨x, hx⟩ : ∃ x, wr.heap.size = x := ⟨_, rfl⟩
      obtain ⟨w3, hw3⟩ : ∃ w3, wr.alloc (.cells #[.int .i64 r.1.1, .int .i64 r.1.2, .int .i64 r.2] 28) = w3 := ⟨_, rfl⟩
      have HX3 : Hid (BoxR w3 x r) := hide (by rw [← hw3, ← hx]; exact boxR_new _ _ _)
      obtain ⟨y1, y2, y3⟩ := HX3.out
      have HB3 : Hid (Below wr.heap.size wr w3) := hide (by rw [← hw3]; exact below_box _ _)
      have HB3w : Hid (Below w.heap.size w w3) := hide (below_next HB.out HB3.out)
      have HPU := hide (put1_any (HK.out.below HB3.out) HOR.out (by have := HLN.out; omega))
      clear hr
      go_wp2_with (go_at_call 23; refine HPU.out.mono ?_; rintro e w4 ⟨rfl, F4, ao4, cap4, g4, hk4, hf4, ht4⟩; have HK4 := hide hk4; have HF4 := hide hf4; have HT4 := hide ht4; clear hk4 hf4 ht4)
      go_roundg m
      case measure => omega
      case rel => exact ⟨j + 1, F4, ao4, cap4, g4, putA L0 r, by omega, by go_num, HK4, hide (by rw [HPS.out, ← HLP.out]), hide (or_ge HF4.out HF.out HB3w.out.size), hide ((HA0.out.below HB3.out).keep HT4.out HF4.out), hide ((HA1.out.below HB3.out).keep HT4.out HF4.out), hide (HB3w.out.trans (HT4.out.below HB3w.out.size (with1_ge HF.out HQ0.out)))⟩
    | zero =>
      have hnlt : ¬ ((j : Nat) : Int) < (n0 : Int) := by omega
      obtain ⟨nw, hnw⟩ : ∃ nw, L0.length = nw := ⟨_, rfl⟩
      have hnwl : nw ≤ 150 := by have := HLN.out; omega
      have HL0K := hide HK.out.rf.ok
      have cp1 := HK.out.cp
      have cq1 := HK.out.cq
      rw [hnw] at cq1
      have HBG := hide (begin_ok HK.out.rf)
      go_wp2_with (go_at_call 13; refine HBG.out.mono ?_; rintro e w5 ⟨rfl, hr5⟩; have HR5 := hide hr5; clear hr5)
      have HK5 := hide (HK.out.turn HR5.out.rf HR5.out.turn ext_or)
      have HF5 := hide (or_ge (ext_or (F := F) (w := wr) (w' := w5)) HF.out HB.out.size)
      have HA5 := hide (HA1.out.keep (turn_with q HR5.out.turn) (ext_or (F := F) (w := wr) (w' := w5)))
      have HB5 := hide (Rf.turn_below HR5.out HF.out HB.out)
      clear HA0 HA1 HBG HS0 HS1 HV0 HV1
      go_loopg [56] n1 (fun k i wr => ∃ (j : Nat) (F : Nat → Prop) (aoL : Option Addr) (capL gL : Nat) (L : List Ref), j + k = n1 ∧ i = .int .i64 (j : Int) ∧ Hid (BkS wr F b p q L (some L0) aoL capL gL) ∧ Hid (L = putL L0 (rs1.take j)) ∧ Hid (∀ k, F k → w.heap.size ≤ k) ∧ Hid (RefsAt (with1 F q) wr aoW gW 0 L0) ∧ Hid (RefsAt (with1 F q) wr ao1 g1 off1 rs1) ∧ Hid (Below w.heap.size w wr))
      case atStart => exact ⟨0, _, aoW, capW, gW, L0, by omega, rfl, HK5, hide (by simp [putL]), HF5, hide HK5.out.ls, HA5, HB5⟩
      case round =>
        clear HK HLP HF HB HK5 HF5 HA5 HB5 HR5 cp1 cq1
        obtain ⟨j2, F, aoL, capL, gL, L, hj2, rfl, HK, HLP, HF, HAW, HA1, HB⟩ := hrel
        have HLN2 : Hid (L.length ≤ 300) := hide (by
          have := putL_length HL0K.out (rs := rs1.take j2) (fun r hr => HOK1.out r (List.mem_of_mem_take hr))
          rw [← HLP.out] at this
          have h2 := List.length_take_le j2 rs1
          omega)
        cases gk with
        | succ m =>
          have hlti : (j2 : Int) < (n1 : Int) := by omega
          have hge : (0 : Int) ≤ (j2 : Int) := by omega
          obtain ⟨r, hr⟩ : ∃ r, rs1[j2]? = some r := ⟨rs1[j2]'(by omega), by rw [List.getElem?_eq_getElem]⟩
          obtain rfl := HA1.out.ad (by omega)
          obtain ⟨k1, k2, k3⟩ := HA1.out.cells j2 r hr
          have HOR : Hid (OkR r) := hide (HOK1.out r (List.mem_of_getElem? hr))
          have HPS := hide (putL_snoc (l := L0) hr)
          have e2 : IntKind.i64.wrap ((j2 : Int) + 1) = (j2 : Int) + 1 := IntWalk.i64_in _ ⟨by omega, by omega⟩
          obtain ⟨x, hx⟩ : ∃ x, wr.heap.size = x := ⟨_, rfl⟩
          obtain ⟨w3, hw3⟩ : ∃ w3, wr.alloc (.cells #[.int .i64 r.1.1, .int .i64 r.1.2, .int .i64 r.2] 28) = w3 := ⟨_, rfl⟩
          have HX3 : Hid (BoxR w3 x r) := hide (by rw [← hw3, ← hx]; exact boxR_new _ _ _)
          obtain ⟨y1, y2, y3⟩ := HX3.out
          have HB3 : Hid (Below wr.heap.size wr w3) := hide (by rw [← hw3]; exact below_box _ _)
          have HB3w : Hid (Below w.heap.size w w3) := hide (below_next HB.out HB3.out)
          have HPU := hide (put1_any (HK.out.below HB3.out) HOR.out (by have := HLN2.out; omega))
          clear hr
          go_wp2_with (go_at_call 23; refine HPU.out.mono ?_; rintro e w4 ⟨rfl, F4, ao4, cap4, g4, hk4, hf4, ht4⟩; have HK4 := hide hk4; have HF4 := hide hf4; have HT4 := hide ht4; clear hk4 hf4 ht4)
          go_roundg m
          case measure => omega
          case rel => exact ⟨j2 + 1, F4, ao4, cap4, g4, putA L r, by omega, by go_num, HK4, hide (by rw [HPS.out, ← HLP.out]), hide (or_ge HF4.out HF.out HB3w.out.size), hide ((HAW.out.below HB3.out).keep HT4.out HF4.out), hide ((HA1.out.below HB3.out).keep HT4.out HF4.out), hide (HB3w.out.trans (HT4.out.below HB3w.out.size (with1_ge HF.out HQ0.out)))⟩
        | zero =>
          have hnlt2 : ¬ ((j2 : Nat) : Int) < (n1 : Int) := by omega
          obtain ⟨nL, hnL⟩ : ∃ nL, L.length = nL := ⟨_, rfl⟩
          have hnLl : nL ≤ 300 := by have := HLN2.out; omega
          have HLK := hide HK.out.rf.ok
          have cp2 := HK.out.cp
          have cq2 := HK.out.cq
          rw [hnL] at cq2
          clear HA1 HLP
          cases bk with
          | true =>
            have HBK := hide (back_ok HK.out.rf)
            have HAFT : Hid (∀ w6, Rfd F b L0 none wr w6 → w6.cell? ⟨p, 0, none⟩ = some (.pointer (some ⟨b, 0, none⟩)) ∧ w6.cell? ⟨q, 0, none⟩ = some (.slice aoL nL capL)) := hide (fun w6 h6 => ⟨cell_same (h6.turn.block p (heap_lt HK.out.bp) HK.out.np) HK.out.cp, by rw [← hnL]; exact cell_same (h6.turn.block q (heap_lt HK.out.bq) HK.out.nq) HK.out.cq⟩)
            go_wp2_with (first
              | (go_at_call 16; refine HBK.out.mono ?_; rintro e w6 ⟨rfl, hr6⟩; have HR6 := hide hr6; obtain ⟨cp3, cq3⟩ := HAFT.out w6 hr6; have HCP3 := hide cp3; clear hr6)
              | (go_at_call 22; refine (len_any HR6.out.rf).mono ?_; rintro e w7 ⟨rfl, hw7⟩; have hw7' := hw7.symm; clear hw7; subst hw7'; rw [hnw]))
            have HL6 := hide (HK.out.ls.keep (turn_with q HR6.out.turn) (ext_or (F := F) (w := wr) (w' := w6)))
            have HW6 := hide (HAW.out.keep (turn_with q HR6.out.turn) (ext_or (F := F) (w := wr) (w' := w6)))
            have HB6 := hide (Rf.turn_below HR6.out HF.out HB.out)
            have HRF6 := hide HR6.out.rf
            obtain ⟨wz, hwz⟩ : ∃ wz, wz = w6 := ⟨_, rfl⟩
            subst hwz
            clear HK HF HAW HB HBK HAFT cp2 cq2 HR6
            go_loopg [77] nL (fun k i wr => ∃ (i3 : Nat), i3 + k = nL ∧ i = .int .i64 (i3 : Int) ∧ Hid (Below wz.heap.size wz wr))
            case atStart => exact ⟨0, by omega, rfl, hide (Below.refl _ _)⟩
            case round =>
              obtain ⟨i3, hi3e, rfl, HBw⟩ := hrel
              cases gk with
              | zero =>
                have hnlt3 : ¬ ((i3 : Nat) : Int) < (nL : Int) := by omega
                go_wp2_with (go_at_call 9; refine (awake_any _).mono ?_; rintro e w9 ⟨rfl, hb9⟩; have HB9 := hide hb9; clear hb9)
                go_ret
                exact ⟨rfl, below_next HB6.out (below_next HBw.out HB9.out)⟩
              | succ m =>
                have hi3 : i3 < nL := by omega
                have hlti : (i3 : Int) < (nL : Int) := by omega
                have hge : (0 : Int) ≤ (i3 : Int) := by omega
                obtain ⟨z, hz⟩ : ∃ z, L[i3]? = some z := ⟨L[i3]'(by omega), by rw [List.getElem?_eq_getElem]⟩
                obtain rfl := HL6.out.ad (by omega)
                obtain ⟨k1, k2, k3⟩ := (HL6.out.below HBw.out).cells i3 z hz
                simp only [Nat.zero_add] at k1 k2 k3
                have hOz : OkO z.1 := HLK.out.own z (List.mem_of_getElem? hz)
                have e2 : IntKind.i64.wrap ((i3 : Int) + 1) = (i3 : Int) + 1 := IntWalk.i64_in _ ⟨by omega, by omega⟩
                obtain ⟨y, hy⟩ : ∃ y, wr.heap.size = y := ⟨_, rfl⟩
                obtain ⟨w8, hw8⟩ : ∃ w8, wr.alloc (.cells #[.int .i64 z.1.1, .int .i64 z.1.2, .int .i64 z.2] 28) = w8 := ⟨_, rfl⟩
                have HBY : Hid (BoxR w8 y z) := hide (by rw [← hw8, ← hy]; exact boxR_new _ _ _)
                have HB8 : Hid (Below wr.heap.size wr w8) := hide (by rw [← hw8]; exact below_box _ _)
                have HB8z : Hid (Below wz.heap.size wz w8) := hide (below_next HBw.out HB8.out)
                have HPP : Hid (∀ wx, Below w8.heap.size w8 wx → wx.cell? ⟨p, 0, none⟩ = some (.pointer (some ⟨b, 0, none⟩))) := hide (fun wx hb => cell_same ((below_next HB8z.out hb).block p (cell_lt HCP3.out)) HCP3.out)
                have HOFA : Hid (∀ wx, Below w8.heap.size w8 wx → Calls Try.prog 21 #[.pointer (some ⟨b, 0, none⟩), encO z.1] wx fun e w' => e = .returned (.int .i64 (ofS L0 z.1)) ∧ Below wx.heap.size wx w') := hide (fun wx hb => of_any (HRF6.out.below (below_next HB8z.out hb)) hOz)
                have HOFB : Hid (∀ wx, Below w8.heap.size w8 wx → Calls Try.prog 24 #[.slice aoW nw capW, encR z] wx fun e w' => e = .returned (.int .i64 (ofS L0 z.1)) ∧ Below wx.heap.size wx w') := hide (fun wx hb => by
                  rw [← hnw]; exact rof_any (HW6.out.below (below_next HB8z.out hb)) (by omega) capW z)
                obtain ⟨a, hofc⟩ : ∃ a, ofS L0 z.1 = a := ⟨_, rfl⟩
                clear hz hOz
                go_wp2_with fail
                refine wp_region_held_drew (S := Below w8.heap.size w8) (by kernel_rfl) (below_drew0 w8) (fun hS => ?_)
                refine take_want 0 (some 81) (.pointer (some ⟨b, 0, none⟩)) rfl rfl rfl (by kernel_rfl) (by kernel_rfl) (by kernel_rfl) (fun _ _ _ h => h) (fun wx hx => exec_load rfl (load_prefs (HPP.out wx hx)) rfl) hS ?_
                simp only [Act.put, List.setIfInBounds_toArray, List.set_cons_zero, List.set_cons_succ]
                refine take_want 1 (some 82) (.pointer (some ⟨y, 0, none⟩)) rfl rfl rfl (by kernel_rfl) (by kernel_rfl) (by kernel_rfl) (fun _ _ _ h => h) (fun wx hx => exec_field rfl (fldR0 _ wx) rfl) hS ?_
                simp only [Act.put, List.setIfInBounds_toArray, List.set_cons_zero, List.set_cons_succ]
                refine take_want 2 (some 83) (.int .i64 z.1.1) rfl rfl rfl (by kernel_rfl) (by kernel_rfl) (by kernel_rfl) (fun _ _ _ h => h) (fun wx hx => exec_load rfl (load_intV (HBY.out.below hx).1) rfl) hS ?_
                simp only [Act.put, List.setIfInBounds_toArray, List.set_cons_zero, List.set_cons_succ]
                refine take_want 3 (some 84) (.pointer (some ⟨y, 1, none⟩)) rfl rfl rfl (by kernel_rfl) (by kernel_rfl) (by kernel_rfl) (fun _ _ _ h => h) (fun wx hx => exec_field rfl (fldR1 _ wx) rfl) hS ?_
                simp only [Act.put, List.setIfInBounds_toArray, List.set_cons_zero, List.set_cons_succ]
                refine take_want 4 (some 85) (.int .i64 z.1.2) rfl rfl rfl (by kernel_rfl) (by kernel_rfl) (by kernel_rfl) (fun _ _ _ h => h) (fun wx hx => exec_load rfl (load_intV (HBY.out.below hx).2.1) rfl) hS ?_
                simp only [Act.put, List.setIfInBounds_toArray, List.set_cons_zero, List.set_cons_succ]
                refine take_want 5 (some 86) (encO z.1) rfl rfl rfl (by kernel_rfl) (by kernel_rfl) (by kernel_rfl) (fun _ _ _ h => h) (fun wx hx => exec_build2 rfl (buildO2 wx _ _) rfl rfl) hS ?_
                simp only [Act.put, List.setIfInBounds_toArray, List.set_cons_zero, List.set_cons_succ]
                refine take_want 7 (some 88) (.slice aoW nw capW) rfl rfl rfl (by kernel_rfl) (by kernel_rfl) (by kernel_rfl) (fun _ _ _ h => h) (fun wx hx => exec_move rfl rfl) hS ?_
                simp only [Act.put, List.setIfInBounds_toArray, List.set_cons_zero, List.set_cons_succ]
                refine take_want 8 (some 89) (encR z) rfl rfl rfl (by kernel_rfl) (by kernel_rfl) (by kernel_rfl) (fun _ _ _ h => h) (fun wx hx => exec_load rfl (HBY.out.below hx).load rfl) hS ?_
                simp only [Act.put, List.setIfInBounds_toArray, List.set_cons_zero, List.set_cons_succ]
                refine call_want 6 (some 87) rfl rfl rfl (by kernel_rfl) (exec_call2 rfl enterOf rfl rfl rfl) ((HOFA.out _ hS).mono ?_)
                rintro e' wo1 ⟨rfl, hbw⟩
                have hO1 := below_next hS hbw
                clear hbw
                rw [hofc]
                refine ⟨_, rfl, hO1, ?_⟩
                simp only [Act.put, List.setIfInBounds_toArray, List.set_cons_zero, List.set_cons_succ]
                refine call_want 9 (some 90) rfl rfl rfl (by kernel_rfl) (exec_call2 rfl enterROf rfl rfl rfl) ((HOFB.out _ hO1).mono ?_)
                rintro e' wo2 ⟨rfl, hbw⟩
                have hO2 := below_next hO1 hbw
                clear hbw
                rw [hofc]
                refine ⟨_, rfl, hO2, ?_⟩
                simp only [Act.put, List.setIfInBounds_toArray, List.set_cons_zero, List.set_cons_succ]
                refine take_want 10 (some 91) (.bool false) rfl rfl rfl (by kernel_rfl) (by kernel_rfl) (by kernel_rfl) (fun _ _ _ h => h) (fun wx hx => exec_neqN rfl rfl rfl rfl) hO2 ?_
                simp only [Act.put, List.setIfInBounds_toArray, List.set_cons_zero, List.set_cons_succ]
                refine wpAnyH_done (by kernel_rfl) ?_ _
                have HB10 : Hid (Below wz.heap.size wz wo2) := hide (below_next HB8z.out hO2)
                clear hS hO1 hO2
                go_wp2_with fail
                go_roundg m
                case measure => omega
                case rel => exact ⟨i3 + 1, by omega, by go_num, HB10⟩
          | false =>
            have HCM := hide (commit_ok HK.out.rf (by omega))
            have HAFT : Hid (∀ w6, Turn F wr w6 → w6.cell? ⟨p, 0, none⟩ = some (.pointer (some ⟨b, 0, none⟩)) ∧ w6.cell? ⟨q, 0, none⟩ = some (.slice aoL nL capL)) := hide (fun w6 h6 => ⟨cell_same (h6.block p (heap_lt HK.out.bp) HK.out.np) HK.out.cp, by rw [← hnL]; exact cell_same (h6.block q (heap_lt HK.out.bq) HK.out.nq) HK.out.cq⟩)
            obtain ⟨K, hKe⟩ : ∃ K, chO L0 L = K := ⟨_, rfl⟩
            obtain ⟨cs, hcs⟩ : ∃ cs, chS L0 L = cs := ⟨_, rfl⟩
            obtain ⟨nC, hnC⟩ : ∃ nC, cs.length = nC := ⟨_, rfl⟩
            have hnCK : K.length = nC := by rw [← hnC, ← hcs, chS_length, hKe]
            have hnCl : nC ≤ 450 := by have := chO_length HL0K.out HLK.out; rw [hKe] at this; omega
            unfold Commd at HCM
            rw [hcs, hnC] at HCM
            go_wp2_with (go_at_call 14; refine HCM.out.mono ?_; rintro e w6 ⟨v6, rfl, hv6, hr6, ht6⟩; rw [← hnC] at hv6; obtain ⟨aoC, capC, gC, rfl, hC⟩ := chgs_at (F := F) hv6 HK.out.rf.bd; rw [hnC]; have HC6 := hide hC; have HRF6 := hide hr6; have HT6 := hide ht6; obtain ⟨cp3, cq3⟩ := HAFT.out w6 ht6; have HCP3 := hide cp3; have HCQ3 := hide cq3; clear hv6 hC hr6 ht6)
            have HL6 := hide (HK.out.ls.keep (turn_with q HT6.out) (fun k (h : F k) => .inl h))
            have HW6 := hide (HAW.out.keep (turn_with q HT6.out) (fun k (h : F k) => .inl h))
            have HB6 : Hid (Below w.heap.size w w6) := hide (HB.out.trans (HT6.out.below HB.out.size HF.out))
            obtain ⟨wz, hwz⟩ : ∃ wz, wz = w6 := ⟨_, rfl⟩
            subst hwz
            clear HK HF HAW HB HCM HAFT cp2 cq2 HT6
            go_loopg [103, 12] nC (fun k i wv wr => ∃ (i3 : Nat) (aoV : Option Addr) (capV gV : Nat) (V : List Ref), i3 + k = nC ∧ i = .int .i64 (i3 : Int) ∧ wv = .slice aoV V.length capV ∧ Hid (V = chL L0 (cs.take i3)) ∧ Hid (RefsAt (fun _ => False) wr aoV gV 0 V) ∧ Hid (Below wz.heap.size wz wr))
            case atStart => exact ⟨0, aoW, capW, gW, L0, by omega, rfl, by rw [hnw], hide (by simp [chL]), hide HW6.out.free, hide (Below.refl _ _)⟩
            case round =>
              obtain ⟨i3, aoV, capV, gV, V, hi3e, rfl, rfl, HVE, HVA, HBw⟩ := hrel
              obtain ⟨nV, hnV⟩ : ∃ nV, V.length = nV := ⟨_, rfl⟩
              rw [hnV]
              cases gk with
              | zero =>
                have hnlt3 : ¬ ((i3 : Nat) : Int) < (nC : Int) := by omega
                have hVL : V = L := by
                  have h1 := HVE.out
                  rw [List.take_of_length_le (by omega), ← hcs, chL_all HL0K.out HLK.out] at h1
                  exact h1
                have hnVL : nV = nL := by rw [← hnV, hVL, hnL]
                have cq4 : wr.cell? ⟨q, 0, none⟩ = some (.slice aoL nL capL) := cell_same (HBw.out.block q (cell_lt HCQ3.out)) HCQ3.out
                have HRC : Hid (Calls Try.prog 15 #[.slice aoV nV capV, .slice aoL nL capL] wr (RChd wr [])) := hide (by
                  have h1 := HVA.out
                  rw [hVL] at h1
                  have h2 := rchanges_any h1 (HL6.out.below HBw.out).free HLK.out HLK.out (by omega) (by omega) capV capL
                  rw [chS_self, hnL] at h2
                  rw [hnVL]; exact h2)
                clear hVL hnVL
                go_wp2_with (first
                  | (go_at_call 15; refine HRC.out.mono ?_; rintro e w8 ⟨v8, rfl, hv8, hb8⟩; obtain ⟨ao8, cap8, rfl⟩ := ownsRow_form hv8; have HB8 := hide hb8; clear hv8 hb8)
                  | (go_at_call 9; refine (awake_any _).mono ?_; rintro e w9 ⟨rfl, hb9⟩; have HB9 := hide hb9; clear hb9))
                go_ret
                exact ⟨rfl, below_next HB6.out (below_next HBw.out (below_next HB8.out HB9.out))⟩
              | succ m =>
                have hi3 : i3 < nC := by omega
                have hlti : (i3 : Int) < (nC : Int) := by omega
                have hge : (0 : Int) ≤ (i3 : Int) := by omega
                obtain ⟨o, ho⟩ : ∃ o, K[i3]? = some o := ⟨K[i3]'(by omega), by rw [List.getElem?_eq_getElem]⟩
                obtain rfl := HC6.out.ad (by omega)
                have hoK : o ∈ chO L0 L := by rw [hKe]; exact List.mem_of_getElem? ho
                have hcat : cs[i3]? = some (o, ofS L0 o, ofS L o) := by rw [← hcs]; exact chS_at (by rw [hKe]; exact ho)
                have hOo : OkO o := chO_ok HL0K.out HLK.out o hoK
                have hne0 : ofS L0 o ≠ ofS L o := (mem_chO HL0K.out HLK.out).1 hoK
                have hfr : ofS V o = ofS L0 o := by rw [HVE.out, ← hcs]; exact chL_from HL0K.out HLK.out (by rw [hKe]; exact ho)
                have HVK : Hid (Okl V) := hide (by rw [HVE.out, ← hcs]; exact (chL_take HL0K.out HLK.out i3).1)
                have HVL : Hid (V.length ≤ 1000) := hide (by
                  have h1 := chL_length (cs.take i3) L0 HL0K.out.srt
                  rw [← HVE.out] at h1
                  have h2 := List.length_take_le i3 cs
                  omega)
                have HSN := hide (chL_snoc (was := L0) hcat)
                rw [← HVE.out] at HSN
                have HPU0 := hide (HC6.out.below HBw.out)
                obtain ⟨k1, k2, k3, k4⟩ := HPU0.out.cells i3 _ hcat
                obtain ⟨a, hofc⟩ : ∃ a, ofS L0 o = a := ⟨_, rfl⟩
                obtain ⟨d, hofd⟩ : ∃ d, ofS L o = d := ⟨_, rfl⟩
                rw [hofc] at hne0 hfr
                rw [hofd] at hne0
                simp only [hofc, hofd] at k1 k2 k3 k4 HSN
                have hne := hne0
                have HOFE := hide hfr
                have e2 : IntKind.i64.wrap ((i3 : Int) + 1) = (i3 : Int) + 1 := IntWalk.i64_in _ ⟨by omega, by omega⟩
                obtain ⟨y, hy⟩ : ∃ y, wr.heap.size = y := ⟨_, rfl⟩
                obtain ⟨w8, hw8⟩ : ∃ w8, wr.alloc (.cells #[.int .i64 o.1, .int .i64 o.2, .int .i64 a, .int .i64 d] 45) = w8 := ⟨_, rfl⟩
                have HBY : Hid (BoxC w8 y (o, a, d)) := hide (by rw [← hw8, ← hy]; exact boxC_new _ (o, a, d) _)
                have HB8 : Hid (Below wr.heap.size wr w8) := hide (by rw [← hw8]; exact below_box _ _)
                have HB8z : Hid (Below wz.heap.size wz w8) := hide (below_next HBw.out HB8.out)
                have HPP : Hid (∀ wx, Below w8.heap.size w8 wx → wx.cell? ⟨p, 0, none⟩ = some (.pointer (some ⟨b, 0, none⟩))) := hide (fun wx hb => cell_same ((below_next HB8z.out hb).block p (cell_lt HCP3.out)) HCP3.out)
                have HOFA : Hid (∀ wx, Below w8.heap.size w8 wx → Calls Try.prog 21 #[.pointer (some ⟨b, 0, none⟩), encO o] wx fun e w' => e = .returned (.int .i64 (ofS L o)) ∧ Below wx.heap.size wx w') := hide (fun wx hb => of_any (HRF6.out.below (below_next HB8z.out hb)) hOo)
                have HOFV : Hid (∀ wx, Below w8.heap.size w8 wx → Calls Try.prog 24 #[.slice aoV nV capV, encR (o, 0)] wx fun e w' => e = .returned (.int .i64 (ofS V o)) ∧ Below wx.heap.size wx w') := hide (fun wx hb => by
                  rw [← hnV]; exact rof_any (HVA.out.below (below_next HB8.out hb)) (by have := HVL.out; omega) capV (o, 0))
                have HRP : Hid (∀ wx, Below w8.heap.size w8 wx → Calls Try.prog 12 #[.slice aoV nV capV, encR (o, d)] wx (RPutd wx (putS V o d))) := hide (fun wx hb => by
                  rw [← hnV]; exact rput_any (HVA.out.below (below_next HB8.out hb)) HVK.out.srt (by have := HVL.out; omega) capV (o, d))
                clear ho hoK hcat hOo hne0 hfr HPU0
                go_wp2_with fail
                refine wp_region_held_drew (S := Below w8.heap.size w8) (by kernel_rfl) (below_drew0 w8) (fun hS => ?_)
                refine take_want 0 (some 107) (.pointer (some ⟨y, 2, none⟩)) rfl rfl rfl (by kernel_rfl) (by kernel_rfl) (by kernel_rfl) (fun _ _ _ h => h) (fun wx hx => exec_field rfl (fldC1 _ wx) rfl) hS ?_
                simp only [Act.put, List.setIfInBounds_toArray, List.set_cons_zero, List.set_cons_succ]
                refine take_want 1 (some 108) (.int .i64 a) rfl rfl rfl (by kernel_rfl) (by kernel_rfl) (by kernel_rfl) (fun _ _ _ h => h) (fun wx hx => exec_load rfl (load_intV (HBY.out.below hx).2.2.1) rfl) hS ?_
                simp only [Act.put, List.setIfInBounds_toArray, List.set_cons_zero, List.set_cons_succ]
                refine take_want 2 (some 109) (.slice aoV nV capV) rfl rfl rfl (by kernel_rfl) (by kernel_rfl) (by kernel_rfl) (fun _ _ _ h => h) (fun wx hx => exec_move rfl rfl) hS ?_
                simp only [Act.put, List.setIfInBounds_toArray, List.set_cons_zero, List.set_cons_succ]
                refine take_want 3 (some 110) (.pointer (some ⟨y, 0, none⟩)) rfl rfl rfl (by kernel_rfl) (by kernel_rfl) (by kernel_rfl) (fun _ _ _ h => h) (fun wx hx => exec_field rfl (fldC0 _ wx) rfl) hS ?_
                simp only [Act.put, List.setIfInBounds_toArray, List.set_cons_zero, List.set_cons_succ]
                refine take_want 4 (some 111) (.pointer (some ⟨y, 0, none⟩)) rfl rfl rfl (by kernel_rfl) (by kernel_rfl) (by kernel_rfl) (fun _ _ _ h => h) (fun wx hx => exec_field rfl (fldO0 _ wx) rfl) hS ?_
                simp only [Act.put, List.setIfInBounds_toArray, List.set_cons_zero, List.set_cons_succ]
                refine take_want 5 (some 112) (.int .i64 o.1) rfl rfl rfl (by kernel_rfl) (by kernel_rfl) (by kernel_rfl) (fun _ _ _ h => h) (fun wx hx => exec_load rfl (load_intV (HBY.out.below hx).1) rfl) hS ?_
                simp only [Act.put, List.setIfInBounds_toArray, List.set_cons_zero, List.set_cons_succ]
                refine take_want 6 (some 113) (.pointer (some ⟨y, 0, none⟩)) rfl rfl rfl (by kernel_rfl) (by kernel_rfl) (by kernel_rfl) (fun _ _ _ h => h) (fun wx hx => exec_field rfl (fldC0 _ wx) rfl) hS ?_
                simp only [Act.put, List.setIfInBounds_toArray, List.set_cons_zero, List.set_cons_succ]
                refine take_want 7 (some 114) (.pointer (some ⟨y, 1, none⟩)) rfl rfl rfl (by kernel_rfl) (by kernel_rfl) (by kernel_rfl) (fun _ _ _ h => h) (fun wx hx => exec_field rfl (fldO1 _ wx) rfl) hS ?_
                simp only [Act.put, List.setIfInBounds_toArray, List.set_cons_zero, List.set_cons_succ]
                refine take_want 8 (some 115) (.int .i64 o.2) rfl rfl rfl (by kernel_rfl) (by kernel_rfl) (by kernel_rfl) (fun _ _ _ h => h) (fun wx hx => exec_load rfl (load_intV (HBY.out.below hx).2.1) rfl) hS ?_
                simp only [Act.put, List.setIfInBounds_toArray, List.set_cons_zero, List.set_cons_succ]
                refine take_want 9 (some 116) (encR (o, 0)) rfl rfl rfl (by kernel_rfl) (by kernel_rfl) (by kernel_rfl) (fun _ _ _ h => h) (fun wx hx => exec_build2 rfl (buildR2 wx o) rfl rfl) hS ?_
                simp only [Act.put, List.setIfInBounds_toArray, List.set_cons_zero, List.set_cons_succ]
                refine call_want 10 (some 117) rfl rfl rfl (by kernel_rfl) (exec_call2 rfl enterROf rfl rfl rfl) ((HOFV.out _ hS).mono ?_)
                rintro e' wo1 ⟨rfl, hbw⟩
                have hO1 := below_next hS hbw
                clear hbw
                rw [HOFE.out]
                refine ⟨_, rfl, hO1, ?_⟩
                simp only [Act.put, List.setIfInBounds_toArray, List.set_cons_zero, List.set_cons_succ]
                refine take_want 11 (some 118) (.bool false) rfl rfl rfl (by kernel_rfl) (by kernel_rfl) (by kernel_rfl) (fun _ _ _ h => h) (fun wx hx => exec_neqN rfl rfl rfl rfl) hO1 ?_
                simp only [Act.put, List.setIfInBounds_toArray, List.set_cons_zero, List.set_cons_succ]
                refine take_want 12 (some 119) (.bool false) rfl rfl rfl (by kernel_rfl) (by kernel_rfl) (by kernel_rfl) (fun _ _ _ h => h) (fun wx hx => exec_move rfl rfl) hO1 ?_
                simp only [Act.put, List.setIfInBounds_toArray, List.set_cons_zero, List.set_cons_succ]
                refine take_want 13 (some 120) (.pointer (some ⟨y, 3, none⟩)) rfl rfl rfl (by kernel_rfl) (by kernel_rfl) (by kernel_rfl) (fun _ _ _ h => h) (fun wx hx => exec_field rfl (fldC2 _ wx) rfl) hO1 ?_
                simp only [Act.put, List.setIfInBounds_toArray, List.set_cons_zero, List.set_cons_succ]
                refine take_want 14 (some 121) (.int .i64 d) rfl rfl rfl (by kernel_rfl) (by kernel_rfl) (by kernel_rfl) (fun _ _ _ h => h) (fun wx hx => exec_load rfl (load_intV (HBY.out.below hx).2.2.2) rfl) hO1 ?_
                simp only [Act.put, List.setIfInBounds_toArray, List.set_cons_zero, List.set_cons_succ]
                refine take_want 15 (some 122) (.pointer (some ⟨b, 0, none⟩)) rfl rfl rfl (by kernel_rfl) (by kernel_rfl) (by kernel_rfl) (fun _ _ _ h => h) (fun wx hx => exec_load rfl (load_prefs (HPP.out wx hx)) rfl) hO1 ?_
                simp only [Act.put, List.setIfInBounds_toArray, List.set_cons_zero, List.set_cons_succ]
                refine take_want 16 (some 123) (.pointer (some ⟨y, 0, none⟩)) rfl rfl rfl (by kernel_rfl) (by kernel_rfl) (by kernel_rfl) (fun _ _ _ h => h) (fun wx hx => exec_field rfl (fldC0 _ wx) rfl) hO1 ?_
                simp only [Act.put, List.setIfInBounds_toArray, List.set_cons_zero, List.set_cons_succ]
                refine take_want 17 (some 124) (encO o) rfl rfl rfl (by kernel_rfl) (by kernel_rfl) (by kernel_rfl) (fun _ _ _ h => h) (fun wx hx => exec_load rfl (HBY.out.below hx).own.load rfl) hO1 ?_
                simp only [Act.put, List.setIfInBounds_toArray, List.set_cons_zero, List.set_cons_succ]
                refine call_want 18 (some 125) rfl rfl rfl (by kernel_rfl) (exec_call2 rfl enterOf rfl rfl rfl) ((HOFA.out _ hO1).mono ?_)
                rintro e' wo2 ⟨rfl, hbw⟩
                have hO2 := below_next hO1 hbw
                clear hbw
                rw [hofd]
                refine ⟨_, rfl, hO2, ?_⟩
                simp only [Act.put, List.setIfInBounds_toArray, List.set_cons_zero, List.set_cons_succ]
                refine take_want 19 (some 126) (.bool false) rfl rfl rfl (by kernel_rfl) (by kernel_rfl) (by kernel_rfl) (fun _ _ _ h => h) (fun wx hx => exec_neqN rfl rfl rfl rfl) hO2 ?_
                simp only [Act.put, List.setIfInBounds_toArray, List.set_cons_zero, List.set_cons_succ]
                refine take_want 20 (some 127) (.bool false) rfl rfl rfl (by kernel_rfl) (by kernel_rfl) (by kernel_rfl) (fun _ _ _ h => h) (fun wx hx => exec_pickF rfl rfl rfl) hO2 ?_
                simp only [Act.put, List.setIfInBounds_toArray, List.set_cons_zero, List.set_cons_succ]
                refine take_want 21 (some 128) (.bool false) rfl rfl rfl (by kernel_rfl) (by kernel_rfl) (by kernel_rfl) (fun _ _ _ h => h) (fun wx hx => exec_move rfl rfl) hO2 ?_
                simp only [Act.put, List.setIfInBounds_toArray, List.set_cons_zero, List.set_cons_succ]
                refine take_want 22 (some 129) (.pointer (some ⟨y, 2, none⟩)) rfl rfl rfl (by kernel_rfl) (by kernel_rfl) (by kernel_rfl) (fun _ _ _ h => h) (fun wx hx => exec_field rfl (fldC1 _ wx) rfl) hO2 ?_
                simp only [Act.put, List.setIfInBounds_toArray, List.set_cons_zero, List.set_cons_succ]
                refine take_want 23 (some 130) (.int .i64 a) rfl rfl rfl (by kernel_rfl) (by kernel_rfl) (by kernel_rfl) (fun _ _ _ h => h) (fun wx hx => exec_load rfl (load_intV (HBY.out.below hx).2.2.1) rfl) hO2 ?_
                simp only [Act.put, List.setIfInBounds_toArray, List.set_cons_zero, List.set_cons_succ]
                refine take_want 24 (some 131) (.pointer (some ⟨y, 3, none⟩)) rfl rfl rfl (by kernel_rfl) (by kernel_rfl) (by kernel_rfl) (fun _ _ _ h => h) (fun wx hx => exec_field rfl (fldC2 _ wx) rfl) hO2 ?_
                simp only [Act.put, List.setIfInBounds_toArray, List.set_cons_zero, List.set_cons_succ]
                refine take_want 25 (some 132) (.int .i64 d) rfl rfl rfl (by kernel_rfl) (by kernel_rfl) (by kernel_rfl) (fun _ _ _ h => h) (fun wx hx => exec_load rfl (load_intV (HBY.out.below hx).2.2.2) rfl) hO2 ?_
                simp only [Act.put, List.setIfInBounds_toArray, List.set_cons_zero, List.set_cons_succ]
                refine take_want 26 (some 133) (.bool false) rfl rfl rfl (by kernel_rfl) (by kernel_rfl) (by kernel_rfl) (fun _ _ _ h => h) (fun wx hx => exec_eqlNF rfl rfl rfl hne) hO2 ?_
                simp only [Act.put, List.setIfInBounds_toArray, List.set_cons_zero, List.set_cons_succ]
                refine take_want 27 (some 134) (.bool false) rfl rfl rfl (by kernel_rfl) (by kernel_rfl) (by kernel_rfl) (fun _ _ _ h => h) (fun wx hx => exec_pickF rfl rfl rfl) hO2 ?_
                simp only [Act.put, List.setIfInBounds_toArray, List.set_cons_zero, List.set_cons_succ]
                refine wpAnyH_done (by kernel_rfl) ?_ _
                have HB10 : Hid (Below w8.heap.size w8 wo2) := hide hO2
                obtain ⟨t1, t2, t3, t4⟩ := HBY.out.below hO2
                simp only at t1 t2 t3 t4
                clear hS hO1 hO2 k1 k2 k3 k4
                go_wp2_with (go_at_call 12; refine (HRP.out wo2 HB10.out).mono ?_; rintro e w11 ⟨v11, rfl, hv11, hb11⟩; obtain ⟨aoN, capN, gN, rfl, hN⟩ := refs_at (F := fun _ => False) hv11 (by simp); have HN11 := hide hN; have HB11 := hide hb11; clear hv11 hN hb11)
                go_roundg m
                case measure => omega
                case rel => exact ⟨i3 + 1, aoN, capN, gN, _, by omega, by go_num, rfl, hide HSN.out.symm, HN11, hide (below_next HB8z.out (below_next HB10.out HB11.out))⟩
end Go.Proofs.Ytjopdejgijojmaa
