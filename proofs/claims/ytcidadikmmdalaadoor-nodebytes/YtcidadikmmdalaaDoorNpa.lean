/- Parse. -/
import Derived.Test.YtcidadikmmdalaaDoorNp1
namespace Go.Proofs.YtcidadikmmdalaaDoor
open Go.RowKit Go.Extern

theorem enterULong (args : Array Value) (w : World) : (callFunc 36 args).run Tryd.prog w = .ok (.enter 36 args) w := by kernel_rfl
theorem lit1Q (w : World) (k : Int) : (Instr.buildSlice 22 1 #[(0, .int .i64 k)]).run Tryd.prog w = .ok (.slice (some ⟨w.heap.size, 0, none⟩) 1 1) (w.alloc (.cells #[.int .i64 k] 3)) := by kernel_rfl
theorem store_intsQ {w : World} {b i : Nat} {x : Value} {a : Option Addr} {n c : Nat} (h : w.cell? ⟨b, i, none⟩ = some x) (hf : w.frozen? ⟨b, i, none⟩ = false) : (Instr.storeAt 22 (.pointer (some ⟨b, i, none⟩)) (.slice a n c)).run Tryd.prog w = .ok () (w.setCell ⟨b, i, none⟩ (.slice a n c)) :=
  by go_simp
theorem NpW.drew {w : World} {b5 bu : Nat} {lv : Int} {K V : List Int} {left : List Nat} {sp : Bool} {kv vv : Value} {wr : World} (h : NpW w b5 bu lv K V left sp kv vv wr) : NpW w b5 bu lv K V left sp kv vv wr.drew :=
  ⟨h.md.below (below_drew0 _), h.un.below (below_drew0 _), h.lo, h.hi, Nat.le_trans h.sz (below_drew0 _).size⟩

set_option maxRecDepth 100000 in
set_option maxHeartbeats 4000000 in
theorem nparse_any {w : World} {v : Value} {s : List Nat} (hL : Fr.Laid w) (hv : Fr.Bytes w v s) : Calls Tryd.prog 15 #[v] w (NParsed s w) := by
  have HBA := hide (bel_alloc w (.cells #[.int .i64 0, .slice none 0 0, .slice none 0 0] 30))
  have HV := hide (hv.below HBA.out)
  have HL := hide (hL.below HBA.out)
  have H4 := hide (heap_alloc_new w (.cells #[.int .i64 0, .slice none 0 0, .slice none 0 0] 30))
  obtain ⟨av, cv, gv, ov, hvf, -⟩ := hv
  obtain ⟨ns, hns⟩ : ∃ m, s.length = m := ⟨_, rfl⟩
  rw [hns] at hvf
  subst hvf
  clear hns hL
  have key : Calls Tryd.prog 15 #[.slice av ns cv] w (fun e w' => NParsed s w e w') := by
    go_enter Tryd.func15, Tryd.ntmps15
    go_wp2_with fail
    refine (Fr.get_any 2 s _ _ HL.out HV.out).mono ?_
    rintro e w1 ⟨u, rfl, ho, hb1⟩
    obtain ⟨b, hbE⟩ : ∃ x, Fr.gPay 2 s = x := ⟨_, rfl⟩
    obtain ⟨er, herE⟩ : ∃ x, Fr.gErr 2 s = x := ⟨_, rfl⟩
    rw [hbE] at ho
    rw [herE]
    have HGP := hide hbE
    have HGE0 := hide herE
    have HU := hide ho.bytes
    have HLT := hide ho.bytes.lt
    obtain ⟨au, cu, gu, ou, huf, -⟩ := ho.bytes
    obtain ⟨m, hm⟩ : ∃ m, b.length = m := ⟨_, rfl⟩
    rw [hm] at huf
    subst huf
    have HB1 := hide (nextB HBA.out hb1)
    have H41 := hide (blk_below hb1 H4.out)
    clear ho hb1 hbE herE hm
    by_cases her : er = 0
    rotate_left
    · rw [Fr.errV_code her]
      have d0 := row_cell H41.out 0
      have d1 := row_cell H41.out 1
      have d2 := row_cell H41.out 2
      simp at d0 d1 d2
      have f0 := row_frozen H41.out 0
      have f1 := row_frozen H41.out 1
      have f2 := row_frozen H41.out 2
      go_wp2_with fail
      refine ret_node2 rfl _ _ _ _ rfl (stN_at H41.out 0 (.slice none 0 0) (.slice none 0 0)) rfl ?_
      exact ⟨stN_below HB1.out (Nat.le_refl _) _ _ _, .inr ⟨fun M q hq => her (by rw [← HGE0.out]; exact hq.err), by rw [errV_code (by omega)]; rfl⟩⟩
    subst her
    have HGE := HGE0
    rw [Fr.errV_zero]
    go_wp2_with fail
    refine (Fr.newUnpackerB b _ w1 HU.out).mono ?_
    rintro e w2 ⟨bu, rfl, hbu, hub, hbl, hb2⟩
    have HUB := hide hub
    have HB2 := hide (nextB HB1.out hb2)
    have H42 := hide (blk_below hb2 H41.out)
    have HBU : Hid (w.heap.size < bu ∧ bu < w2.heap.size) := hide ⟨by have := heap_lt H41.out; omega, hbl⟩
    clear hbu hub hbl hb2
    go_wp2_with fail
    refine (Fr.UByteB w2.heap.size bu b false w2 HUB.out).mono ?_
    rintro e w3 ⟨rfl, hu3, hg3⟩
    have HU3 := hide hu3
    have HG3 := hide hg3
    have H43 : Hid (w3.heap[w.heap.size]? = some (.cells #[.int .i64 0, .slice none 0 0, .slice none 0 0] 30 (0, 0))) := hide (by rw [hg3.block _ (heap_lt H42.out) (by have := HBU.out.1; simp; omega)]; exact H42.out)
    have HB3 := hide (HB2.out.grown hg3 HB2.out.size (fun k e => by have := Option.some.inj e; have := HBU.out.1; omega))
    clear hu3 hg3
    obtain ⟨lv, hlv⟩ : ∃ x, Fr.rdN b 1 = x := ⟨_, rfl⟩
    have HLV := hide hlv
    rw [hlv]
    clear hlv
    go_wp2_with fail
    obtain ⟨b5, hb5⟩ : ∃ x, w3.heap.size = x := ⟨_, rfl⟩
    have hub5 : Fr.UnpB w3 b5 bu (Fr.rdL b 1) (Fr.rdS b false 1) := by
      obtain ⟨ao, n, cap, k1, k2, k3, k4⟩ := HU3.out
      exact ⟨ao, n, cap, k1, k2, k3, fun a e => by have := k4 a e; have := HG3.out.size; omega⟩
    have HNP0 : Hid (NpW w b5 bu (lv : Int) [] [] (Fr.rdL b 1) (Fr.rdS b false 1) (.slice none 0 0) (.slice none 0 0) (w3.alloc (.cells #[.int .i64 (lv : Int), .slice none 0 0, .slice none 0 0] 30))) :=
      hide ⟨⟨⟨_, _, _, blk_below (bel_alloc _ _) H43.out⟩, by rw [← hb5]; exact heap_alloc_new _ _, Two.nil _ _, nextB HB3.out (bel_alloc _ _)⟩, hub5.below (bel_alloc _ _), HBU.out.1, by have := HBU.out.2; have := HG3.out.size; omega, by simp; omega⟩
    rw [hb5]
    obtain ⟨w4, hw4⟩ : ∃ x, w3.alloc (.cells #[.int .i64 (lv : Int), .slice none 0 0, .slice none 0 0] 30) = x := ⟨_, rfl⟩
    rw [hw4] at HNP0 ⊢
    clear hw4 hb5 hub5 HU3 HG3 H43 HB3
    refine (Fr.UByteB b5 bu _ _ w4 HNP0.out.un).mono ?_
    rintro e w5 ⟨rfl, hu5, hg5⟩
    have HNP := hide (HNP0.out.long hu5 hg5)
    obtain ⟨c, hc⟩ : ∃ x, Fr.rdN (Fr.rdL b 1) 1 = x := ⟨_, rfl⟩
    have hc255 : c ≤ 255 := by rw [← hc]; exact rdN1_le _
    have HUP0 : Hid (UpW s b lv c 0 [] (Fr.rdL (Fr.rdL b 1) 1) (Fr.rdS (Fr.rdL b 1) (Fr.rdS b false 1) 1)) := hide (by have := up_start HGP.out HLT.out; rwa [HLV.out, hc] at this)
    rw [hc]
    clear hu5 hg5 hc HNP0
    go_wp2_with fail
    go_loopg [24] c (fun t i wr => ∃ (j : Nat) (l : List En) (left : List Nat) (sp : Bool) (kv vv : Value), j + t = c ∧ i = .int .i64 (j : Int) ∧ Hid (NpW w b5 bu (lv : Int) (l.map Prod.fst) (l.map Prod.snd) left sp kv vv wr) ∧ Hid (UpW s b lv c j l left sp))
    case atStart => exact ⟨0, [], _, _, _, _, by omega, rfl, HNP, HUP0⟩
    case round =>
      obtain ⟨j, l, left, sp, kv, vv, hj, rfl, HN, HUP⟩ := hrel
      obtain ⟨aK, nK, cK, rfl, -⟩ := HN.out.md.two.hk.form
      obtain ⟨aV, nV, cV, rfl, -⟩ := HN.out.md.two.hv.form
      obtain ⟨z0, z1, z2⟩ := BoxN.cells (T := 30) HN.out.md.h5
      cases gk with
      | zero =>
        obtain rfl : j = c := by omega
        have hnl : ¬ (j : Int) < (j : Int) := by omega
        obtain ⟨x4, y4, z4, h4⟩ := HN.out.md.h4
        have H44 := hide h4
        clear h4
        have hD := Fr.done_any bu left sp wr HN.out.un.unp
        cases hd : (sp || decide (0 < left.length)) with
        | true =>
          simp only [hd, if_true] at hD
          rw [Fr.errV_code (by omega)] at hD
          have d0 := row_cell H44.out 0
          have d1 := row_cell H44.out 1
          have d2 := row_cell H44.out 2
          simp at d0 d1 d2
          have f0 := row_frozen H44.out 0
          have f1 := row_frozen H44.out 1
          have f2 := row_frozen H44.out 2
          go_wp2_with (go_at_call 37; refine hD.mono ?_; rintro e wx ⟨rfl, hwx⟩; subst wx; clear hD)
          refine ret_node2 rfl _ _ _ _ rfl (stN_at H44.out 0 (.slice none 0 0) (.slice none 0 0)) rfl ?_
          exact ⟨stN_below HN.out.md.bel (Nat.le_refl _) _ _ _, .inr ⟨up_bad HUP.out HGP.out hd, by rw [errV_code (by omega)]; rfl⟩⟩
        | false =>
          simp only [hd, Bool.false_eq_true, if_false] at hD
          rw [Fr.errV_zero] at hD
          by_cases hR : Rt (lv : Int) (l.map Prod.fst) (l.map Prod.snd)
          · have hC := check_ok HN.out.md.two.hk.ints HN.out.md.two.hv.ints hR
            go_wp2_with fail
            refine hD.mono ?_
            rintro e wx ⟨rfl, hwx⟩
            subst wx
            clear hD
            go_wp2_with fail
            refine hC.mono ?_
            rintro e w8 ⟨rfl, hb8⟩
            have HB8 := hide (nextB HN.out.md.bel hb8)
            have H48 := hide (blk_below hb8 H44.out)
            have HM8 := hide (HN.out.md.below hb8)
            have HLO := hide HN.out.lo
            have HHI := hide HN.out.hi
            clear hb8 hC z0 z1 z2
            obtain ⟨z0, z1, z2⟩ := BoxN.cells (T := 30) HM8.out.h5
            have d0 := row_cell H48.out 0
            have d1 := row_cell H48.out 1
            have d2 := row_cell H48.out 2
            simp at d0 d1 d2
            have f0 := row_frozen H48.out 0
            have f1 := row_frozen H48.out 1
            have f2 := row_frozen H48.out 2
            go_wp2_with fail
            refine ret_node2 rfl _ _ _ _ rfl (stN_at H48.out (lv : Int) (.slice aK nK cK) (.slice aV nV cV)) rfl ?_
            have ht := HM8.out.two.stN (b := w.heap.size) (by have := HLO.out; have := HHI.out; omega) (lv : Int) (.slice aK nK cK) (.slice aV nV cV)
            exact ⟨stN_below HB8.out (Nat.le_refl _) _ _ _, .inl ⟨lv, l, _, _, up_good HUP.out HGP.out HGE.out hd hR, rfl, ht.hk.ints, ht.hv.ints⟩⟩
          · have hC := check_bad HN.out.md.two.hk.ints HN.out.md.two.hv.ints hR
            rw [errV_code (by omega)] at hC
            go_wp2_with fail
            refine hD.mono ?_
            rintro e wx ⟨rfl, hwx⟩
            subst wx
            clear hD
            go_wp2_with fail
            refine hC.mono ?_
            rintro e w8 ⟨rfl, hb8⟩
            have HB8 := hide (nextB HN.out.md.bel hb8)
            have H48 := hide (blk_below hb8 H44.out)
            clear hb8 hC
            have d0 := row_cell H48.out 0
            have d1 := row_cell H48.out 1
            have d2 := row_cell H48.out 2
            simp at d0 d1 d2
            have f0 := row_frozen H48.out 0
            have f1 := row_frozen H48.out 1
            have f2 := row_frozen H48.out 2
            go_wp2_with fail
            refine ret_node2 rfl _ _ _ _ rfl (stN_at H48.out 0 (.slice none 0 0) (.slice none 0 0)) rfl ?_
            exact ⟨stN_below HB8.out (Nat.le_refl _) _ _ _, .inr ⟨up_not HUP.out HGP.out hd hR, by rw [errV_code (by omega)]; rfl⟩⟩
      | succ t =>
        have hlt : (j : Int) < (c : Int) := by omega
        have e7 : IntKind.i64.wrap ((j : Int) + 1) = (j : Int) + 1 := IntWalk.i64_in _ ⟨by omega, by omega⟩
        have HLK2 : Hid ((l.map Prod.fst).length ≤ 5000) := hide (by have := HUP.out.len; simp; omega)
        have HLV2 : Hid ((l.map Prod.snd).length ≤ 5000) := hide (by have := HUP.out.len; simp; omega)
        go_wp2_with fail
        clear z0 z1 z2
        have pS := hide (nextB HN.out.md.bel (below_drew0 wr))
        have pH := hide (NpW.drew HN.out)
        refine wp_region_held_drew (S := Below w.heap.size w) (by kernel_rfl) pS.out (fun hS => ?_)
        obtain ⟨pd, hpd⟩ : ∃ x, (wr).drew = x := ⟨_, rfl⟩
        simp only [hpd] at hS pH ⊢
        clear hpd pS
        refine take_want 0 (some 26) (.pointer (some ⟨b5, 0 + 1, none⟩)) rfl rfl rfl (by kernel_rfl) (by kernel_rfl) (by kernel_rfl) (fun _ _ _ h => h) (fun wx hx => exec_field rfl (fldN1 _ _ wx) rfl) hS ?_
        simp only [Act.put, List.setIfInBounds_toArray, List.set_cons_zero, List.set_cons_succ]
        refine take_want 2 (some 28) (.pointer (some ⟨bu, 0, none⟩)) rfl rfl rfl (by kernel_rfl) (by kernel_rfl) (by kernel_rfl) (fun _ _ _ h => h) (fun wx hx => exec_move rfl rfl) hS ?_
        simp only [Act.put, List.setIfInBounds_toArray, List.set_cons_zero, List.set_cons_succ]
        have pC := (BoxN.cells (T := 30) pH.out.md.h5).2.1
        refine value_or_call 1 3 (some 27) (some 29) rfl rfl rfl rfl rfl rfl (by kernel_rfl) (exec_load rfl (load_intsP pC) rfl) (exec_call1 rfl enterULong rfl rfl) hS ?_ ((Fr.ULongB b5 bu left sp pd pH.out.un).mono ?_)
        · simp only [Act.put, List.setIfInBounds_toArray, List.set_cons_zero, List.set_cons_succ]
          refine call_want 3 (some 29) rfl rfl rfl (by kernel_rfl) (exec_call1 rfl enterULong rfl rfl) ((Fr.ULongB b5 bu left sp pd pH.out.un).mono ?_)
          rintro e' pe ⟨rfl, hun, hgr⟩
          have pG := pH.out.long hun hgr
          refine ⟨_, rfl, pG.md.bel, ?_⟩
          simp only [Act.put, List.setIfInBounds_toArray, List.set_cons_zero, List.set_cons_succ]
          obtain ⟨pu, pw, pa, pc, pf, pb, pn⟩ := pG.key (k := (Fr.rdN left 8 : Nat)) (rdN_i64 _) (HLK2.out)
          refine only_value 4 (some 30) rfl rfl rfl (by kernel_rfl) (exec_one rfl (lit1Q pe (Fr.rdN left 8 : Nat)) rfl) (nextB pG.md.bel (bel_alloc pe _)) ?_
          simp only [Act.put, List.setIfInBounds_toArray, List.set_cons_zero, List.set_cons_succ]
          refine only_value 5 (some 31) rfl rfl rfl (by kernel_rfl) (exec_append rfl pa rfl rfl) pb ?_
          simp only [Act.put, List.setIfInBounds_toArray, List.set_cons_zero, List.set_cons_succ]
          refine take_want 6 (some 32) (.pointer (some ⟨b5, 0 + 1, none⟩)) rfl rfl rfl (by kernel_rfl) (by kernel_rfl) (by kernel_rfl) (fun _ _ _ h => h) (fun wx hx => exec_field rfl (fldN1 _ _ wx) rfl) pb ?_
          simp only [Act.put, List.setIfInBounds_toArray, List.set_cons_zero, List.set_cons_succ]
          obtain ⟨pA, pN, pX, rfl, -⟩ := pn.md.two.hk.form
          refine only_skip 7 none rfl rfl rfl (by kernel_rfl) (exec_store rfl (store_intsQ pc pf) rfl rfl) pn.md.bel ?_
          refine wpAnyH_done (by kernel_rfl) ?_ _
          have pF := hide pn
          clear pa pc pf pb pn hS
          obtain ⟨py, hpy⟩ : ∃ x, pw.setCell ⟨b5, 0 + 1, none⟩ (.slice pA pN pX) = x := ⟨_, rfl⟩
          have hpz := hpy
          rw [Nat.zero_add] at hpz
          simp only [hpz] at pF
          simp only [hpy]
          clear hpy hpz
          obtain ⟨z0, z1, z2⟩ := BoxN.cells (T := 30) pF.out.md.h5
          go_wp2_with fail
          clear z0 z1 z2
          have qS := hide (nextB pF.out.md.bel (below_drew0 py))
          have qH := hide (NpW.drew pF.out)
          refine wp_region_held_drew (S := Below w.heap.size w) (by kernel_rfl) qS.out (fun hS => ?_)
          obtain ⟨qd, hqd⟩ : ∃ x, (py).drew = x := ⟨_, rfl⟩
          simp only [hqd] at hS qH ⊢
          clear hqd qS
          refine take_want 0 (some 33) (.pointer (some ⟨b5, 0 + 2, none⟩)) rfl rfl rfl (by kernel_rfl) (by kernel_rfl) (by kernel_rfl) (fun _ _ _ h => h) (fun wx hx => exec_field rfl (fldN2 _ _ wx) rfl) hS ?_
          simp only [Act.put, List.setIfInBounds_toArray, List.set_cons_zero, List.set_cons_succ]
          refine take_want 2 (some 35) (.pointer (some ⟨bu, 0, none⟩)) rfl rfl rfl (by kernel_rfl) (by kernel_rfl) (by kernel_rfl) (fun _ _ _ h => h) (fun wx hx => exec_move rfl rfl) hS ?_
          simp only [Act.put, List.setIfInBounds_toArray, List.set_cons_zero, List.set_cons_succ]
          have qC := (BoxN.cells (T := 30) qH.out.md.h5).2.2
          refine value_or_call 1 3 (some 34) (some 36) rfl rfl rfl rfl rfl rfl (by kernel_rfl) (exec_load rfl (load_intsP qC) rfl) (exec_call1 rfl enterULong rfl rfl) hS ?_ ((Fr.ULongB b5 bu (Fr.rdL left 8) (Fr.rdS left sp 8) qd qH.out.un).mono ?_)
          · simp only [Act.put, List.setIfInBounds_toArray, List.set_cons_zero, List.set_cons_succ]
            refine call_want 3 (some 36) rfl rfl rfl (by kernel_rfl) (exec_call1 rfl enterULong rfl rfl) ((Fr.ULongB b5 bu (Fr.rdL left 8) (Fr.rdS left sp 8) qd qH.out.un).mono ?_)
            rintro e' qe ⟨rfl, hun, hgr⟩
            have qG := qH.out.long hun hgr
            refine ⟨_, rfl, qG.md.bel, ?_⟩
            simp only [Act.put, List.setIfInBounds_toArray, List.set_cons_zero, List.set_cons_succ]
            obtain ⟨qu, qw, qa, qc, qf, qb, qn⟩ := qG.val (k := (Fr.rdN (Fr.rdL left 8) 8 : Nat)) (rdN_i64 _) (HLV2.out)
            refine only_value 4 (some 37) rfl rfl rfl (by kernel_rfl) (exec_one rfl (lit1Q qe (Fr.rdN (Fr.rdL left 8) 8 : Nat)) rfl) (nextB qG.md.bel (bel_alloc qe _)) ?_
            simp only [Act.put, List.setIfInBounds_toArray, List.set_cons_zero, List.set_cons_succ]
            refine only_value 5 (some 38) rfl rfl rfl (by kernel_rfl) (exec_append rfl qa rfl rfl) qb ?_
            simp only [Act.put, List.setIfInBounds_toArray, List.set_cons_zero, List.set_cons_succ]
            refine take_want 6 (some 39) (.pointer (some ⟨b5, 0 + 2, none⟩)) rfl rfl rfl (by kernel_rfl) (by kernel_rfl) (by kernel_rfl) (fun _ _ _ h => h) (fun wx hx => exec_field rfl (fldN2 _ _ wx) rfl) qb ?_
            simp only [Act.put, List.setIfInBounds_toArray, List.set_cons_zero, List.set_cons_succ]
            obtain ⟨qA, qN, qX, rfl, -⟩ := qn.md.two.hv.form
            refine only_skip 7 none rfl rfl rfl (by kernel_rfl) (exec_store rfl (store_intsQ qc qf) rfl rfl) qn.md.bel ?_
            refine wpAnyH_done (by kernel_rfl) ?_ _
            have qF := hide qn
            clear qa qc qf qb qn hS
            obtain ⟨qy, hqy⟩ : ∃ x, qw.setCell ⟨b5, 0 + 2, none⟩ (.slice qA qN qX) = x := ⟨_, rfl⟩
            have hqz := hqy
            rw [Nat.zero_add] at hqz
            simp only [hqz] at qF
            simp only [hqy]
            clear hqy hqz
            go_wp2_with fail
            go_roundg t
            case measure => omega
            case rel => exact ⟨j + 1, _, _, _, _, _, by omega, by go_num, hide (by rw [List.map_append, List.map_append]; exact qF.out), hide (up_step HUP.out HGP.out (by omega))⟩
          · rintro e' qe ⟨rfl, hun, hgr⟩
            have qG := qH.out.long hun hgr
            refine ⟨_, rfl, qG.md.bel, ?_⟩
            simp only [Act.put, List.setIfInBounds_toArray, List.set_cons_zero, List.set_cons_succ]
            have qC2 := (BoxN.cells (T := 30) qG.md.h5).2.2
            have qC3 := (BoxN.cells (T := 30) (blk_below (bel_alloc qe (.cells #[.int .i64 (Fr.rdN (Fr.rdL left 8) 8 : Nat)] 3)) qG.md.h5)).2.2
            refine both_value 1 4 (some 34) (some 37) rfl rfl rfl rfl rfl rfl (by kernel_rfl) (by kernel_rfl) (by kernel_rfl) (vi := (.slice aV nV cV)) (vj := .slice (some ⟨qe.heap.size, 0, none⟩) 1 1) (w' := qe.alloc (.cells #[.int .i64 (Fr.rdN (Fr.rdL left 8) 8 : Nat)] 3)) ?_ ?_ qG.md.bel (nextB qG.md.bel (bel_alloc qe _)) rfl rfl ?_
            · rintro a' (rfl | rfl) wx (rfl | rfl)
              · exact exec_load rfl (load_intsP qC2) rfl
              · exact exec_load rfl (load_intsP qC3) rfl
              · exact exec_load rfl (load_intsP qC2) rfl
              · exact exec_load rfl (load_intsP qC3) rfl
            · rintro a' (rfl | rfl)
              · exact exec_one rfl (lit1Q qe (Fr.rdN (Fr.rdL left 8) 8 : Nat)) rfl
              · exact exec_one rfl (lit1Q qe (Fr.rdN (Fr.rdL left 8) 8 : Nat)) rfl
            simp only [Act.put, List.setIfInBounds_toArray, List.set_cons_zero, List.set_cons_succ]
            obtain ⟨qu, qw, qa, qc, qf, qb, qn⟩ := qG.val (k := (Fr.rdN (Fr.rdL left 8) 8 : Nat)) (rdN_i64 _) (HLV2.out)
            refine only_value 5 (some 38) rfl rfl rfl (by kernel_rfl) (exec_append rfl qa rfl rfl) qb ?_
            simp only [Act.put, List.setIfInBounds_toArray, List.set_cons_zero, List.set_cons_succ]
            refine take_want 6 (some 39) (.pointer (some ⟨b5, 0 + 2, none⟩)) rfl rfl rfl (by kernel_rfl) (by kernel_rfl) (by kernel_rfl) (fun _ _ _ h => h) (fun wx hx => exec_field rfl (fldN2 _ _ wx) rfl) qb ?_
            simp only [Act.put, List.setIfInBounds_toArray, List.set_cons_zero, List.set_cons_succ]
            obtain ⟨qA, qN, qX, rfl, -⟩ := qn.md.two.hv.form
            refine only_skip 7 none rfl rfl rfl (by kernel_rfl) (exec_store rfl (store_intsQ qc qf) rfl rfl) qn.md.bel ?_
            refine wpAnyH_done (by kernel_rfl) ?_ _
            have qF := hide qn
            clear qa qc qf qb qn hS
            obtain ⟨qy, hqy⟩ : ∃ x, qw.setCell ⟨b5, 0 + 2, none⟩ (.slice qA qN qX) = x := ⟨_, rfl⟩
            have hqz := hqy
            rw [Nat.zero_add] at hqz
            simp only [hqz] at qF
            simp only [hqy]
            clear hqy hqz
            go_wp2_with fail
            go_roundg t
            case measure => omega
            case rel => exact ⟨j + 1, _, _, _, _, _, by omega, by go_num, hide (by rw [List.map_append, List.map_append]; exact qF.out), hide (up_step HUP.out HGP.out (by omega))⟩
        · rintro e' pe ⟨rfl, hun, hgr⟩
          have pG := pH.out.long hun hgr
          refine ⟨_, rfl, pG.md.bel, ?_⟩
          simp only [Act.put, List.setIfInBounds_toArray, List.set_cons_zero, List.set_cons_succ]
          have pC2 := (BoxN.cells (T := 30) pG.md.h5).2.1
          have pC3 := (BoxN.cells (T := 30) (blk_below (bel_alloc pe (.cells #[.int .i64 (Fr.rdN left 8 : Nat)] 3)) pG.md.h5)).2.1
          refine both_value 1 4 (some 27) (some 30) rfl rfl rfl rfl rfl rfl (by kernel_rfl) (by kernel_rfl) (by kernel_rfl) (vi := (.slice aK nK cK)) (vj := .slice (some ⟨pe.heap.size, 0, none⟩) 1 1) (w' := pe.alloc (.cells #[.int .i64 (Fr.rdN left 8 : Nat)] 3)) ?_ ?_ pG.md.bel (nextB pG.md.bel (bel_alloc pe _)) rfl rfl ?_
          · rintro a' (rfl | rfl) wx (rfl | rfl)
            · exact exec_load rfl (load_intsP pC2) rfl
            · exact exec_load rfl (load_intsP pC3) rfl
            · exact exec_load rfl (load_intsP pC2) rfl
            · exact exec_load rfl (load_intsP pC3) rfl
          · rintro a' (rfl | rfl)
            · exact exec_one rfl (lit1Q pe (Fr.rdN left 8 : Nat)) rfl
            · exact exec_one rfl (lit1Q pe (Fr.rdN left 8 : Nat)) rfl
          simp only [Act.put, List.setIfInBounds_toArray, List.set_cons_zero, List.set_cons_succ]
          obtain ⟨pu, pw, pa, pc, pf, pb, pn⟩ := pG.key (k := (Fr.rdN left 8 : Nat)) (rdN_i64 _) (HLK2.out)
          refine only_value 5 (some 31) rfl rfl rfl (by kernel_rfl) (exec_append rfl pa rfl rfl) pb ?_
          simp only [Act.put, List.setIfInBounds_toArray, List.set_cons_zero, List.set_cons_succ]
          refine take_want 6 (some 32) (.pointer (some ⟨b5, 0 + 1, none⟩)) rfl rfl rfl (by kernel_rfl) (by kernel_rfl) (by kernel_rfl) (fun _ _ _ h => h) (fun wx hx => exec_field rfl (fldN1 _ _ wx) rfl) pb ?_
          simp only [Act.put, List.setIfInBounds_toArray, List.set_cons_zero, List.set_cons_succ]
          obtain ⟨pA, pN, pX, rfl, -⟩ := pn.md.two.hk.form
          refine only_skip 7 none rfl rfl rfl (by kernel_rfl) (exec_store rfl (store_intsQ pc pf) rfl rfl) pn.md.bel ?_
          refine wpAnyH_done (by kernel_rfl) ?_ _
          have pF := hide pn
          clear pa pc pf pb pn hS
          obtain ⟨py, hpy⟩ : ∃ x, pw.setCell ⟨b5, 0 + 1, none⟩ (.slice pA pN pX) = x := ⟨_, rfl⟩
          have hpz := hpy
          rw [Nat.zero_add] at hpz
          simp only [hpz] at pF
          simp only [hpy]
          clear hpy hpz
          obtain ⟨z0, z1, z2⟩ := BoxN.cells (T := 30) pF.out.md.h5
          go_wp2_with fail
          clear z0 z1 z2
          have qS := hide (nextB pF.out.md.bel (below_drew0 py))
          have qH := hide (NpW.drew pF.out)
          refine wp_region_held_drew (S := Below w.heap.size w) (by kernel_rfl) qS.out (fun hS => ?_)
          obtain ⟨qd, hqd⟩ : ∃ x, (py).drew = x := ⟨_, rfl⟩
          simp only [hqd] at hS qH ⊢
          clear hqd qS
          refine take_want 0 (some 33) (.pointer (some ⟨b5, 0 + 2, none⟩)) rfl rfl rfl (by kernel_rfl) (by kernel_rfl) (by kernel_rfl) (fun _ _ _ h => h) (fun wx hx => exec_field rfl (fldN2 _ _ wx) rfl) hS ?_
          simp only [Act.put, List.setIfInBounds_toArray, List.set_cons_zero, List.set_cons_succ]
          refine take_want 2 (some 35) (.pointer (some ⟨bu, 0, none⟩)) rfl rfl rfl (by kernel_rfl) (by kernel_rfl) (by kernel_rfl) (fun _ _ _ h => h) (fun wx hx => exec_move rfl rfl) hS ?_
          simp only [Act.put, List.setIfInBounds_toArray, List.set_cons_zero, List.set_cons_succ]
          have qC := (BoxN.cells (T := 30) qH.out.md.h5).2.2
          refine value_or_call 1 3 (some 34) (some 36) rfl rfl rfl rfl rfl rfl (by kernel_rfl) (exec_load rfl (load_intsP qC) rfl) (exec_call1 rfl enterULong rfl rfl) hS ?_ ((Fr.ULongB b5 bu (Fr.rdL left 8) (Fr.rdS left sp 8) qd qH.out.un).mono ?_)
          · simp only [Act.put, List.setIfInBounds_toArray, List.set_cons_zero, List.set_cons_succ]
            refine call_want 3 (some 36) rfl rfl rfl (by kernel_rfl) (exec_call1 rfl enterULong rfl rfl) ((Fr.ULongB b5 bu (Fr.rdL left 8) (Fr.rdS left sp 8) qd qH.out.un).mono ?_)
            rintro e' qe ⟨rfl, hun, hgr⟩
            have qG := qH.out.long hun hgr
            refine ⟨_, rfl, qG.md.bel, ?_⟩
            simp only [Act.put, List.setIfInBounds_toArray, List.set_cons_zero, List.set_cons_succ]
            obtain ⟨qu, qw, qa, qc, qf, qb, qn⟩ := qG.val (k := (Fr.rdN (Fr.rdL left 8) 8 : Nat)) (rdN_i64 _) (HLV2.out)
            refine only_value 4 (some 37) rfl rfl rfl (by kernel_rfl) (exec_one rfl (lit1Q qe (Fr.rdN (Fr.rdL left 8) 8 : Nat)) rfl) (nextB qG.md.bel (bel_alloc qe _)) ?_
            simp only [Act.put, List.setIfInBounds_toArray, List.set_cons_zero, List.set_cons_succ]
            refine only_value 5 (some 38) rfl rfl rfl (by kernel_rfl) (exec_append rfl qa rfl rfl) qb ?_
            simp only [Act.put, List.setIfInBounds_toArray, List.set_cons_zero, List.set_cons_succ]
            refine take_want 6 (some 39) (.pointer (some ⟨b5, 0 + 2, none⟩)) rfl rfl rfl (by kernel_rfl) (by kernel_rfl) (by kernel_rfl) (fun _ _ _ h => h) (fun wx hx => exec_field rfl (fldN2 _ _ wx) rfl) qb ?_
            simp only [Act.put, List.setIfInBounds_toArray, List.set_cons_zero, List.set_cons_succ]
            obtain ⟨qA, qN, qX, rfl, -⟩ := qn.md.two.hv.form
            refine only_skip 7 none rfl rfl rfl (by kernel_rfl) (exec_store rfl (store_intsQ qc qf) rfl rfl) qn.md.bel ?_
            refine wpAnyH_done (by kernel_rfl) ?_ _
            have qF := hide qn
            clear qa qc qf qb qn hS
            obtain ⟨qy, hqy⟩ : ∃ x, qw.setCell ⟨b5, 0 + 2, none⟩ (.slice qA qN qX) = x := ⟨_, rfl⟩
            have hqz := hqy
            rw [Nat.zero_add] at hqz
            simp only [hqz] at qF
            simp only [hqy]
            clear hqy hqz
            go_wp2_with fail
            go_roundg t
            case measure => omega
            case rel => exact ⟨j + 1, _, _, _, _, _, by omega, by go_num, hide (by rw [List.map_append, List.map_append]; exact qF.out), hide (up_step HUP.out HGP.out (by omega))⟩
          · rintro e' qe ⟨rfl, hun, hgr⟩
            have qG := qH.out.long hun hgr
            refine ⟨_, rfl, qG.md.bel, ?_⟩
            simp only [Act.put, List.setIfInBounds_toArray, List.set_cons_zero, List.set_cons_succ]
            have qC2 := (BoxN.cells (T := 30) qG.md.h5).2.2
            have qC3 := (BoxN.cells (T := 30) (blk_below (bel_alloc qe (.cells #[.int .i64 (Fr.rdN (Fr.rdL left 8) 8 : Nat)] 3)) qG.md.h5)).2.2
            refine both_value 1 4 (some 34) (some 37) rfl rfl rfl rfl rfl rfl (by kernel_rfl) (by kernel_rfl) (by kernel_rfl) (vi := (.slice aV nV cV)) (vj := .slice (some ⟨qe.heap.size, 0, none⟩) 1 1) (w' := qe.alloc (.cells #[.int .i64 (Fr.rdN (Fr.rdL left 8) 8 : Nat)] 3)) ?_ ?_ qG.md.bel (nextB qG.md.bel (bel_alloc qe _)) rfl rfl ?_
            · rintro a' (rfl | rfl) wx (rfl | rfl)
              · exact exec_load rfl (load_intsP qC2) rfl
              · exact exec_load rfl (load_intsP qC3) rfl
              · exact exec_load rfl (load_intsP qC2) rfl
              · exact exec_load rfl (load_intsP qC3) rfl
            · rintro a' (rfl | rfl)
              · exact exec_one rfl (lit1Q qe (Fr.rdN (Fr.rdL left 8) 8 : Nat)) rfl
              · exact exec_one rfl (lit1Q qe (Fr.rdN (Fr.rdL left 8) 8 : Nat)) rfl
            simp only [Act.put, List.setIfInBounds_toArray, List.set_cons_zero, List.set_cons_succ]
            obtain ⟨qu, qw, qa, qc, qf, qb, qn⟩ := qG.val (k := (Fr.rdN (Fr.rdL left 8) 8 : Nat)) (rdN_i64 _) (HLV2.out)
            refine only_value 5 (some 38) rfl rfl rfl (by kernel_rfl) (exec_append rfl qa rfl rfl) qb ?_
            simp only [Act.put, List.setIfInBounds_toArray, List.set_cons_zero, List.set_cons_succ]
            refine take_want 6 (some 39) (.pointer (some ⟨b5, 0 + 2, none⟩)) rfl rfl rfl (by kernel_rfl) (by kernel_rfl) (by kernel_rfl) (fun _ _ _ h => h) (fun wx hx => exec_field rfl (fldN2 _ _ wx) rfl) qb ?_
            simp only [Act.put, List.setIfInBounds_toArray, List.set_cons_zero, List.set_cons_succ]
            obtain ⟨qA, qN, qX, rfl, -⟩ := qn.md.two.hv.form
            refine only_skip 7 none rfl rfl rfl (by kernel_rfl) (exec_store rfl (store_intsQ qc qf) rfl rfl) qn.md.bel ?_
            refine wpAnyH_done (by kernel_rfl) ?_ _
            have qF := hide qn
            clear qa qc qf qb qn hS
            obtain ⟨qy, hqy⟩ : ∃ x, qw.setCell ⟨b5, 0 + 2, none⟩ (.slice qA qN qX) = x := ⟨_, rfl⟩
            have hqz := hqy
            rw [Nat.zero_add] at hqz
            simp only [hqz] at qF
            simp only [hqy]
            clear hqy hqz
            go_wp2_with fail
            go_roundg t
            case measure => omega
            case rel => exact ⟨j + 1, _, _, _, _, _, by omega, by go_num, hide (by rw [List.map_append, List.map_append]; exact qF.out), hide (up_step HUP.out HGP.out (by omega))⟩
  exact key
end Go.Proofs.YtcidadikmmdalaaDoor
