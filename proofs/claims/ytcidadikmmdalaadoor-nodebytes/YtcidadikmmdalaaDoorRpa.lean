/- The document's Parse. -/
import Derived.Test.YtcidadikmmdalaaDoorNp0
namespace Go.Proofs.YtcidadikmmdalaaDoor
open Go.RowKit Go.Extern

theorem enterRRight (args : Array Value) (w : World) : (callFunc 7 args).run Tryd.prog w = .ok (.enter 7 args) w := by kernel_rfl
theorem load_rnodeQ {w : World} {g : Nat} {L : Int} {kv vv : Value} (h : w.cell? ⟨g, 0, none⟩ = some (.int .i64 L) ∧ w.cell? ⟨g, 1, none⟩ = some kv ∧ w.cell? ⟨g, 2, none⟩ = some vv) : (Instr.loadAt 24 (.pointer (some ⟨g, 0, none⟩))).run Tryd.prog w = .ok (.agg #[.int .i64 L, kv, vv]) w := by
  obtain ⟨h1, h2, h3⟩ := h
  go_simp
theorem store_rnode {w : World} {b : Nat} {x y z : Value} {T : TypeId} (h : w.heap[b]? = some (.cells #[x, y, z] T (0, 0))) (L : Int) (a1 : Option Addr) (n1 c1 : Nat) (a2 : Option Addr) (n2 c2 : Nat) : (Instr.storeAt 24 (.pointer (some ⟨b, 0, none⟩)) (.agg #[.int .i64 L, .slice a1 n1 c1, .slice a2 n2 c2])).run Tryd.prog w = .ok () (stN w b L (.slice a1 n1 c1) (.slice a2 n2 c2)) := by
  have d0 := row_cell h 0
  have d1 := row_cell h 1
  have d2 := row_cell h 2
  simp at d0 d1 d2
  have f0 := row_frozen h 0
  have f1 := row_frozen h 1
  have f2 := row_frozen h 2
  clear h
  unfold stN
  go_simp
theorem MdW.c5 {T : TypeId} {w : World} {b4 b5 base : Nat} {L : Int} {K V : List Int} {kv vv : Value} {wr : World} (h : MdW T w b4 b5 base L K V kv vv wr) : wr.cell? ⟨b5, 0, none⟩ = some (.int .i64 L) ∧ wr.cell? ⟨b5, 1, none⟩ = some kv ∧ wr.cell? ⟨b5, 2, none⟩ = some vv :=
  BoxN.cells (T := T) h.h5
theorem MdW.out4 {T : TypeId} {w : World} {b4 b5 base : Nat} {L : Int} {K V : List Int} {kv vv : Value} {wr : World} (h : MdW T w b4 b5 base L K V kv vv wr) (hne : b5 ≠ b4) (hb : b4 < base) (hw : w.heap.size ≤ b4) (M : Int) (k2 v2 : Value) : MdW T w b4 b5 base L K V kv vv (stN wr b4 M k2 v2) := by
  obtain ⟨x, y, z, h4⟩ := h.h4
  exact ⟨⟨_, _, _, stN_at h4 _ _ _⟩, stN_else h.h5 hne _ _ _, h.two.stN hb _ _ _, stN_below h.bel hw _ _ _⟩
theorem preG_eq {b : List Nat} {l m : List En} (h : PreG b l) (k : PreG b m) (hl : l.length = m.length) : l = m := by
  apply List.ext_getElem?
  intro i
  rcases Nat.lt_or_ge i l.length with hi | hi
  · have h1 := h i l[i] (by rw [List.getElem?_eq_getElem])
    have h2 := k i (m[i]'(by omega)) (by rw [List.getElem?_eq_getElem])
    rw [List.getElem?_eq_getElem hi, List.getElem?_eq_getElem (by omega)]
    congr 1
    exact Prod.ext (h1.2.1.trans h2.2.1.symm) (h1.2.2.2.trans h2.2.2.2.symm)
  · rw [List.getElem?_eq_none hi, List.getElem?_eq_none (by omega)]

set_option maxRecDepth 100000 in
set_option maxHeartbeats 4000000 in
theorem rparse_any {w : World} {v : Value} {s : List Nat} (hv : Fr.Bytes w v s) : Calls Tryd.prog 14 #[v] w (RParsed s w) := by
  have HBA := hide (bel_alloc w (.cells #[.int .i64 0, .slice none 0 0, .slice none 0 0] 24))
  have HV := hide (hv.below HBA.out)
  have H4 := hide (heap_alloc_new w (.cells #[.int .i64 0, .slice none 0 0, .slice none 0 0] 24))
  obtain ⟨av, cv, gv, ov, hvf, -⟩ := hv
  obtain ⟨ns, hns⟩ : ∃ m, s.length = m := ⟨_, rfl⟩
  rw [hns] at hvf
  subst hvf
  clear hns
  have key : Calls Tryd.prog 14 #[.slice av ns cv] w (fun e w' => RParsed s w e w') := by
    go_enter Tryd.func14, Tryd.ntmps14
    go_wp2_with fail
    refine (Fr.rget_any 2 s _ _ HV.out).mono ?_
    rintro e w1 ⟨u, rfl, ho, hb1⟩
    obtain ⟨b, hbE⟩ : ∃ x, Fr.gPay 2 s = x := ⟨_, rfl⟩
    obtain ⟨er, herE⟩ : ∃ x, Fr.gErr 2 s = x := ⟨_, rfl⟩
    rw [hbE] at ho
    rw [herE]
    have HGP := hide hbE
    have HGE0 := hide herE
    have HU := hide ho.bytes
    obtain ⟨au, cu, gu, ou, huf, hu1, hu2, hu3, -⟩ := ho.bytes
    obtain ⟨m, hm⟩ : ∃ m, b.length = m := ⟨_, rfl⟩
    rw [hm] at huf hu1
    subst huf
    have HML := hide hm
    have HB1 := hide (nextB HBA.out hb1)
    have H41 := hide (blk_below hb1 H4.out)
    have HU2 := hide hu2
    have HU3 := hide hu3
    clear ho hb1 hbE herE hm hu2 hu3
    by_cases her : er = 0
    rotate_left
    · have her' : (er != 0) = true := by simpa using her
      have d0 := row_cell H41.out 0
      have d1 := row_cell H41.out 1
      have d2 := row_cell H41.out 2
      simp at d0 d1 d2
      have f0 := row_frozen H41.out 0
      have f1 := row_frozen H41.out 1
      have f2 := row_frozen H41.out 2
      go_wp2_with fail
      refine ret_rnode2 rfl _ _ _ _ rfl (stN_at H41.out 0 (.slice none 0 0) (.slice none 0 0)) rfl ?_
      exact ⟨stN_below HB1.out (Nat.le_refl _) _ _ _, .inr ⟨fun M q hq => her (by rw [← HGE0.out]; exact hq.err), 0, none, 0, 0, none, 0, 0, rfl⟩⟩
    subst her
    have HGE := HGE0
    by_cases hm2 : (m : Int) < 2
    · have d0 := row_cell H41.out 0
      have d1 := row_cell H41.out 1
      have d2 := row_cell H41.out 2
      simp at d0 d1 d2
      have f0 := row_frozen H41.out 0
      have f1 := row_frozen H41.out 1
      have f2 := row_frozen H41.out 2
      go_wp2_with fail
      refine ret_rnode2 rfl _ _ _ _ rfl (stN_at H41.out 0 (.slice none 0 0) (.slice none 0 0)) rfl ?_
      exact ⟨stN_below HB1.out (Nat.le_refl _) _ _ _, .inr ⟨fun M q hq => by have h1 := hq.len; rw [HGP.out, HML.out] at h1; omega, 0, none, 0, 0, none, 0, 0, rfl⟩⟩
    obtain ⟨c, hc⟩ : ∃ c, b.getD 1 0 = c := ⟨_, rfl⟩
    obtain ⟨lv, hlv⟩ : ∃ c, b.getD 0 0 = c := ⟨_, rfl⟩
    have hb1 : b[1]? = some c := by rw [← hc, List.getD_eq_getElem?_getD, List.getElem?_eq_getElem (by rw [HML.out]; omega)]; rfl
    have hb0 : b[0]? = some lv := by rw [← hlv, List.getD_eq_getElem?_getD, List.getElem?_eq_getElem (by rw [HML.out]; omega)]; rfl
    obtain rfl := hu1 (by omega)
    have k1 := HU2.out 1 c hb1
    have k0 := HU2.out 0 lv hb0
    have hc256 : c < 256 := HU3.out c (List.mem_of_getElem? hb1)
    have hl256 : lv < 256 := HU3.out lv (List.mem_of_getElem? hb0)
    rw [Nat.add_zero] at k0
    have HCN := hide hc
    have HLV : Hid ((lv : Int) = (b.getD 0 0 : Nat)) := hide (by rw [hlv])
    have q1 : IntKind.i64.wrap (c : Int) = (c : Int) := IntWalk.i64_in _ ⟨by omega, by omega⟩
    have q0 : IntKind.i64.wrap (lv : Int) = (lv : Int) := IntWalk.i64_in _ ⟨by omega, by omega⟩
    have q2 : IntKind.i64.wrap (16 * (c : Int)) = 16 * (c : Int) := IntWalk.i64_in _ ⟨by omega, by omega⟩
    have q3 : IntKind.i64.wrap (2 + 16 * (c : Int)) = 2 + 16 * (c : Int) := IntWalk.i64_in _ ⟨by omega, by omega⟩
    have hm1 : (1 : Nat) < m := by omega
    have hm0 : (0 : Nat) < m := by omega
    clear hc hlv hb1 hb0
    by_cases hmc : (m : Int) = 2 + 16 * (c : Int)
    rotate_left
    · have hmc' : ((m : Int) != 2 + 16 * (c : Int)) = true := by simpa using hmc
      have d0 := row_cell H41.out 0
      have d1 := row_cell H41.out 1
      have d2 := row_cell H41.out 2
      simp at d0 d1 d2
      have f0 := row_frozen H41.out 0
      have f1 := row_frozen H41.out 1
      have f2 := row_frozen H41.out 2
      go_wp2_with fail
      refine ret_rnode2 rfl _ _ _ _ rfl (stN_at H41.out 0 (.slice none 0 0) (.slice none 0 0)) rfl ?_
      exact ⟨stN_below HB1.out (Nat.le_refl _) _ _ _, .inr ⟨fun M q hq => by have h1 := hq.len; have h2 := hq.cnt; rw [HGP.out, HML.out] at h1; rw [HGP.out, HCN.out] at h2; omega, 0, none, 0, 0, none, 0, 0, rfl⟩⟩
    have hmc' : ((m : Int) != 2 + 16 * (c : Int)) = false := by simpa using hmc
    have HMC : Hid (m = 2 + 16 * c) := hide (by omega)
    have HMD : Hid (MdW 24 w1 w.heap.size w1.heap.size (w1.heap.size + 1) (lv : Int) (([] : List En).map Prod.fst) (([] : List En).map Prod.snd) (.slice none 0 0) (.slice none 0 0) (w1.alloc (.cells #[.int .i64 (lv : Int), .slice none 0 0, .slice none 0 0] 24))) :=
      hide ⟨⟨_, _, _, blk_below (bel_alloc _ _) H41.out⟩, heap_alloc_new _ _, Two.nil _ _, bel_alloc _ _⟩
    have HNE : Hid (w1.heap.size ≠ w.heap.size) := hide (by have := heap_lt H41.out; omega)
    have HBL : Hid (w.heap.size < w1.heap.size + 1) := hide (by have := heap_lt H41.out; omega)
    clear hmc hm2
    go_wp2_with fail
    clear k0 q0 hmc'
    go_loopg [7] c (fun t s7 wr => ∃ (j : Nat) (l : List En) (kv vv : Value), j + t = c ∧ s7 = .int .i64 (j : Int) ∧ Hid (MdW 24 w1 w.heap.size w1.heap.size (w1.heap.size + 1) (lv : Int) (l.map Prod.fst) (l.map Prod.snd) kv vv wr) ∧ Hid (w1.heap.size + 1 ≤ wr.heap.size) ∧ Hid (l.length = j ∧ PreG b l))
    case atStart => exact ⟨0, [], _, _, by omega, rfl, HMD, hide (by simp), hide ⟨rfl, PreG.nil _⟩⟩
    case round =>
      obtain ⟨j, l, kv, vv, hj, rfl, HM, HS, HLL⟩ := hrel
      replace k1 := cell_bel HM.out.bel k1
      cases gk with
      | zero =>
        obtain rfl : j = c := by omega
        have hnl : ¬ (j : Int) < (j : Int) := by omega
        obtain ⟨aK, nK, cK, rfl, -⟩ := HM.out.two.hk.form
        obtain ⟨aV, nV, cV, rfl, -⟩ := HM.out.two.hv.form
        have HMW : Hid (MdW 24 w w.heap.size w1.heap.size (w1.heap.size + 1) (lv : Int) (l.map Prod.fst) (l.map Prod.snd) (.slice aK nK cK) (.slice aV nV cV) wr.drew) := hide (MdW.below (wr := wr) ⟨HM.out.h4, HM.out.h5, HM.out.two, nextB HB1.out HM.out.bel⟩ (below_drew0 _))
        go_wp2_with fail
        refine wp_region_held_drew (S := MdW 24 w w.heap.size w1.heap.size (w1.heap.size + 1) (lv : Int) (l.map Prod.fst) (l.map Prod.snd) (.slice aK nK cK) (.slice aV nV cV)) (by kernel_rfl) HMW.out (fun hS => ?_)
        obtain ⟨wd, hwd⟩ : ∃ x, wr.drew = x := ⟨_, rfl⟩
        rw [hwd] at hS ⊢
        clear hwd HMW
        refine take_want 0 (some 86) (.agg #[.int .i64 (lv : Int), .slice aK nK cK, .slice aV nV cV]) rfl rfl rfl (by kernel_rfl) (by kernel_rfl) (by kernel_rfl) (fun _ _ _ h => h) (fun wx hx => exec_load rfl (load_rnodeQ hx.c5) rfl) hS ?_
        simp only [Act.put, List.setIfInBounds_toArray, List.set_cons_zero, List.set_cons_succ]
        refine take_want 1 (some 87) (.agg #[.int .i64 (lv : Int), .slice aK nK cK, .slice aV nV cV]) rfl rfl rfl (by kernel_rfl) (by kernel_rfl) (by kernel_rfl) (fun _ _ _ h => h) (fun wx hx => exec_load rfl (load_rnodeQ hx.c5) rfl) hS ?_
        simp only [Act.put, List.setIfInBounds_toArray, List.set_cons_zero, List.set_cons_succ]
        refine call_want 2 (some 88) rfl rfl rfl (by kernel_rfl) (exec_call1 rfl enterRRight rfl rfl) ((right_any (lv : Int) hS.two.hk.ints hS.two.hv.ints).mono ?_)
        rintro e' wa ⟨rfl, hba⟩
        have hSa := hS.below hba
        refine ⟨_, rfl, hSa, ?_⟩
        simp only [Act.put, List.setIfInBounds_toArray, List.set_cons_zero, List.set_cons_succ]
        obtain ⟨x5, y5, z5, h45⟩ := hSa.h4
        have hSb := hSa.out4 HNE.out HBL.out (Nat.le_refl _) (lv : Int) (.slice aK nK cK) (.slice aV nV cV)
        refine only_skip 3 none rfl rfl rfl (by kernel_rfl) (exec_store rfl (store_rnode h45 (lv : Int) aK nK cK aV nV cV) rfl rfl) hSb ?_
        simp only [Act.put]
        refine take_want 4 (some 3) (.bool (rtB (lv : Int) (l.map Prod.fst) (l.map Prod.snd))) rfl rfl rfl (by kernel_rfl) (by kernel_rfl) (by kernel_rfl) (fun _ _ _ h => h) (fun wx hx => exec_assign rfl rfl) hSb ?_
        simp only [Act.put, List.setIfInBounds_toArray, List.set_cons_zero, List.set_cons_succ]
        refine wpAnyH_done (by kernel_rfl) ?_ _
        go_wp2_with fail
        refine ret_rnode2 rfl _ _ _ _ rfl (stN_at h45 (lv : Int) (.slice aK nK cK) (.slice aV nV cV)) rfl ?_
        refine ⟨hSb.bel, ?_⟩
        by_cases hR : Rt (lv : Int) (l.map Prod.fst) (l.map Prod.snd)
        · have hr := rtB_iff.2 hR
          exact .inl ⟨lv, l, _, _, ⟨HGE.out, by rw [HGP.out, HML.out, HMC.out, HLL.out.1], by rw [HGP.out]; exact HLV.out, by rw [HGP.out, HLL.out.1]; exact HCN.out, by rw [HGP.out]; exact HLL.out.2, hR⟩, by rw [← hr]; rfl, hSb.two.hk.ints, hSb.two.hv.ints⟩
        · have hr := rtB_false.2 hR
          refine .inr ⟨fun M m hm => hR ?_, _, _, _, _, _, _, _, by rw [← hr]; rfl⟩
          have e1 : M = (lv : Int) := by rw [hm.lev, HGP.out]; exact HLV.out.symm
          have hl : m.length = l.length := by rw [HLL.out.1, ← hm.cnt, HGP.out]; exact HCN.out
          have e2 : m = l := preG_eq (by have := hm.pre; rwa [HGP.out] at this) HLL.out.2 hl
          rw [← e1, ← e2]; exact hm.right
      | succ t =>
        have hlt : (j : Int) < (c : Int) := by omega
        have e7 : IntKind.i64.wrap ((j : Int) + 1) = (j : Int) + 1 := IntWalk.i64_in _ ⟨by omega, by omega⟩
        have e8 : IntKind.i64.wrap (16 * (j : Int)) = 16 * (j : Int) := IntWalk.i64_in _ ⟨by omega, by omega⟩
        have e9 : IntKind.i64.wrap (2 + 16 * (j : Int)) = 2 + 16 * (j : Int) := IntWalk.i64_in _ ⟨by omega, by omega⟩
        have e10 : IntKind.i64.wrap (10 + 16 * (j : Int)) = 10 + 16 * (j : Int) := IntWalk.i64_in _ ⟨by omega, by omega⟩
        obtain ⟨aF, nF, cF, cutF, HF⟩ := Fr.cut_from wr _ b (2 + 16 * j) (HU.out.below HM.out.bel) (by rw [HML.out, HMC.out]; omega)
        obtain ⟨aG, nG, cG, cutG, HG⟩ := Fr.cut_from wr _ b (10 + 16 * j) (HU.out.below HM.out.bel) (by rw [HML.out, HMC.out]; omega)
        rw [show ((2 + 16 * j : Nat) : Int) = 2 + 16 * (j : Int) by omega] at cutF
        rw [show ((10 + 16 * j : Nat) : Int) = 10 + 16 * (j : Int) by omega] at cutG
        obtain ⟨x, hx⟩ : ∃ x, Fr.rdN (b.drop (2 + 16 * j)) 8 = x := ⟨_, rfl⟩
        obtain ⟨y, hy⟩ : ∃ x, Fr.rdN (b.drop (10 + 16 * j)) 8 = x := ⟨_, rfl⟩
        have HR1 := hide (Fr.read_any 8 (by simp) _ _ wr HF.out)
        have HR2 := hide (Fr.read_any 8 (by simp) _ _ wr HG.out)
        have HX64 : Hid (I64 (x : Int)) := hide (by rw [← hx]; exact rdN_i64 _)
        have HY64 : Hid (I64 (y : Int)) := hide (by rw [← hy]; exact rdN_i64 _)
        simp only [hx] at HR1
        simp only [hy] at HR2
        have HX := hide hx
        have HY := hide hy
        clear hx hy HF HG
        cases ho1 : Fr.readOk (b.drop (2 + 16 * j)) 8 with
        | false =>
          obtain ⟨x4, y4, z4, h4⟩ := HM.out.h4
          have H42 := hide h4
          clear h4
          have d0 := row_cell H42.out 0
          have d1 := row_cell H42.out 1
          have d2 := row_cell H42.out 2
          simp at d0 d1 d2
          have f0 := row_frozen H42.out 0
          have f1 := row_frozen H42.out 1
          have f2 := row_frozen H42.out 2
          cases ho2 : Fr.readOk (b.drop (10 + 16 * j)) 8
          all_goals (
            go_wp2_with (first
              | (go_at_call 32; refine HR1.out.mono ?_; rintro e w5 ⟨rfl, hw5⟩; subst w5; rw [ho1]; clear HR1)
              | (go_at_call 32; refine HR2.out.mono ?_; rintro e w5 ⟨rfl, hw5⟩; subst w5; rw [ho2]; clear HR2))
            refine ret_rnode2 rfl _ _ _ _ rfl (stN_at H42.out 0 (.slice none 0 0) (.slice none 0 0)) rfl ?_
            exact ⟨stN_below (nextB HB1.out HM.out.bel) (Nat.le_refl _) _ _ _, .inr ⟨(fun M q hq => by have h2 := (isnode_read hq HGP.out (j := j) (by rw [HCN.out]; omega)).1; rw [ho1] at h2; cases h2), 0, none, 0, 0, none, 0, 0, rfl⟩⟩)
        | true =>
          cases ho2 : Fr.readOk (b.drop (10 + 16 * j)) 8 with
          | false =>
            obtain ⟨x4, y4, z4, h4⟩ := HM.out.h4
            have H42 := hide h4
            clear h4
            have d0 := row_cell H42.out 0
            have d1 := row_cell H42.out 1
            have d2 := row_cell H42.out 2
            simp at d0 d1 d2
            have f0 := row_frozen H42.out 0
            have f1 := row_frozen H42.out 1
            have f2 := row_frozen H42.out 2
            go_wp2_with (first
              | (go_at_call 32; refine HR1.out.mono ?_; rintro e w5 ⟨rfl, hw5⟩; subst w5; rw [ho1]; clear HR1)
              | (go_at_call 32; refine HR2.out.mono ?_; rintro e w5 ⟨rfl, hw5⟩; subst w5; rw [ho2]; clear HR2))
            refine ret_rnode2 rfl _ _ _ _ rfl (stN_at H42.out 0 (.slice none 0 0) (.slice none 0 0)) rfl ?_
            exact ⟨stN_below (nextB HB1.out HM.out.bel) (Nat.le_refl _) _ _ _, .inr ⟨(fun M q hq => by have h2 := (isnode_read hq HGP.out (j := j) (by rw [HCN.out]; omega)).2; rw [ho2] at h2; cases h2), 0, none, 0, 0, none, 0, 0, rfl⟩⟩
          | true =>
            have hll := HLL.out.1
            have hsz := HS.out
            have hwl := heap_lt H41.out
            have hlj : (l.map Prod.fst).length ≤ 5000 := by simp; omega
            have hlj2 : (l.map Prod.snd).length ≤ 5000 := by simp; omega
            obtain ⟨kv', w5, ha1, x5, f5, hM5, -, hsz5⟩ := HM.out.key (by omega) (by omega) (by omega) (by omega) (by omega) (by omega) (k := (x : Int)) HX64.out hlj
            obtain ⟨vv', w6, ha2, x6, f6, hM6, -, hsz6⟩ := hM5.val (by omega) (by omega) (by omega) (by omega) (by omega) (by omega) (k := (y : Int)) HY64.out hlj2
            have e5 : (w5.setCell ⟨w1.heap.size, 1, none⟩ kv').heap.size = w5.heap.size := by simp
            rw [e5] at ha2 hsz5 hsz6
            have q5 := row_cell hM5.h5 2
            simp only [List.getElem?_toArray, List.getElem?_cons_succ, List.getElem?_cons_zero] at q5
            have c1 := row_cell HM.out.h5 1
            simp at c1
            have HM6 := hide hM6
            have HZ : Hid (w1.heap.size + 1 ≤ (w6.setCell ⟨w1.heap.size, 2, none⟩ vv').heap.size) := hide (by omega)
            have HLN : Hid ((l ++ [((x : Int), (y : Int))]).length = j + 1 ∧ PreG b (l ++ [((x : Int), (y : Int))])) := hide ⟨by simp [hll], HLL.out.2.snoc (by rw [hll]; exact ⟨ho1, by rw [HX.out], ho2, by rw [HY.out]⟩)⟩
            obtain ⟨aK, nK, cK, rfl, -⟩ := HM.out.two.hk.form
            obtain ⟨aV, nV, cV, rfl, -⟩ := HM.out.two.hv.form
            obtain ⟨aK2, nK2, cK2, rfl, -⟩ := hM6.two.hk.form
            obtain ⟨aV2, nV2, cV2, rfl, -⟩ := hM6.two.hv.form
            clear hll hsz hwl hlj hlj2 hM5 hM6 hsz5 hsz6 e5
            go_wp2_with (first
              | (go_at_call 32; refine HR1.out.mono ?_; rintro e w7 ⟨rfl, hw7⟩; subst w7; rw [ho1]; clear HR1)
              | (go_at_call 32; refine HR2.out.mono ?_; rintro e w7 ⟨rfl, hw7⟩; subst w7; rw [ho2]; clear HR2)
              | (at_builtin; refine wpList_append_eq rfl _ _ rfl rfl rfl ha1 ?_; clear ha1)
              | (at_builtin; refine wpList_append_eq rfl _ _ rfl rfl rfl ha2 ?_; clear ha2))
            go_roundg t
            case measure => omega
            case rel => exact ⟨j + 1, _, _, _, by omega, by go_num, hide (by rw [List.map_append, List.map_append]; exact HM6.out), HZ, HLN⟩
  exact key
end Go.Proofs.YtcidadikmmdalaaDoor
