/- The law NodeChanges. -/
import Derived.Test.YtcidadikmmdalaaChF
namespace Go.Proofs.Ytcidadikmmdalaa
open Go.RowKit Go.Extern

theorem cutS_le (L : Int) (l : List En) : (cutS L l).length ≤ 2 := by
  unfold cutS
  split
  · simp
  · split <;> simp
theorem max2_run (x y : Int) (w : World) : (Builtin.max2 (.int .i64 x) (.int .i64 y)).run Try.prog w = .ok (.int .i64 (if y > x then y else x)) w := rfl
theorem max3 (n m k : Nat) (w : World) : ∃ r : Int, (Builtin.max_ #[3, 3, 3] 3 #[.int .i64 (n : Int), .int .i64 (m : Int), .int .i64 (k : Int)]).run Try.prog w = .ok (.int .i64 r) w ∧ (n : Int) ≤ r ∧ (m : Int) ≤ r ∧ (k : Int) ≤ r := by
  refine ⟨if (if (m : Int) > n then (m : Int) else n) < k then (k : Int) else (if (m : Int) > n then (m : Int) else n), by simp [Builtin.max_, max2_run], ?_, ?_, ?_⟩ <;> (repeat' split) <;> omega
theorem wpList_max3_eq {w : World} {ops : Array Oper} {rest : List Oper} {o : Oper} {a : Act} {Q : Exit → Act → World → Prop} {v x1 x2 x3 : Value} {t : TypeId} (hg : o.guard = none) (s1 s2 s3 : Operand)
    (hop : o.op = Op.call { callee := Callee.builtin Builtin.max, args := #[s1, s2, s3], argTypes := #[t, t, t] }) (h1 : a.eval s1 = x1) (h2 : a.eval s2 = x2) (h3 : a.eval s3 = x3) (hrun : (Builtin.max_ #[t, t, t] o.type #[x1, x2, x3]).run Try.prog w = .ok v w)
    (hK : wpList Try.prog ops Q rest (a.put o.dst v) w) : wpList Try.prog ops Q (o :: rest) a w := by
  refine wpList_plain hg fun K hK' => ?_
  unfold Oper.wp
  simp [execOp, hop, resolve, invoke, builtin, h1, h2, h3, hrun, Result.andThen]
  exact hK' _ _ hK

set_option maxRecDepth 100000 in
set_option maxHeartbeats 16000000 in
theorem changesL_any {w : World} {kv vv pv : Value} {K V : List Int} {ps : List En} (L : Int) (hk : Ints w kv K) (hv : Ints w vv V) (at_ : Int) (hp : Ents w pv ps) :
    Calls Try.prog 4 #[.agg #[.int .i64 L, kv, vv], .int .i64 at_, pv] w fun e w' => e = .returned (.bool true) ∧ Below w.heap.size w w' := by
  have HBA := hide (bel_alloc w (.cells #[.int .i64 L, kv, vv] 24))
  have HK := hide (hk.below HBA.out)
  have HV := hide (hv.below HBA.out)
  have HP := hide (hp.below HBA.out)
  have HX := hide (BoxN.new 24 w L kv vv)
  obtain ⟨aK, n, cK, hkf, hn⟩ := hk.form
  obtain ⟨aV, nv, cV, hvf, hnv⟩ := hv.form
  obtain ⟨aP, cP, gP, oP, hpf, hP1, hP2, -⟩ := HP.out
  obtain ⟨np, hnp⟩ : ∃ n, ps.length = n := ⟨_, rfl⟩
  rw [hnp] at hpf
  have HN := hide hn.out.symm
  have HNV := hide hnv.out.symm
  have HNP := hide hnp
  have HP1 := hide hP1
  have HP2 := hide hP2
  have hll := hk.len
  have hvl := hv.len
  have hpl := hp.len
  rw [HN.out] at hll
  rw [HNV.out] at hvl
  rw [hnp] at hpl
  clear hk hv hn hnv hp hP1 hP2 hnp
  subst hkf hvf hpf
  obtain ⟨r, hmx, hr1, hr2, hr3⟩ := max3 n nv np (w.alloc (.cells #[.int .i64 L, .slice aK n cK, .slice aV nv cV] 24))
  by_cases hbig : 200 < r
  · go_enter Try.func4, Try.ntmps4
    go_wp2_with (first
      | (at_builtin; refine wpList_max3_eq rfl _ _ _ rfl rfl rfl rfl hmx ?_; clear hmx)
      | (go_at_call 8; refine (awake_any _).mono ?_; rintro e w3 ⟨rfl, hb3⟩; have HB3 := hide (nextB HBA.out hb3); clear hb3))
    go_ret
    exact ⟨rfl, HB3.out⟩
  have hsm1 : n ≤ 200 := by omega
  have hsm2 : nv ≤ 200 := by omega
  have hsm3 : np ≤ 200 := by omega
  clear hr1 hr2 hr3
  by_cases hR : Rt L K V
  · have hrt := rtB_iff.2 hR
    have HR := hide hR
    have hsm := hR.same
    rw [HN.out, HNV.out] at hsm
    subst hsm
    have hfew := hR.few
    rw [HN.out] at hfew
    clear hR
    go_enter Try.func4, Try.ntmps4
    go_wp2_with (at_builtin; refine wpList_max3_eq rfl _ _ _ rfl rfl rfl rfl hmx ?_; clear hmx)
    refine (of_any L HK.out HV.out (by rw [HN.out]; omega) (by rw [HNV.out]; omega)).mono ?_
    rintro e w3 ⟨kv3, vv3, rfl, ht3, hb3⟩
    obtain ⟨aK3, nK3, cK3, rfl, -⟩ := ht3.hk.form
    obtain ⟨aV3, nV3, cV3, rfl, -⟩ := ht3.hv.form
    have hbX := bel_alloc w3 (.cells #[.int .i64 L, .slice aK3 nK3 cK3, .slice aV3 nV3 cV3] 26)
    have HBX := hide (nextB hb3 hbX)
    have HIX := hide (And.intro (ht3.ints.1.below hbX) (ht3.ints.2.below hbX))
    have HXX := hide (BoxN.new 26 w3 L (.slice aK3 nK3 cK3) (.slice aV3 nV3 cV3))
    clear ht3 hb3 hbX
    go_wp2_with fail
    obtain ⟨b7, hb7⟩ : ∃ b, w3.heap.size = b := ⟨_, rfl⟩
    obtain ⟨wX, hwX⟩ : ∃ x, w3.alloc (.cells #[.int .i64 L, .slice aK3 nK3 cK3, .slice aV3 nV3 cV3] 26) = x := ⟨_, rfl⟩
    simp only [hwX, hb7] at HBX HIX HXX ⊢
    clear hwX hb7
    have HSX := hide (below_drew0 wX)
    obtain ⟨X0, X1, X2⟩ := HXX.out.cells
    refine wp_region_held_drew (S := Below wX.heap.size wX) (by kernel_rfl) HSX.out (fun hS => ?_)
    obtain ⟨wd, hwd⟩ : ∃ x, wX.drew = x := ⟨_, rfl⟩
    rw [hwd] at hS ⊢
    clear hwd HSX
    refine take_want 0 (some 29) (.agg #[.int .i64 L, .slice aK3 nK3 cK3, .slice aV3 nV3 cV3]) rfl rfl rfl (by kernel_rfl) (by kernel_rfl) (by kernel_rfl) (fun _ _ _ h => h) (fun wx hx => exec_load rfl (load_nodeP ⟨cell_bel hx X0, cell_bel hx X1, cell_bel hx X2⟩) rfl) hS ?_
    simp only [Act.put, List.setIfInBounds_toArray, List.set_cons_zero, List.set_cons_succ]
    refine take_want 1 (some 30) (.int .i64 at_) rfl rfl rfl (by kernel_rfl) (by kernel_rfl) (by kernel_rfl) (fun _ _ _ h => h) (fun wx hx => exec_move rfl rfl) hS ?_
    simp only [Act.put, List.setIfInBounds_toArray, List.set_cons_zero, List.set_cons_succ]
    refine take_want 3 (some 32) (.slice aP np cP) rfl rfl rfl (by kernel_rfl) (by kernel_rfl) (by kernel_rfl) (fun _ _ _ h => h) (fun wx hx => exec_move rfl rfl) hS ?_
    simp only [Act.put, List.setIfInBounds_toArray, List.set_cons_zero, List.set_cons_succ]
    obtain ⟨aC, cC, vC, wC, haC, hsC, hcC, hcvC, hcmC, hbC⟩ := copy_e (HP.out.below (nextB HBX.out hS)) (by rw [HNP.out]; omega) 47
    refine only_value 2 (some 31) rfl rfl rfl (by kernel_rfl) (exec_lit0 rfl (litP0 wd)) (nextB hS (bel_alloc wd (.cells #[] 50))) ?_
    simp only [Act.put, List.setIfInBounds_toArray, List.set_cons_zero, List.set_cons_succ]
    have hS4 := nextB hS hbC
    refine only_value 4 (some 33) rfl rfl rfl (by kernel_rfl) (exec_append rfl haC rfl rfl) hS4 ?_
    simp only [Act.put, List.setIfInBounds_toArray, List.set_cons_zero, List.set_cons_succ]
    obtain ⟨ns, cd, hch, hcf⟩ := change_all (HIX.out.1.below hS4) (HIX.out.2.below hS4) HR.out at_ hsC hcC hcvC hcmC HP.out.ok
    refine call_want 5 (some 34) rfl rfl rfl (by kernel_rfl) (exec_call3 rfl enterChange rfl rfl rfl rfl) (hch.mono ?_)
    rintro e' w4 ⟨v4, rfl, hn4, hb4⟩
    have hS5 := nextB hS4 hb4
    refine ⟨_, rfl, hS5, ?_⟩
    simp only [Act.put, List.setIfInBounds_toArray, List.set_cons_zero, List.set_cons_succ]
    refine take_want 6 (some 28) (.tuple #[v4, (errV cd)]) rfl rfl rfl (by kernel_rfl) (by kernel_rfl) (by kernel_rfl) (fun _ _ _ h => h) (fun wx hx => exec_move rfl rfl) hS5 ?_
    simp only [Act.put, List.setIfInBounds_toArray, List.set_cons_zero, List.set_cons_succ]
    refine take_want 7 (some 35) v4 rfl rfl rfl (by kernel_rfl) (by kernel_rfl) (by kernel_rfl) (fun _ _ _ h => h) (fun wx hx => exec_extract0 rfl rfl) hS5 ?_
    simp only [Act.put, List.setIfInBounds_toArray, List.set_cons_zero, List.set_cons_succ]
    refine take_want 8 (some 36) (errV cd) rfl rfl rfl (by kernel_rfl) (by kernel_rfl) (by kernel_rfl) (fun _ _ _ h => h) (fun wx hx => exec_extract1 rfl rfl) hS5 ?_
    simp only [Act.put, List.setIfInBounds_toArray, List.set_cons_zero, List.set_cons_succ]
    refine take_want 9 (some 8) v4 rfl rfl rfl (by kernel_rfl) (by kernel_rfl) (by kernel_rfl) (fun _ _ _ h => h) (fun wx hx => exec_assign rfl rfl) hS5 ?_
    simp only [Act.put, List.setIfInBounds_toArray, List.set_cons_zero, List.set_cons_succ]
    refine take_want 10 (some 9) (errV cd) rfl rfl rfl (by kernel_rfl) (by kernel_rfl) (by kernel_rfl) (fun _ _ _ h => h) (fun wx hx => exec_assign rfl rfl) hS5 ?_
    simp only [Act.put, List.setIfInBounds_toArray, List.set_cons_zero, List.set_cons_succ]
    refine wpAnyH_done (by kernel_rfl) ?_ _
    have HN4 := hide hn4
    have HB4 := hide hS5
    have HCF := hide hcf
    clear X0 X1 X2 haC hsC hcC hcvC hcmC hbC hS4 hch hb4 hS5 hS hcf
    obtain ⟨aN, cN, gN, nN, rfl, hnN, -⟩ := hn4
    obtain ⟨y0, y1, y2⟩ := (HXX.out.below HB4.out).cells
    have HXW := hide (nextB HBX.out HB4.out)
    obtain ⟨x0, x1, x2⟩ := (HX.out.below HXW.out).cells
    go_wp2_with fail
    clear y0 y1 y2 x0 x1 x2
    refine (same_any L L (HIX.out.1.below HB4.out) (HIX.out.2.below HB4.out) (HK.out.below HXW.out) (HV.out.below HXW.out)).mono ?_
    rintro e w6 ⟨rfl, hb6⟩
    rw [sameB_self]
    have HXW6 := hide (nextB HXW.out hb6)
    have HB6 := hide hb6
    clear hb6
    obtain ⟨x0, x1, x2⟩ := (HX.out.below HXW6.out).cells
    go_wp2_with fail
    clear x0 x1 x2
    refine (right_any L (HK.out.below HXW6.out) (HV.out.below HXW6.out)).mono ?_
    rintro e w7 ⟨rfl, hb7⟩
    rw [hrt]
    have HXW7 := hide (nextB HXW6.out hb7)
    have HB7 := hide (nextB HB6.out hb7)
    clear hb7
    have HN7 := hide (HN4.out.below HB7.out)
    have HK7 := hide (HK.out.below HXW7.out)
    have HV7 := hide (HV.out.below HXW7.out)
    have HX7 := hide (HX.out.below HXW7.out)
    have HPB := hide HXW7.out
    have HFIN0 := hide (nextB HBA.out HXW7.out)
    clear HXW HXW6 HXW7 HB6 HB7 HB4 HN4 HIX HXX HBX
    go_wp2_with fail
    go_loopg [10, 11, 56] np (fun t s10 s11 s56 wr => ∃ (j : Nat) (kvO vvO : Value), j + t = np ∧ s10 = kvO ∧ s11 = vvO ∧ s56 = .int .i64 (j : Int) ∧ Hid (LoW w7 kvO vvO ((ps.take j).map Prod.fst) ((ps.take j).map Prod.snd) wr))
    case atStart => exact ⟨0, _, _, by omega, rfl, rfl, rfl, hide ⟨Two.nil _ _, Below.refl _ _⟩⟩
    case round =>
      obtain ⟨j, kvO, vvO, hj, rfl, rfl, rfl, HLW⟩ := hrel
      obtain ⟨aO, nO, cO, rfl, -⟩ := HLW.out.two.hk.form
      obtain ⟨aU, nU, cU, rfl, -⟩ := HLW.out.two.hv.form
      have hj' : j ≤ np := by omega
      cases gk with
      | zero =>
        have hnl : ¬ (j : Int) < (np : Int) := by omega
        have htk : ps.take j = ps := List.take_of_length_le (by rw [HNP.out]; omega)
        rw [htk] at HLW
        have HBL := hide HLW.out.bel
        obtain ⟨x0, x1, x2⟩ := (HX7.out.below HBL.out).cells
        have HFIN := hide (nextB HFIN0.out HBL.out)
        rcases HCF.out with ⟨hx, e1, e2⟩ | ⟨i, hi, hil, hp2, hor⟩
        · subst e1 e2
          obtain rfl : nN = 0 := hnN.out
          rw [HNP.out, HN.out] at hx
          by_cases h0 : at_ < 0
          · clear hx
            go_wp2_with (first
              | (go_at_call 14; refine (is_any 80 80 _).mono ?_; rintro e w8 ⟨rfl, rfl⟩)
              | (go_at_call 8; refine (awake_any _).mono ?_; rintro e w9 ⟨rfl, hb9⟩; have HB9 := hide (nextB HFIN.out hb9); clear hb9))
            go_ret
            exact ⟨rfl, HB9.out⟩
          by_cases h1 : (nv : Int) ≤ at_
          · clear hx
            go_wp2_with (first
              | (go_at_call 14; refine (is_any 80 80 _).mono ?_; rintro e w8 ⟨rfl, rfl⟩)
              | (go_at_call 8; refine (awake_any _).mono ?_; rintro e w9 ⟨rfl, hb9⟩; have HB9 := hide (nextB HFIN.out hb9); clear hb9))
            go_ret
            exact ⟨rfl, HB9.out⟩
          · have h2 : 2 < (np : Int) := by omega
            clear hx
            go_wp2_with (first
              | (go_at_call 14; refine (is_any 80 80 _).mono ?_; rintro e w8 ⟨rfl, rfl⟩)
              | (go_at_call 8; refine (awake_any _).mono ?_; rintro e w9 ⟨rfl, hb9⟩; have HB9 := hide (nextB HFIN.out hb9); clear hb9))
            go_ret
            exact ⟨rfl, HB9.out⟩
        · subst hi
          rw [HNP.out] at hp2
          have HIL := hide hil
          rw [HN.out] at hil
          have h0 : ¬ (i : Int) < 0 := by omega
          have h1 : ¬ (nv : Int) ≤ (i : Int) := by omega
          have h2 : ¬ 2 < (np : Int) := by omega
          have HOR := hide hor
          have HPL : Hid (ps.length ≤ 2) := hide (by rw [HNP.out]; omega)
          clear hor
          go_wp2_with fail
          clear x0 x1 x2
          refine (without_any L (HK7.out.below HBL.out) (HV7.out.below HBL.out) HR.out.same (by have := HR.out.few; omega) (i := i) HIL.out HLW.out.two.hk.ints HLW.out.two.hv.ints (by have := HPL.out; simp; omega) (by have := HPL.out; simp; omega)).mono ?_
          rintro e w8 ⟨ka, va, rfl, hta, hba⟩
          rw [← chgS_fst HR.out.same, ← chgS_snd HR.out.same] at hta
          obtain ⟨aA, nA, cA, rfl, -⟩ := hta.hk.form
          obtain ⟨aB, nB, cB, rfl, -⟩ := hta.hv.form
          have hbY := bel_alloc w8 (.cells #[.int .i64 L, .slice aA nA cA, .slice aB nB cB] 24)
          have HIY := hide (And.intro (hta.ints.1.below hbY) (hta.ints.2.below hbY))
          have HXY := hide (BoxN.new 24 w8 L (.slice aA nA cA) (.slice aB nB cB))
          have HBY := hide (nextB HBL.out (nextB hba hbY))
          obtain ⟨y0, y1, y2⟩ := HXY.out.cells
          clear hta hba hbY
          go_wp2_with fail
          clear y0 y1 y2
          obtain ⟨bm, hbm⟩ : ∃ b, w8.heap.size = b := ⟨_, rfl⟩
          obtain ⟨wY, hwY⟩ : ∃ x, w8.alloc (.cells #[.int .i64 L, .slice aA nA cA, .slice aB nB cB] 24) = x := ⟨_, rfl⟩
          simp only [hwY, hbm] at HIY HXY HBY ⊢
          clear hwY hbm
          refine (rising_any L HIY.out.1 HIY.out.2 (by simp)).mono ?_
          rintro e w9 ⟨rfl, hb9⟩
          rw [zip_maps]
          have HB9 := hide (nextB HBY.out hb9)
          have HY9 := hide hb9
          have HFI9 := hide (nextB HFIN0.out HB9.out)
          clear hb9
          rcases HOR.out with ⟨hr, e1, e2⟩ | ⟨hr, e1, e2⟩
          · subst e1 e2
            rw [hr, errV_zero]
            obtain ⟨y0, y1, y2⟩ := (HXY.out.below HY9.out).cells
            go_wp2_with fail
            clear y0 y1 y2
            refine (rcut_any L (HIY.out.1.below HY9.out) (HIY.out.2.below HY9.out) (by have h1 := HR.out.len; have h2 := HR.out.few; have h3 := HPL.out; unfold chgS; simp; omega)).mono ?_
            rintro e w10 ⟨v10, rfl, hn10, hb10⟩
            have HN10 := hide hn10
            have HB10 := hide (nextB HB9.out hb10)
            have HFI10 := hide (nextB HFI9.out hb10)
            obtain ⟨aM, cM, gM, nM, rfl, -⟩ := hn10
            clear hb10
            go_wp2_with fail
            refine (list_any (HN7.out.below HB10.out) HN10.out (by have := cutS_le L (chgS (K.zip V) i ps); omega)).mono ?_
            rintro e w11 ⟨rfl, hb11⟩
            have HFI11 := hide (nextB HFI10.out hb11)
            clear hb11
            go_wp2_with (go_at_call 8; refine (awake_any _).mono ?_; rintro e w12 ⟨rfl, hb12⟩; have HB12 := hide (nextB HFI11.out hb12); clear hb12)
            go_ret
            exact ⟨rfl, HB12.out⟩
          · subst e1 e2
            obtain rfl : nN = 0 := hnN.out
            rw [hr]
            have HFIN := HFI9
            go_wp2_with (first
              | (go_at_call 14; refine (is_any 80 80 _).mono ?_; rintro e w13 ⟨rfl, rfl⟩)
              | (go_at_call 8; refine (awake_any _).mono ?_; rintro e w14 ⟨rfl, hb14⟩; have HB14 := hide (nextB HFIN.out hb14); clear hb14))
            go_ret
            exact ⟨rfl, HB14.out⟩
      | succ m =>
        have hlt : (j : Int) < (np : Int) := by omega
        have hjn : j < np := by omega
        have hb0 : (0 : Int) ≤ (j : Int) := by omega
        have e7 : IntKind.i64.wrap ((j : Int) + 1) = (j : Int) + 1 := IntWalk.i64_in _ ⟨by omega, by omega⟩
        obtain ⟨⟨a, b⟩, haj⟩ : ∃ k, ps[j]? = some k := ⟨ps[j]'(by rw [HNP.out]; omega), by rw [List.getElem?_eq_getElem]⟩
        have hok := HP.out.ok _ (List.mem_of_getElem? haj)
        have HA64 : Hid (I64 a) := hide hok.1
        have HB64 : Hid (I64 b) := hide hok.2
        have HEK : Hid ((ps.take (j + 1)).map Prod.fst = (ps.take j).map Prod.fst ++ [a]) := hide (by rw [take_snoc haj, List.map_append]; rfl)
        have HEV : Hid ((ps.take (j + 1)).map Prod.snd = (ps.take j).map Prod.snd ++ [b]) := hide (by rw [take_snoc haj, List.map_append]; rfl)
        have HJL : Hid ((ps.take j).length ≤ 200) := hide (by simp; rw [HNP.out]; omega)
        obtain rfl := HP1.out (by rw [HNP.out]; omega)
        obtain ⟨p0, p1⟩ := HP2.out j _ haj
        have c0 := cell_bel (nextB HPB.out HLW.out.bel) p0
        have c1 := cell_bel (nextB HPB.out HLW.out.bel) p1
        have HNK : Hid (∀ k, Value.ownBlock (.slice aO nO cO) = some k → k < wr.heap.size) := hide (fun k e => (HLW.out.two.hk.lt k e).2)
        have HNV2 : Hid (∀ k, Value.ownBlock (.slice aU nU cU) = some k → k < wr.heap.size) := hide (fun k e => (HLW.out.two.hv.lt k e).2)
        have HPS : Hid (PbS w7 wr.heap.size a b (wr.alloc (.cells #[.int .i64 a, .int .i64 b] 50)).drew) := hide (PbS.below (wx := wr.alloc (.cells #[.int .i64 a, .int .i64 b] 50)) ⟨nextB HLW.out.bel (bel_alloc _ _), heap_alloc_new _ _⟩ (below_drew0 _))
        have HTW : Hid (Two w7.heap.size (wr.alloc (.cells #[.int .i64 a, .int .i64 b] 50)).drew (.slice aO nO cO) (.slice aU nU cU) ((ps.take j).map Prod.fst) ((ps.take j).map Prod.snd)) := hide ((HLW.out.two.below (bel_alloc _ _)).below (below_drew0 _))
        clear hok p0 p1
        go_wp2_with fail
        obtain ⟨pb, hpb⟩ : ∃ b, wr.heap.size = b := ⟨_, rfl⟩
        simp only [hpb] at HPS HNK HNV2 ⊢
        refine wp_region_held_drew (S := PbS w7 pb a b) (by kernel_rfl) HPS.out (fun hS => ?_)
        have ht := HTW.out
        obtain ⟨wd, hwd⟩ : ∃ x, (wr.alloc (.cells #[.int .i64 a, .int .i64 b] 50)).drew = x := ⟨_, rfl⟩
        rw [hwd] at hS ht ⊢
        clear hwd HPS HTW hpb c0 c1
        refine take_want 0 (some 60) (.slice aO nO cO) rfl rfl rfl (by kernel_rfl) (by kernel_rfl) (by kernel_rfl) (fun _ _ _ h => h) (fun wx hx => exec_move rfl rfl) hS ?_
        simp only [Act.put, List.setIfInBounds_toArray, List.set_cons_zero, List.set_cons_succ]
        refine take_want 1 (some 61) (.pointer (some ⟨pb, 0, none⟩)) rfl rfl rfl (by kernel_rfl) (by kernel_rfl) (by kernel_rfl) (fun _ _ _ h => h) (fun wx hx => exec_field rfl (fldP0 _ _ wx) rfl) hS ?_
        simp only [Act.put, List.setIfInBounds_toArray, List.set_cons_zero, List.set_cons_succ]
        refine take_want 2 (some 62) (.int .i64 a) rfl rfl rfl (by kernel_rfl) (by kernel_rfl) (by kernel_rfl) (fun _ _ _ h => h) (fun wx hx => exec_load rfl (load_intP hx.c.1) rfl) hS ?_
        simp only [Act.put, List.setIfInBounds_toArray, List.set_cons_zero, List.set_cons_succ]
        refine take_want 5 (some 65) (.slice aU nU cU) rfl rfl rfl (by kernel_rfl) (by kernel_rfl) (by kernel_rfl) (fun _ _ _ h => h) (fun wx hx => exec_move rfl rfl) hS ?_
        simp only [Act.put, List.setIfInBounds_toArray, List.set_cons_zero, List.set_cons_succ]
        refine take_want 6 (some 66) (.pointer (some ⟨pb, 0 + 1, none⟩)) rfl rfl rfl (by kernel_rfl) (by kernel_rfl) (by kernel_rfl) (fun _ _ _ h => h) (fun wx hx => exec_field rfl (fldP1 _ _ wx) rfl) hS ?_
        simp only [Act.put, List.setIfInBounds_toArray, List.set_cons_zero, List.set_cons_succ]
        refine take_want 7 (some 67) (.int .i64 b) rfl rfl rfl (by kernel_rfl) (by kernel_rfl) (by kernel_rfl) (fun _ _ _ h => h) (fun wx hx => exec_load rfl (load_intP hx.c.2) rfl) hS ?_
        simp only [Act.put, List.setIfInBounds_toArray, List.set_cons_zero, List.set_cons_succ]
        refine wpAnyH_ready (rs := [3, 8]) (by kernel_rfl) (by simp) ((AllReadyH.cons rfl (fun K hK => ?_) (AllReadyH.cons rfl (fun K hK => ?_) AllReadyH.nil)))
        · have ht1 := ht.below (bel_alloc wd (.cells #[.int .i64 a] 3))
          have hS1 := hS.below (bel_alloc wd (.cells #[.int .i64 a] 3))
          have hl1 := heap_alloc_new wd (.cells #[.int .i64 a] 3)
          have hg1 := hS.lt
          refine step_dst (some 63) rfl rfl (exec_one rfl (lit1 wd a) rfl) (hK.out _ _ hS1 (fun _ => ?_))
          clear K hK
          simp only [Act.put, List.setIfInBounds_toArray, List.set_cons_zero, List.set_cons_succ]
          refine wpAnyH_ready (rs := [4, 8]) (by kernel_rfl) (by simp) ((AllReadyH.cons rfl (fun K hK => ?_) (AllReadyH.cons rfl (fun K hK => ?_) AllReadyH.nil)))
          · obtain ⟨vs2, ws2, ha2, hd2⟩ := ht1.append hS1.bel.size 22 (ints_blk hl1 HA64.out) (by have := HJL.out; simp; omega)
            have ht2 := hd2.two
            have hS2 := hS1.app hd2 (fun e => by have := HNK.out _ e; omega)
            refine step_dst (some 64) rfl rfl (exec_append rfl ha2 rfl rfl) (hK.out _ _ hS2 (fun _ => ?_))
            clear K hK
            simp only [Act.put, List.setIfInBounds_toArray, List.set_cons_zero, List.set_cons_succ]
            have ht3 := ht2.below (bel_alloc ws2 (.cells #[.int .i64 b] 3))
            have hS3 := hS2.below (bel_alloc ws2 (.cells #[.int .i64 b] 3))
            have hl3 := heap_alloc_new ws2 (.cells #[.int .i64 b] 3)
            have hg3 := hS2.lt
            refine only_value 8 (some 68) rfl rfl rfl (by kernel_rfl) (exec_one rfl (lit1 ws2 b) rfl) hS3 ?_
            simp only [Act.put, List.setIfInBounds_toArray, List.set_cons_zero, List.set_cons_succ]
            obtain ⟨vs4, ws4, ha4, hd4⟩ := ht3.swap.append hS3.bel.size 22 (ints_blk hl3 HB64.out) (by have := HJL.out; simp; omega)
            have ht4 := hd4.two.swap
            have hS4 := hS3.app hd4 (fun e => by have := HNV2.out _ e; omega)
            refine only_value 9 (some 69) rfl rfl rfl (by kernel_rfl) (exec_append rfl ha4 rfl rfl) hS4 ?_
            simp only [Act.put, List.setIfInBounds_toArray, List.set_cons_zero, List.set_cons_succ]
            obtain ⟨a1, n1, c1, rfl, -⟩ := ht4.hk.form
            obtain ⟨a2, n2, c2, rfl, -⟩ := ht4.hv.form
            refine take_want 10 (some 10) (.slice a1 n1 c1) rfl rfl rfl (by kernel_rfl) (by kernel_rfl) (by kernel_rfl) (fun _ _ _ h => h) (fun wx hx => exec_assign rfl rfl) hS4 ?_
            simp only [Act.put, List.setIfInBounds_toArray, List.set_cons_zero, List.set_cons_succ]
            refine take_want 11 (some 11) (.slice a2 n2 c2) rfl rfl rfl (by kernel_rfl) (by kernel_rfl) (by kernel_rfl) (fun _ _ _ h => h) (fun wx hx => exec_assign rfl rfl) hS4 ?_
            simp only [Act.put, List.setIfInBounds_toArray, List.set_cons_zero, List.set_cons_succ]
            refine wpAnyH_done (by kernel_rfl) ?_ _
            have HNX : Hid (LoW w7 (.slice a1 n1 c1) (.slice a2 n2 c2) ((ps.take (j + 1)).map Prod.fst) ((ps.take (j + 1)).map Prod.snd) _) := hide ⟨by rw [HEK.out, HEV.out]; exact ht4, hS4.bel⟩
            clear hS
            go_wp2_with fail
            go_roundg m
            case measure => omega
            case rel => exact ⟨j + 1, _, _, by omega, rfl, rfl, by go_num, HNX⟩
          · have ht5 := ht1.below (bel_alloc (wd.alloc (.cells #[.int .i64 a] 3)) (.cells #[.int .i64 b] 3))
            have hS5 := hS1.below (bel_alloc (wd.alloc (.cells #[.int .i64 a] 3)) (.cells #[.int .i64 b] 3))
            have hl5 := heap_alloc_new (wd.alloc (.cells #[.int .i64 a] 3)) (.cells #[.int .i64 b] 3)
            have hg5 := hS1.lt
            have hq5 := blk_below (bel_alloc (wd.alloc (.cells #[.int .i64 a] 3)) (.cells #[.int .i64 b] 3)) hl1
            refine step_dst (some 68) rfl rfl (exec_one rfl (lit1 (wd.alloc (.cells #[.int .i64 a] 3)) b) rfl) (hK.out _ _ hS5 (fun _ => ?_))
            clear K hK
            simp only [Act.put, List.setIfInBounds_toArray, List.set_cons_zero, List.set_cons_succ]
            obtain ⟨vs6, ws6, ha6, hd6⟩ := ht5.append hS5.bel.size 22 (ints_blk hq5 HA64.out) (by have := HJL.out; simp; omega)
            have ht6 := hd6.two
            have hS6 := hS5.app hd6 (fun e => by have := HNK.out _ e; omega)
            have hq6 := hd6.blk _ _ hl5 (fun e => by have := HNK.out _ e; omega)
            refine only_value 4 (some 64) rfl rfl rfl (by kernel_rfl) (exec_append rfl ha6 rfl rfl) hS6 ?_
            simp only [Act.put, List.setIfInBounds_toArray, List.set_cons_zero, List.set_cons_succ]
            obtain ⟨vs7, ws7, ha7, hd7⟩ := ht6.swap.append hS6.bel.size 22 (ints_blk hq6 HB64.out) (by have := HJL.out; simp; omega)
            have ht7 := hd7.two.swap
            have hS7 := hS6.app hd7 (fun e => by have := HNV2.out _ e; omega)
            refine only_value 9 (some 69) rfl rfl rfl (by kernel_rfl) (exec_append rfl ha7 rfl rfl) hS7 ?_
            simp only [Act.put, List.setIfInBounds_toArray, List.set_cons_zero, List.set_cons_succ]
            obtain ⟨a1, n1, c1, rfl, -⟩ := ht7.hk.form
            obtain ⟨a2, n2, c2, rfl, -⟩ := ht7.hv.form
            refine take_want 10 (some 10) (.slice a1 n1 c1) rfl rfl rfl (by kernel_rfl) (by kernel_rfl) (by kernel_rfl) (fun _ _ _ h => h) (fun wx hx => exec_assign rfl rfl) hS7 ?_
            simp only [Act.put, List.setIfInBounds_toArray, List.set_cons_zero, List.set_cons_succ]
            refine take_want 11 (some 11) (.slice a2 n2 c2) rfl rfl rfl (by kernel_rfl) (by kernel_rfl) (by kernel_rfl) (fun _ _ _ h => h) (fun wx hx => exec_assign rfl rfl) hS7 ?_
            simp only [Act.put, List.setIfInBounds_toArray, List.set_cons_zero, List.set_cons_succ]
            refine wpAnyH_done (by kernel_rfl) ?_ _
            have HNX : Hid (LoW w7 (.slice a1 n1 c1) (.slice a2 n2 c2) ((ps.take (j + 1)).map Prod.fst) ((ps.take (j + 1)).map Prod.snd) _) := hide ⟨by rw [HEK.out, HEV.out]; exact ht7, hS7.bel⟩
            clear hS
            go_wp2_with fail
            go_roundg m
            case measure => omega
            case rel => exact ⟨j + 1, _, _, by omega, rfl, rfl, by go_num, HNX⟩
        · have ht8 := ht.below (bel_alloc wd (.cells #[.int .i64 b] 3))
          have hS8 := hS.below (bel_alloc wd (.cells #[.int .i64 b] 3))
          have hl8 := heap_alloc_new wd (.cells #[.int .i64 b] 3)
          have hg8 := hS.lt
          refine step_dst (some 68) rfl rfl (exec_one rfl (lit1 wd b) rfl) (hK.out _ _ hS8 (fun _ => ?_))
          clear K hK
          simp only [Act.put, List.setIfInBounds_toArray, List.set_cons_zero, List.set_cons_succ]
          have ht9 := ht8.below (bel_alloc (wd.alloc (.cells #[.int .i64 b] 3)) (.cells #[.int .i64 a] 3))
          have hS9 := hS8.below (bel_alloc (wd.alloc (.cells #[.int .i64 b] 3)) (.cells #[.int .i64 a] 3))
          have hl9 := heap_alloc_new (wd.alloc (.cells #[.int .i64 b] 3)) (.cells #[.int .i64 a] 3)
          have hg9 := hS8.lt
          have hq9 := blk_below (bel_alloc (wd.alloc (.cells #[.int .i64 b] 3)) (.cells #[.int .i64 a] 3)) hl8
          refine only_value 3 (some 63) rfl rfl rfl (by kernel_rfl) (exec_one rfl (lit1 (wd.alloc (.cells #[.int .i64 b] 3)) a) rfl) hS9 ?_
          simp only [Act.put, List.setIfInBounds_toArray, List.set_cons_zero, List.set_cons_succ]
          obtain ⟨vs10, ws10, ha10, hd10⟩ := ht9.append hS9.bel.size 22 (ints_blk hl9 HA64.out) (by have := HJL.out; simp; omega)
          have ht10 := hd10.two
          have hS10 := hS9.app hd10 (fun e => by have := HNK.out _ e; omega)
          have hq10 := hd10.blk _ _ hq9 (fun e => by have := HNK.out _ e; omega)
          refine only_value 4 (some 64) rfl rfl rfl (by kernel_rfl) (exec_append rfl ha10 rfl rfl) hS10 ?_
          simp only [Act.put, List.setIfInBounds_toArray, List.set_cons_zero, List.set_cons_succ]
          obtain ⟨vs11, ws11, ha11, hd11⟩ := ht10.swap.append hS10.bel.size 22 (ints_blk hq10 HB64.out) (by have := HJL.out; simp; omega)
          have ht11 := hd11.two.swap
          have hS11 := hS10.app hd11 (fun e => by have := HNV2.out _ e; omega)
          refine only_value 9 (some 69) rfl rfl rfl (by kernel_rfl) (exec_append rfl ha11 rfl rfl) hS11 ?_
          simp only [Act.put, List.setIfInBounds_toArray, List.set_cons_zero, List.set_cons_succ]
          obtain ⟨a1, n1, c1, rfl, -⟩ := ht11.hk.form
          obtain ⟨a2, n2, c2, rfl, -⟩ := ht11.hv.form
          refine take_want 10 (some 10) (.slice a1 n1 c1) rfl rfl rfl (by kernel_rfl) (by kernel_rfl) (by kernel_rfl) (fun _ _ _ h => h) (fun wx hx => exec_assign rfl rfl) hS11 ?_
          simp only [Act.put, List.setIfInBounds_toArray, List.set_cons_zero, List.set_cons_succ]
          refine take_want 11 (some 11) (.slice a2 n2 c2) rfl rfl rfl (by kernel_rfl) (by kernel_rfl) (by kernel_rfl) (fun _ _ _ h => h) (fun wx hx => exec_assign rfl rfl) hS11 ?_
          simp only [Act.put, List.setIfInBounds_toArray, List.set_cons_zero, List.set_cons_succ]
          refine wpAnyH_done (by kernel_rfl) ?_ _
          have HNX : Hid (LoW w7 (.slice a1 n1 c1) (.slice a2 n2 c2) ((ps.take (j + 1)).map Prod.fst) ((ps.take (j + 1)).map Prod.snd) _) := hide ⟨by rw [HEK.out, HEV.out]; exact ht11, hS11.bel⟩
          clear hS
          go_wp2_with fail
          go_roundg m
          case measure => omega
          case rel => exact ⟨j + 1, _, _, by omega, rfl, rfl, by go_num, HNX⟩
  · have hrt := rtB_false.2 hR
    have hR0 := hide hR
    clear hR
    go_enter Try.func4, Try.ntmps4
    go_wp2_with (at_builtin; refine wpList_max3_eq rfl _ _ _ rfl rfl rfl rfl hmx ?_; clear hmx)
    refine (of_any L HK.out HV.out (by rw [HN.out]; omega) (by rw [HNV.out]; omega)).mono ?_
    rintro e w3 ⟨kv3, vv3, rfl, ht3, hb3⟩
    obtain ⟨aK3, nK3, cK3, rfl, -⟩ := ht3.hk.form
    obtain ⟨aV3, nV3, cV3, rfl, -⟩ := ht3.hv.form
    have hbX := bel_alloc w3 (.cells #[.int .i64 L, .slice aK3 nK3 cK3, .slice aV3 nV3 cV3] 26)
    have HBX := hide (nextB hb3 hbX)
    have HIX := hide (And.intro (ht3.ints.1.below hbX) (ht3.ints.2.below hbX))
    have HXX := hide (BoxN.new 26 w3 L (.slice aK3 nK3 cK3) (.slice aV3 nV3 cV3))
    clear ht3 hb3 hbX
    go_wp2_with fail
    obtain ⟨b7, hb7⟩ : ∃ b, w3.heap.size = b := ⟨_, rfl⟩
    obtain ⟨wX, hwX⟩ : ∃ x, w3.alloc (.cells #[.int .i64 L, .slice aK3 nK3 cK3, .slice aV3 nV3 cV3] 26) = x := ⟨_, rfl⟩
    simp only [hwX, hb7] at HBX HIX HXX ⊢
    clear hwX hb7
    have HSX := hide (below_drew0 wX)
    obtain ⟨X0, X1, X2⟩ := HXX.out.cells
    refine wp_region_held_drew (S := Below wX.heap.size wX) (by kernel_rfl) HSX.out (fun hS => ?_)
    obtain ⟨wd, hwd⟩ : ∃ x, wX.drew = x := ⟨_, rfl⟩
    rw [hwd] at hS ⊢
    clear hwd HSX
    refine take_want 0 (some 29) (.agg #[.int .i64 L, .slice aK3 nK3 cK3, .slice aV3 nV3 cV3]) rfl rfl rfl (by kernel_rfl) (by kernel_rfl) (by kernel_rfl) (fun _ _ _ h => h) (fun wx hx => exec_load rfl (load_nodeP ⟨cell_bel hx X0, cell_bel hx X1, cell_bel hx X2⟩) rfl) hS ?_
    simp only [Act.put, List.setIfInBounds_toArray, List.set_cons_zero, List.set_cons_succ]
    refine take_want 1 (some 30) (.int .i64 at_) rfl rfl rfl (by kernel_rfl) (by kernel_rfl) (by kernel_rfl) (fun _ _ _ h => h) (fun wx hx => exec_move rfl rfl) hS ?_
    simp only [Act.put, List.setIfInBounds_toArray, List.set_cons_zero, List.set_cons_succ]
    refine take_want 3 (some 32) (.slice aP np cP) rfl rfl rfl (by kernel_rfl) (by kernel_rfl) (by kernel_rfl) (fun _ _ _ h => h) (fun wx hx => exec_move rfl rfl) hS ?_
    simp only [Act.put, List.setIfInBounds_toArray, List.set_cons_zero, List.set_cons_succ]
    obtain ⟨aC, cC, vC, wC, haC, hsC, hcC, hcvC, hcmC, hbC⟩ := copy_e (HP.out.below (nextB HBX.out hS)) (by rw [HNP.out]; omega) 47
    refine only_value 2 (some 31) rfl rfl rfl (by kernel_rfl) (exec_lit0 rfl (litP0 wd)) (nextB hS (bel_alloc wd (.cells #[] 50))) ?_
    simp only [Act.put, List.setIfInBounds_toArray, List.set_cons_zero, List.set_cons_succ]
    have hS4 := nextB hS hbC
    refine only_value 4 (some 33) rfl rfl rfl (by kernel_rfl) (exec_append rfl haC rfl rfl) hS4 ?_
    simp only [Act.put, List.setIfInBounds_toArray, List.set_cons_zero, List.set_cons_succ]
    have hch := change_bad (HIX.out.1.below hS4) (HIX.out.2.below hS4) hR0.out at_ (some aC) cC vC
    refine call_want 5 (some 34) rfl rfl rfl (by kernel_rfl) (exec_call3 rfl enterChange rfl rfl rfl rfl) (hch.mono ?_)
    rintro e' w4 ⟨v4, rfl, hn4, hb4⟩
    have hS5 := nextB hS4 hb4
    refine ⟨_, rfl, hS5, ?_⟩
    simp only [Act.put, List.setIfInBounds_toArray, List.set_cons_zero, List.set_cons_succ]
    refine take_want 6 (some 28) (.tuple #[v4, (errV 70)]) rfl rfl rfl (by kernel_rfl) (by kernel_rfl) (by kernel_rfl) (fun _ _ _ h => h) (fun wx hx => exec_move rfl rfl) hS5 ?_
    simp only [Act.put, List.setIfInBounds_toArray, List.set_cons_zero, List.set_cons_succ]
    refine take_want 7 (some 35) v4 rfl rfl rfl (by kernel_rfl) (by kernel_rfl) (by kernel_rfl) (fun _ _ _ h => h) (fun wx hx => exec_extract0 rfl rfl) hS5 ?_
    simp only [Act.put, List.setIfInBounds_toArray, List.set_cons_zero, List.set_cons_succ]
    refine take_want 8 (some 36) (errV 70) rfl rfl rfl (by kernel_rfl) (by kernel_rfl) (by kernel_rfl) (fun _ _ _ h => h) (fun wx hx => exec_extract1 rfl rfl) hS5 ?_
    simp only [Act.put, List.setIfInBounds_toArray, List.set_cons_zero, List.set_cons_succ]
    refine take_want 9 (some 8) v4 rfl rfl rfl (by kernel_rfl) (by kernel_rfl) (by kernel_rfl) (fun _ _ _ h => h) (fun wx hx => exec_assign rfl rfl) hS5 ?_
    simp only [Act.put, List.setIfInBounds_toArray, List.set_cons_zero, List.set_cons_succ]
    refine take_want 10 (some 9) (errV 70) rfl rfl rfl (by kernel_rfl) (by kernel_rfl) (by kernel_rfl) (fun _ _ _ h => h) (fun wx hx => exec_assign rfl rfl) hS5 ?_
    simp only [Act.put, List.setIfInBounds_toArray, List.set_cons_zero, List.set_cons_succ]
    refine wpAnyH_done (by kernel_rfl) ?_ _
    have HN4 := hide hn4
    have HB4 := hide hS5
    clear X0 X1 X2 haC hsC hcC hcvC hcmC hbC hS4 hch hb4 hS5 hS
    obtain ⟨aN, cN, gN, nN, rfl, hnN, -⟩ := hn4
    obtain rfl : nN = 0 := hnN.out
    obtain ⟨y0, y1, y2⟩ := (HXX.out.below HB4.out).cells
    have HXW := hide (nextB HBX.out HB4.out)
    obtain ⟨x0, x1, x2⟩ := (HX.out.below HXW.out).cells
    go_wp2_with fail
    clear y0 y1 y2 x0 x1 x2
    refine (same_any L L (HIX.out.1.below HB4.out) (HIX.out.2.below HB4.out) (HK.out.below HXW.out) (HV.out.below HXW.out)).mono ?_
    rintro e w6 ⟨rfl, hb6⟩
    rw [sameB_self]
    have HXW6 := hide (nextB HXW.out hb6)
    have HB6 := hide hb6
    clear hb6
    obtain ⟨x0, x1, x2⟩ := (HX.out.below HXW6.out).cells
    go_wp2_with fail
    clear x0 x1 x2
    refine (right_any L (HK.out.below HXW6.out) (HV.out.below HXW6.out)).mono ?_
    rintro e w7 ⟨rfl, hb7⟩
    rw [hrt]
    have HXW7 := hide (nextB HXW6.out hb7)
    have HB7 := hide (nextB HB6.out hb7)
    clear hb7
    have HFIN := hide (nextB HBA.out HXW7.out)
    go_wp2_with (first
      | (go_at_call 14; refine (is_any 70 70 _).mono ?_; rintro e w8 ⟨rfl, rfl⟩)
      | (go_at_call 8; refine (awake_any _).mono ?_; rintro e w9 ⟨rfl, hb9⟩; have HB9 := hide (nextB HFIN.out hb9); clear hb9))
    go_ret
    exact ⟨rfl, HB9.out⟩
end Go.Proofs.Ytcidadikmmdalaa
