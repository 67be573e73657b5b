/- The law LocksEnds. -/
import Derived.Test.YtjofbehmhdjohaaEnF
import Derived.Test.YtjofbehmhdjohaaBase15
namespace Go.Proofs.Ytjofbehmhdjohaa
open Go.RowKit Go.Extern

theorem cut_len {E : List En} {p : Nat} (h : p < E.length) : (E.take p ++ E.drop (p + 1)).length + 1 = E.length := by simp; omega
theorem enterWaiting (args : Array Value) (w : World) : (callFunc 25 args).run Try.prog w = .ok (.enter 25 args) w := by kernel_rfl
theorem len_ints (w : World) (a : Option Addr) (n c : Nat) : (Builtin.len_ #[45] 3 #[.slice a n c]).run Try.prog w = .ok (.int .i64 (n : Int)) w := by kernel_rfl
theorem len_rentries (w : World) (a : Option Addr) (n c : Nat) : (Builtin.len_ #[31] 3 #[.slice a n c]).run Try.prog w = .ok (.int .i64 (n : Int)) w := by kernel_rfl
theorem index0 {w : World} {g off n cap : Nat} (h : 0 < n) : (Instr.indexAt 45 (.slice (some ⟨g, off, none⟩) n cap) (.int .i64 0)).run Try.prog w = .ok (.pointer (some ⟨g, off, none⟩)) w := by
  have hlt : (0 : Int) < (n : Int) := by omega
  have h1 : ((0 : Int) ≤ 0) := by omega
  go_simp
section
variable {ρ : Operand → Value} {o : Oper} {w : World} {x y : Operand} {n m : Int} {T : TypeId} {b : Bool}
theorem exec_gtr (ho : o.op = .binOp .gtr 3 x y T) (hx : ρ x = .int .i64 n) (hy : ρ y = .int .i64 m) (h : decide (m < n) = b) : (execOp ρ o).run Try.prog w = .ok (.value (.bool b)) w := by
  subst h
  unfold execOp; simp only [ho, hx, hy]; go_simp
theorem exec_eql (ho : o.op = .binOp .eql 3 x y T) (hx : ρ x = .int .i64 n) (hy : ρ y = .int .i64 m) (h : decide (n = m) = b) : (execOp ρ o).run Try.prog w = .ok (.value (.bool b)) w := by
  subst h
  have e : (n == m) = decide (n = m) := by rw [Bool.eq_iff_iff]; simp
  unfold execOp; simp only [ho, hx, hy]; go_simp
theorem exec_neq (ho : o.op = .binOp .neq 3 x y T) (hx : ρ x = .int .i64 n) (hy : ρ y = .int .i64 m) (h : decide (n ≠ m) = b) : (execOp ρ o).run Try.prog w = .ok (.value (.bool b)) w := by
  subst h
  have e : (n != m) = decide (n ≠ m) := by rw [Bool.eq_iff_iff]; simp
  unfold execOp; simp only [ho, hx, hy]; go_simp
end
section
variable {ops : Array Oper} {Q : Exit → Act → World → Prop} {md : Region.Mode} {S : World → Prop}
/-- The one operation that may come up is wanted, and tells a value. -/
theorem only_want (i : Nat) {oi : Oper} (dst : Option Tmp) {fuel : Nat} {listed : Array Bool} {a : Act} {w : World} (hi : ops[i]? = some oi) (hd : oi.dst = dst) (hg : Region.wanted oi (yielded ops a.tmps) = true) (hr : Region.ready md ops listed = [i])
    {v : Value} {w' : World} (hrun : (execOp a.eval oi).run Try.prog w = .ok (.value v) w') (hS : S w') (h : wpAnyH Try.prog md ops Q S fuel (listed.setIfInBounds i true) (a.put dst v) w') : wpAnyH Try.prog md ops Q S (fuel + 1) listed a w := by
  subst hd
  refine wpAnyH_ready hr (by simp) (AllReadyH.cons hi (fun K hK => ?_) AllReadyH.nil)
  rw [if_pos hg]
  unfold Oper.wp
  rw [hrun]
  exact hK.out _ _ hS (fun _ => h)
end
theorem OwnI.head {w : World} {B : Nat} {v : Value} {x : Int} {l : List Int} (h : OwnI w B v (x :: l)) : ∃ g cap, v = .slice (some ⟨g, 0, none⟩) (l.length + 1) cap ∧ ∀ (i : Nat) k, (x :: l)[i]? = some k → w.cell? ⟨g, i, none⟩ = some (.int .i64 k) := by
  obtain ⟨g, cap, cur, rfl, hh, h1, h2, h3, h4, h5⟩ := ownsRow_pos h.1 (by simp)
  refine ⟨g, cap, by simp, fun i k hk => ?_⟩
  have := World.ownsRow.cells h.1 (g := g) rfl i (encI k) (by rw [List.getElem?_map, hk]; rfl)
  rw [add_plain, Nat.zero_add] at this
  exact this

set_option maxRecDepth 100000 in
set_option maxHeartbeats 16000000 in
theorem endsL_any {w : World} {v0 v1 : Value} {l0 : List SlD} {l1 : List Int} (hl0 : Spss w v0 l0) (hl1 : Ints w v1 l1) :
    Calls Try.prog 6 #[v0, v1] w fun e w' => e = .returned (.bool true) ∧ Below w.heap.size w w' := by
  obtain ⟨ao, cap, g, off, rfl, h2, h3, h4, h5⟩ := hl0
  have HP1 := hide hl1.2
  obtain ⟨ao1, cap1, g1, off1, rfl, h21, h31⟩ := hl1.at_
  have H2 := hide h2
  have H3 := hide h3
  have H4 := hide h4
  have H21 := hide h21
  have H31 := hide h31
  obtain ⟨n, hn⟩ : ∃ n, l0.length = n := ⟨_, rfl⟩
  obtain ⟨n1, hn1⟩ : ∃ n, l1.length = n := ⟨_, rfl⟩
  rw [hn] at h5 ⊢
  rw [hn1]
  have HN := hide hn
  have HN1 := hide hn1
  clear h2 h3 h4 h21 h31 hn hn1 hl1
  go_enter Try.func6, Try.ntmps6
  go_wp2_with fail
  refine (St.new w).mono ?_
  rintro e w1 ⟨b, rfl, hs⟩
  have HS0 := hide hs
  clear hs
  by_cases big : 40 < n
  · have hg : (40 : Int) < (n : Int) := by omega
    clear big H2 H3 H4 H21 H31
    go_wp2_with (go_at_call 11; refine (awake_any _).mono ?_; rintro e w2 ⟨rfl, hb⟩; have HBE := hide (nextB HS0.out.bel hb); clear hb)
    go_ret
    exact ⟨rfl, HBE.out⟩
  have hg : ¬ (40 : Int) < (n : Int) := by omega
  have HBIG := hide big
  clear big
  have HS := hide (EnS.start HS0.out)
  go_wp2_with fail
  clear hg HS0
  go_loopg [34, 6] n (fun t v34 v6 wr => ∃ (j : Nat) (E A : List En) (c : Nat), j + t = n ∧ v34 = .int .i64 (j : Int) ∧ c ≤ j ∧ A.length = c ∧ Hid (Tied E A) ∧ Hid (EnS w b E (c : Int) v6 A (.slice none 0 0) [] wr))
  case atStart => exact ⟨0, [], [], 0, by omega, rfl, Nat.le_refl _, rfl, hide Tied.nil, HS⟩
  case round =>
    clear HS
    obtain ⟨j, E, A, c, hj, rfl, hcj, hAc, HT, HS⟩ := hrel
    obtain ⟨a6, n6, c6, rfl, hn6⟩ := HS.out.al.form
    obtain rfl : n6 = c := by rw [hn6.out]; exact hAc
    cases gk with
    | zero =>
      have hnl : ¬ (j : Int) < (n : Int) := by omega
      have HUA : Hid (Up (A.map En.num)) := hide (by rw [← HT.out.nums]; exact HS.out.st.up)
      have HAC := hide hAc
      have HLE := hide (show n6 ≤ 40 by have := HBIG.out; omega)
      have HJ := hide (Jv.start HT.out)
      have HEL : Hid (E.length = n6) := hide (by rw [HT.out.len]; exact hAc)
      clear hAc hn6
      go_wp2_with fail
      go_loopg [12, 11] n6 (fun t v12 v11 wr => ∃ (i : Nat) (E DA : List En), i + t = n6 ∧ v12 = .int .i64 (i : Int) ∧ Hid (E.length = t) ∧ Hid (DA.length = i) ∧ Hid (Jv A E DA) ∧ Hid (EnS w b E (n6 : Int) (.slice a6 n6 c6) A v11 (DA.map En.num) wr))
      case atStart => exact ⟨0, E, [], by omega, rfl, HEL, hide rfl, HJ, HS⟩
      case round =>
        clear HS HJ HEL HT E hnl hj hcj
        obtain ⟨i, E, DA, hi, rfl, HEL, HDL, HJ, HS⟩ := hrel
        obtain ⟨a11, n11, c11, rfl, hn11⟩ := HS.out.dn.form
        obtain rfl : n11 = i := by rw [hn11.out, List.length_map]; exact HDL.out
        obtain ⟨F, htb⟩ := HS.out.st.tb
        have hW := waiting_any htb
        clear htb hn11
        cases gk with
        | zero =>
          obtain rfl : n11 = n6 := by omega
          have hE0 : E = [] := List.length_eq_zero_iff.1 HEL.out
          subst hE0
          go_wp2_with fail
          refine hW.mono ?_
          rintro e w2 ⟨v, rfl, ho, hb2⟩
          obtain ⟨aw, nw, cw, rfl, hnw⟩ := ho.form
          obtain rfl : nw = 0 := hnw.out
          have HS2 := hide (HS.out.below hb2)
          clear ho hb2 hnw HS hW
          go_wp2_with fail
          have HBF : Hid (w2.heap.size ≤ w2.heap.size) := hide (Nat.le_refl _)
          go_loopg [118] n11 (fun t v118 wr => ∃ (i : Nat), i + t = n11 ∧ v118 = .int .i64 (i : Int) ∧ Hid (Below w2.heap.size w2 wr))
          case atStart => exact ⟨0, by omega, rfl, hide (Below.refl _ _)⟩
          case round =>
            obtain ⟨i, hi, rfl, HB⟩ := hrel
            cases gk with
            | zero =>
              have hnl : ¬ (i : Int) < (n11 : Int) := by omega
              obtain rfl : i = n11 := by omega
              go_wp2_with (go_at_call 11; refine (awake_any _).mono ?_; rintro e w3 ⟨rfl, hb⟩; have HBE := hide (nextB (HS2.out.below HB.out).bel hb); clear hb)
              go_ret
              exact ⟨rfl, HBE.out⟩
            | succ m =>
              have hlt : (i : Int) < (n11 : Int) := by omega
              have hb0 : (0 : Int) ≤ (i : Int) := by omega
              obtain ⟨y, hy⟩ : ∃ y, DA[i]? = some y := ⟨DA[i]'(by rw [HDL.out]; omega), by rw [List.getElem?_eq_getElem]⟩
              obtain ⟨d0, DT, hdd⟩ : ∃ d0 DT, DA.map En.num = d0 :: DT := by
                cases hD : DA with
                | nil => rw [hD] at hy; simp at hy
                | cons d DT => exact ⟨_, _, rfl⟩
              have hdn := HS2.out.dn
              rw [hdd] at hdn
              obtain ⟨gd, cd, ed, hdc⟩ := hdn.head
              injection ed with ed1 ed2 ed3
              subst ed1
              rw [← hdd] at hdc
              have HDC := hide hdc
              have kd := cell_bel HB.out (hdc i y.num (num_at hy))
              have HY := hide hy
              have hcd : n11 ≤ c11 := by
                obtain ⟨_, _, _, e, _, h, _⟩ := ownsRow_pos (HS2.out.dn.1) (by rw [List.length_map, HDL.out]; omega)
                rw [List.length_map, HDL.out] at h
                injection e with _ _ e3
                omega
              have hic : i ≤ c11 := by omega
              have hi63 : IntKind.i64.wrap ((i : Int) + 1) = (i : Int) + 1 := IntWalk.i64_in _ ⟨by omega, by have := HLE.out; omega⟩
              have hin : i < n11 := by omega
              obtain ⟨py, hpy⟩ := List.mem_iff_getElem?.1 (HJ.out.dsub y (List.mem_of_getElem? hy))
              have HPY := hide hpy
              clear hy hdd hdn ed2 ed3 hdc hcd hpy
              go_wp2_with fail
              clear kd
              go_loopg [127] i (fun t v127 wr => ∃ (k : Nat), k + t = i ∧ v127 = .int .i64 (k : Int) ∧ Hid (Below w2.heap.size w2 wr))
              case atStart => exact ⟨0, by omega, rfl, HB⟩
              case round =>
                clear HB
                obtain ⟨k, hk, rfl, HB⟩ := hrel
                cases gk with
                | zero =>
                  have hnl : ¬ (k : Int) < (i : Int) := by omega
                  go_wp2_with fail
                  go_roundg m
                  case measure => omega
                  case rel => exact ⟨i + 1, by omega, by simp, HB⟩
                | succ m2 =>
                  have hlt2 : (k : Int) < (i : Int) := by omega
                  have hk0 : (0 : Int) ≤ (k : Int) := by omega
                  obtain ⟨z, hz⟩ : ∃ z, DA[k]? = some z := ⟨DA[k]'(by rw [HDL.out]; omega), by rw [List.getElem?_eq_getElem]⟩
                  have kd := cell_bel HB.out (HDC.out k z.num (num_at hz))
                  have HZ := hide hz
                  have hk63 : IntKind.i64.wrap ((k : Int) + 1) = (k : Int) + 1 := IntWalk.i64_in _ ⟨by omega, by have := HLE.out; omega⟩
                  obtain ⟨pz, hpz⟩ := List.mem_iff_getElem?.1 (HJ.out.dsub z (List.mem_of_getElem? hz))
                  have HPZ := hide hpz
                  have HKI := hide (show k < i by omega)
                  clear hz hpz
                  by_cases hgt : y.num < z.num
                  · have hAp : clE y.sps z.sps = false := by
                      rw [clE_comm]
                      obtain ⟨q1, q2⟩ := List.getElem?_eq_some_iff.1 HZ.out
                      obtain ⟨q3, q4⟩ := List.getElem?_eq_some_iff.1 HY.out
                      have := List.pairwise_iff_getElem.1 HJ.out.pair k i q1 q3 HKI.out
                      rw [q2, q4] at this
                      exact this hgt
                    have HAP := hide hAp
                    clear hAp
                    have hE1 := entry_any (HS2.out.ens.below HB.out) HUA.out HPY.out
                    go_wp2_with fail
                    clear kd
                    refine hE1.mono ?_
                    rintro e w3 ⟨rfl, hb3⟩
                    have HB3 := hide (nextB HB.out hb3)
                    clear hb3 hE1
                    have hE2 := entry_any (HS2.out.ens.below HB3.out) HUA.out HPZ.out
                    go_wp2_with fail
                    refine hE2.mono ?_
                    rintro e w4 ⟨rfl, hb4⟩
                    have HB4 := hide (nextB HB3.out hb4)
                    clear hb4 hE2
                    have hE3 := apart_any (m1 := y.num) (m2 := z.num) (((HS2.out.below HB4.out).ens).sps (List.mem_of_getElem? HPY.out)) (((HS2.out.below HB4.out).ens).sps (List.mem_of_getElem? HPZ.out))
                    rw [HAP.out] at hE3
                    go_wp2_with fail
                    refine hE3.mono ?_
                    rintro e w5 ⟨rfl, hb5⟩
                    have HB5 := hide (nextB HB4.out hb5)
                    clear hb5 hE3
                    go_wp2_with fail
                    go_roundg m2
                    case measure => omega
                    case rel => exact ⟨k + 1, by omega, by simp, HB5⟩
                  · go_wp2_with fail
                    go_roundg m2
                    case measure => omega
                    case rel => exact ⟨k + 1, by omega, by simp, HB⟩
        | succ t =>
          go_wp2_with fail
          refine hW.mono ?_
          rintro e w2 ⟨v, rfl, ho, hb2⟩
          obtain ⟨aw, nw, cw, rfl, hnw⟩ := ho.form
          obtain rfl : nw = t + 1 := by rw [hnw.out, List.length_map]; exact HEL.out
          have hpos : (0 : Int) < ((t + 1 : Nat) : Int) := by omega
          have HB2 := hide hb2
          obtain ⟨F, htb⟩ := (HS.out.below hb2).st.tb
          have hR := ready_any htb
          clear ho hb2 hnw htb hW
          go_wp2_with fail
          clear hpos
          refine hR.mono ?_
          rintro e w3 ⟨rv, rfl, hor, hb3⟩
          obtain ⟨e0, E1, rfl⟩ : ∃ e0 E1, E = e0 :: E1 := by
            cases E with
            | nil => have := HEL.out; simp at this
            | cons e0 E1 => exact ⟨e0, E1, rfl⟩
          obtain ⟨RT, hRT⟩ := rdyN_head (e := e0) (E := E1) E1.length
          have hRT2 : rdyN (e0 :: E1) (e0 :: E1).length = e0.num :: RT := hRT
          rw [hRT2] at hor
          have HRT := hide hRT2
          obtain ⟨gr, cr, rfl, hrc⟩ := hor.head
          have HBR := hide (nextB HB2.out hb3)
          have HOR := hide (hor.base (base' := wr.heap.size) HB2.out.size)
          have HRC := hide hrc
          obtain ⟨F, htb⟩ := (HS.out.below HBR.out).st.tb
          have HWW := hide (fun wx hb => waiting_any (htb.below (w' := wx) hb))
          clear hR hb3 hor hRT hRT2 htb HB2
          go_wp2_with fail
          have r0 := hrc 0 e0.num rfl
          have hni : ¬ (n6 : Int) < (n11 : Int) := by omega
          refine wp_region_held_drew (S := fun wx => Below w3.heap.size w3 wx) (by kernel_rfl) (below_drew0 w3) (fun hS => ?_)
          refine take_want 0 (some 66) (.slice (some ⟨gr, 0, none⟩) (RT.length + 1) cr) rfl rfl rfl (by kernel_rfl) (by kernel_rfl) (by kernel_rfl) (fun _ _ _ h => h) (fun wx hx => exec_move rfl rfl) hS ?_
          simp only [Act.put, List.setIfInBounds_toArray, List.set_cons_zero, List.set_cons_succ]
          refine take_want 1 (some 67) (.int .i64 ((RT.length + 1 : Nat) : Int)) rfl rfl rfl (by kernel_rfl) (by kernel_rfl) (by kernel_rfl) (fun _ _ _ h => h) (fun wx hx => exec_len rfl (len_ints wx _ _ _) rfl) hS ?_
          simp only [Act.put, List.setIfInBounds_toArray, List.set_cons_zero, List.set_cons_succ]
          refine take_want 2 (some 68) (.bool false) rfl rfl rfl (by kernel_rfl) (by kernel_rfl) (by kernel_rfl) (fun _ _ _ h => h) (fun wx hx => exec_eql rfl rfl rfl (decide_eq_false (by omega))) hS ?_
          simp only [Act.put, List.setIfInBounds_toArray, List.set_cons_zero, List.set_cons_succ]
          refine take_want 3 (some 69) (.bool false) rfl rfl rfl (by kernel_rfl) (by kernel_rfl) (by kernel_rfl) (fun _ _ _ h => h) (fun wx hx => exec_move rfl rfl) hS ?_
          simp only [Act.put, List.setIfInBounds_toArray, List.set_cons_zero, List.set_cons_succ]
          refine take_want 4 (some 70) (.slice (some ⟨gr, 0, none⟩) (RT.length + 1) cr) rfl rfl rfl (by kernel_rfl) (by kernel_rfl) (by kernel_rfl) (fun _ _ _ h => h) (fun wx hx => exec_move rfl rfl) hS ?_
          simp only [Act.put, List.setIfInBounds_toArray, List.set_cons_zero, List.set_cons_succ]
          refine take_want 5 (some 71) (.pointer (some ⟨gr, 0, none⟩)) rfl rfl rfl (by kernel_rfl) (by kernel_rfl) (by kernel_rfl) (fun _ _ _ h => h) (fun wx hx => exec_index rfl (index0 (by omega)) rfl rfl) hS ?_
          simp only [Act.put, List.setIfInBounds_toArray, List.set_cons_zero, List.set_cons_succ]
          refine take_want 6 (some 72) (.int .i64 e0.num) rfl rfl rfl (by kernel_rfl) (by kernel_rfl) (by kernel_rfl) (fun _ _ _ h => h) (fun wx hx => exec_load rfl (load_intV (cell_bel hx r0)) rfl) hS ?_
          simp only [Act.put, List.setIfInBounds_toArray, List.set_cons_zero, List.set_cons_succ]
          refine take_want 7 (some 73) (.pointer (some ⟨b, 0, none⟩)) rfl rfl rfl (by kernel_rfl) (by kernel_rfl) (by kernel_rfl) (fun _ _ _ h => h) (fun wx hx => exec_move rfl rfl) hS ?_
          simp only [Act.put, List.setIfInBounds_toArray, List.set_cons_zero, List.set_cons_succ]
          refine call_want 8 (some 74) rfl rfl rfl (by kernel_rfl) (exec_call1 rfl enterWaiting rfl rfl) ((HWW.out _ hS).mono ?_)
          rintro e w4 ⟨v4, rfl, ho4, hb4⟩
          obtain ⟨gw, cw4, rfl, hwc⟩ := ho4.head
          have q0 := hwc 0 e0.num rfl
          have hS1 := nextB hS hb4
          refine ⟨_, rfl, hS1, ?_⟩
          clear hb4 ho4 hwc
          simp only [Act.put, List.setIfInBounds_toArray, List.set_cons_zero, List.set_cons_succ]
          refine take_want 9 (some 75) (.pointer (some ⟨gw, 0, none⟩)) rfl rfl rfl (by kernel_rfl) (by kernel_rfl) (by kernel_rfl) (fun _ _ _ h => h) (fun wx hx => exec_index rfl (index0 (by omega)) rfl rfl) hS1 ?_
          simp only [Act.put, List.setIfInBounds_toArray, List.set_cons_zero, List.set_cons_succ]
          refine only_want 10 (some 76) rfl rfl rfl (by kernel_rfl) (exec_load rfl (load_intV q0) rfl) hS1 ?_
          simp only [Act.put, List.setIfInBounds_toArray, List.set_cons_zero, List.set_cons_succ]
          refine take_want 11 (some 77) (.bool false) rfl rfl rfl (by kernel_rfl) (by kernel_rfl) (by kernel_rfl) (fun _ _ _ h => h) (fun wx hx => exec_neq rfl rfl rfl (decide_eq_false (by simp))) hS1 ?_
          simp only [Act.put, List.setIfInBounds_toArray, List.set_cons_zero, List.set_cons_succ]
          refine take_want 12 (some 78) (.bool false) rfl rfl rfl (by kernel_rfl) (by kernel_rfl) (by kernel_rfl) (fun _ _ _ h => h) (fun wx hx => exec_pickF rfl rfl rfl) hS1 ?_
          simp only [Act.put, List.setIfInBounds_toArray, List.set_cons_zero, List.set_cons_succ]
          refine take_want 13 (some 79) (.bool false) rfl rfl rfl (by kernel_rfl) (by kernel_rfl) (by kernel_rfl) (fun _ _ _ h => h) (fun wx hx => exec_move rfl rfl) hS1 ?_
          simp only [Act.put, List.setIfInBounds_toArray, List.set_cons_zero, List.set_cons_succ]
          refine take_want 14 (some 80) (.int .i64 (n11 : Int)) rfl rfl rfl (by kernel_rfl) (by kernel_rfl) (by kernel_rfl) (fun _ _ _ h => h) (fun wx hx => exec_move rfl rfl) hS1 ?_
          simp only [Act.put, List.setIfInBounds_toArray, List.set_cons_zero, List.set_cons_succ]
          refine take_want 15 (some 81) (.slice a6 n6 c6) rfl rfl rfl (by kernel_rfl) (by kernel_rfl) (by kernel_rfl) (fun _ _ _ h => h) (fun wx hx => exec_move rfl rfl) hS1 ?_
          simp only [Act.put, List.setIfInBounds_toArray, List.set_cons_zero, List.set_cons_succ]
          refine take_want 16 (some 82) (.int .i64 (n6 : Int)) rfl rfl rfl (by kernel_rfl) (by kernel_rfl) (by kernel_rfl) (fun _ _ _ h => h) (fun wx hx => exec_len rfl (len_rentries wx _ _ _) rfl) hS1 ?_
          simp only [Act.put, List.setIfInBounds_toArray, List.set_cons_zero, List.set_cons_succ]
          refine take_want 17 (some 83) (.bool false) rfl rfl rfl (by kernel_rfl) (by kernel_rfl) (by kernel_rfl) (fun _ _ _ h => h) (fun wx hx => exec_gtr rfl rfl rfl (decide_eq_false hni)) hS1 ?_
          simp only [Act.put, List.setIfInBounds_toArray, List.set_cons_zero, List.set_cons_succ]
          refine take_want 18 (some 84) (.bool false) rfl rfl rfl (by kernel_rfl) (by kernel_rfl) (by kernel_rfl) (fun _ _ _ h => h) (fun wx hx => exec_pickF rfl rfl rfl) hS1 ?_
          simp only [Act.put, List.setIfInBounds_toArray, List.set_cons_zero, List.set_cons_succ]
          refine wpAnyH_done (by kernel_rfl) ?_ _
          have HB3 := hide hS1
          clear hS hS1 r0 hni q0
          replace HOR := hide (HOR.out.below HB3.out)
          replace HRC := hide (fun i k hk => cell_bel HB3.out (HRC.out i k hk))
          replace HBR := hide (nextB HBR.out HB3.out)
          clear HB3 HWW hrc
          by_cases hpk : n11 < n1
          · obtain ⟨q, hq⟩ : ∃ q, l1[n11]? = some q := ⟨l1[n11]'(by rw [HN1.out]; exact hpk), by rw [List.getElem?_eq_getElem]⟩
            obtain rfl := H21.out (by rw [HN1.out]; omega)
            have kq := cell_bel (nextB HS.out.bel HBR.out) (H31.out n11 q hq)
            have HQI := hide (HP1.out q (List.mem_of_getElem? hq))
            have hlt : (n11 : Int) < (n1 : Int) := by omega
            have hn0 : (0 : Int) ≤ (n11 : Int) := by omega
            obtain ⟨kk, hkk, hke⟩ := pick_in q (m := RT.length + 1) (by omega)
            have htb := tmod_bounds q (m := RT.length + 1) (by omega)
            have hmle : RT.length + 1 ≤ 1000 := by have h1 := rdyN_length (e0 :: E1) (e0 :: E1).length; rw [HRT.out] at h1; have h2 := HEL.out; have h3 := HLE.out; simp at h1 h2; omega
            obtain ⟨t1, ht1⟩ : ∃ t1, q.tmod ((RT.length + 1 : Nat) : Int) = t1 := ⟨_, rfl⟩
            rw [ht1] at hke htb
            have u1 : IntKind.i64.wrap t1 = t1 := IntWalk.i64_in _ ⟨by omega, by omega⟩
            have u2 : IntKind.i64.wrap (t1 + ((RT.length + 1 : Nat) : Int)) = t1 + ((RT.length + 1 : Nat) : Int) := IntWalk.i64_in _ ⟨by omega, by omega⟩
            have u3 : IntKind.i64.wrap (kk : Int) = (kk : Int) := IntWalk.i64_in _ ⟨by omega, by omega⟩
            have u4 : ¬ (((RT.length + 1 : Nat) : Int) = 0) := by omega
            have HKK := hide hkk
            have HPK := hide hpk
            obtain ⟨rk, hrk⟩ : ∃ r, (e0.num :: RT)[kk]? = some r := ⟨(e0.num :: RT)[kk]'(by simp; omega), by rw [List.getElem?_eq_getElem]⟩
            obtain ⟨pp, x, hx, hxn, hf⟩ := rdyN_mem _ (by rw [HRT.out]; exact List.mem_of_getElem? hrk)
            have kr := HRC.out kk rk hrk
            have hD := HS.out.done HBR.out HOR.out hx hf
            rw [hxn] at hD
            have HRK := hide hrk
            obtain ⟨z, hzn, hj2⟩ := HJ.out.step HS.out.st.up hx hf
            have HJ2 := hide hj2
            have HZN := hide (hzn.trans hxn)
            have HCUT : Hid (((e0 :: E1).take pp ++ (e0 :: E1).drop (pp + 1)).length = t) := hide (by have h1 := cut_len (List.getElem?_eq_some_iff.1 hx).1; have h2 := HEL.out; omega)
            have HI64 : Hid (I64 rk) := hide (by have h1 := HS.out.st.num x (List.mem_of_getElem? hx); rw [hxn] at h1; have h2 := HLE.out; unfold I64; omega)
            have kx : kk < RT.length + 1 := by omega
            have hkl : (kk : Int) < ((RT.length + 1 : Nat) : Int) := by omega
            have hk0 : (0 : Int) ≤ (kk : Int) := by omega
            obtain ⟨m5, hm5⟩ : ∃ m5, RT.length + 1 = m5 := ⟨_, rfl⟩
            simp only [hm5] at hke ht1 u2 u4 hkl kx ⊢
            have HM5 := hide hm5
            clear hq htb hmle hkk hm5 hpk hx hf hrk hj2 hzn kx
            go_wp2_with fail
            clear kr
            refine hD.mono ?_
            rintro e w6 ⟨rfl, hs6, ho6⟩
            obtain ⟨g6, cc6, e6, hc6⟩ := ho6.head
            injection e6 with e61 e62 e63
            injection e61 with e61
            injection e61 with e64 _ _
            subst e64
            have kr := hc6 kk rk HRK.out
            obtain ⟨a12, n12, c12, w7, hap, hs7⟩ := hs6.log (k := rk) HI64.out (by have h1 := HDL.out; have h2 := HLE.out; simp; omega)
            have HS7 := hide hs7
            have hi63 : IntKind.i64.wrap ((n11 : Int) + 1) = (n11 : Int) + 1 := IntWalk.i64_in _ ⟨by omega, by have := HLE.out; omega⟩
            clear hs6 ho6 hs7 hD e62 e63 hc6
            go_wp2_with (at_builtin; refine wpList_append_eq rfl _ _ rfl rfl rfl hap ?_)
            go_roundg t
            case measure => omega
            case rel => exact ⟨n11 + 1, _, DA ++ [z], by omega, by simp, HCUT, hide (by simp [HDL.out]), HJ2, hide (by have h1 := HS7.out; simpa [HZN.out] using h1)⟩
          · have hlt : ¬ (n11 : Int) < (n1 : Int) := by omega
            obtain ⟨kk, hkk, hke⟩ : ∃ kk : Nat, kk < RT.length + 1 ∧ (0 : Int) = (kk : Int) := ⟨0, by omega, rfl⟩
            obtain ⟨rk, hrk⟩ : ∃ r, (e0.num :: RT)[kk]? = some r := ⟨(e0.num :: RT)[kk]'(by simp; omega), by rw [List.getElem?_eq_getElem]⟩
            obtain ⟨pp, x, hx, hxn, hf⟩ := rdyN_mem _ (by rw [HRT.out]; exact List.mem_of_getElem? hrk)
            have kr := HRC.out kk rk hrk
            have hD := HS.out.done HBR.out HOR.out hx hf
            rw [hxn] at hD
            have HRK := hide hrk
            obtain ⟨z, hzn, hj2⟩ := HJ.out.step HS.out.st.up hx hf
            have HJ2 := hide hj2
            have HZN := hide (hzn.trans hxn)
            have HCUT : Hid (((e0 :: E1).take pp ++ (e0 :: E1).drop (pp + 1)).length = t) := hide (by have h1 := cut_len (List.getElem?_eq_some_iff.1 hx).1; have h2 := HEL.out; omega)
            have HI64 : Hid (I64 rk) := hide (by have h1 := HS.out.st.num x (List.mem_of_getElem? hx); rw [hxn] at h1; have h2 := HLE.out; unfold I64; omega)
            have kx : kk < RT.length + 1 := by omega
            have hkl : (kk : Int) < ((RT.length + 1 : Nat) : Int) := by omega
            have hk0 : (0 : Int) ≤ (kk : Int) := by omega
            obtain ⟨m5, hm5⟩ : ∃ m5, RT.length + 1 = m5 := ⟨_, rfl⟩
            simp only [hm5] at hkl kx ⊢
            obtain rfl : kk = 0 := by omega
            clear hpk hx hf hrk hj2 hzn hm5 kx hke hkk
            go_wp2_with fail
            clear kr
            refine hD.mono ?_
            rintro e w6 ⟨rfl, hs6, ho6⟩
            obtain ⟨g6, cc6, e6, hc6⟩ := ho6.head
            injection e6 with e61 e62 e63
            injection e61 with e61
            injection e61 with e64 _ _
            subst e64
            have kr := hc6 0 rk HRK.out
            obtain ⟨a12, n12, c12, w7, hap, hs7⟩ := hs6.log (k := rk) HI64.out (by have h1 := HDL.out; have h2 := HLE.out; simp; omega)
            have HS7 := hide hs7
            have hi63 : IntKind.i64.wrap ((n11 : Int) + 1) = (n11 : Int) + 1 := IntWalk.i64_in _ ⟨by omega, by have := HLE.out; omega⟩
            clear hs6 ho6 hs7 hD e62 e63 hc6
            go_wp2_with (at_builtin; refine wpList_append_eq rfl _ _ rfl rfl rfl hap ?_)
            go_roundg t
            case measure => omega
            case rel => exact ⟨n11 + 1, _, DA ++ [z], by omega, by simp, HCUT, hide (by simp [HDL.out]), HJ2, hide (by have h1 := HS7.out; simpa [HZN.out] using h1)⟩
    | succ m =>
      have hlt : (j : Int) < (n : Int) := by omega
      have hb0 : (0 : Int) ≤ (j : Int) := by omega
      obtain ⟨p, he⟩ : ∃ e, l0[j]? = some e := ⟨l0[j]'(by rw [HN.out]; omega), by rw [List.getElem?_eq_getElem]⟩
      obtain rfl := H2.out (by rw [HN.out]; omega)
      have k0 := cell_bel HS.out.bel (H3.out j p he)
      have HSP := hide (H4.out p (List.mem_of_getElem? he))
      have hpl : p.n = p.sps.length := by obtain ⟨_, _, _, e, h⟩ := HSP.out.form; injection e with _ e2 _; rw [e2]; exact h.out
      have HPL := hide hpl
      have hj63 : (j : Int) + 1 < 140737488355328 + 1 := by omega
      have HAC := hide hAc
      clear he hpl hn6 hAc
      by_cases hten : 10 < p.n
      · have hg : (10 : Int) < (p.n : Int) := by omega
        clear hten
        go_wp2_with (go_at_call 11; refine (awake_any _).mono ?_; rintro e w2 ⟨rfl, hb⟩; have HBE := hide (nextB HS.out.bel hb); clear hb)
        go_ret
        exact ⟨rfl, HBE.out⟩
      have hg : ¬ (10 : Int) < (p.n : Int) := by omega
      have HTEN := hide hten
      clear hten
      have hSp := spans_any (HSP.out.below HS.out.bel) (by have := HPL.out; have := HTEN.out; omega)
      go_wp2_with fail
      clear k0 hg
      refine hSp.mono ?_
      rintro e w2 ⟨v, rfl, hov, hb2⟩
      have HOV := hide hov
      have HB2 := hide hb2
      obtain ⟨av, nv, cv, rfl, -⟩ := hov.form
      clear hov hb2 hSp
      cases hr : p.sps.all rightB with
      | false =>
        have hBad := add_bad (b := b) (HOV.out.sps HSP.out.ok) hr
        clear hr
        go_wp2_with fail
        refine hBad.mono ?_
        rintro e w3 ⟨rfl, hb3⟩
        have HS3 := hide (HS.out.below (nextB HB2.out hb3))
        clear hb3 hBad
        go_wp2_with fail
        go_roundg m
        case measure => omega
        case rel => exact ⟨j + 1, E, A, n6, by omega, by simp, by omega, HAC.out, HT, HS3⟩
      | true =>
        have hAdd := HS.out.add HB2.out HOV.out HSP.out.ok hr (by have := HBIG.out; omega)
        clear hr
        go_wp2_with fail
        refine hAdd.mono ?_
        rintro e w3 ⟨x, rfl, xn, xs, hs3, -⟩
        obtain ⟨a7, n7, c7, w4, hap, hs4⟩ := hs3.push (x := ⟨(n6 : Int) + 1, p.ao, p.n, p.cap, p.sps⟩) HSP.out (by have := HAC.out; have := HBIG.out; omega)
        have HS4 := hide hs4
        have HT4 := hide (HT.out.snoc (x := x) (y := ⟨(n6 : Int) + 1, p.ao, p.n, p.cap, p.sps⟩) xn xs)
        simp only at hap
        clear hs3 hs4 xn xs hAdd
        go_wp2_with (at_builtin; refine wpList_append_eq rfl _ _ rfl rfl rfl hap ?_)
        go_roundg m
        case measure => omega
        case rel => exact ⟨j + 1, E ++ [x], _, n6 + 1, by omega, by simp, by omega, by simp [HAC.out], HT4, hide (by have := HS4.out; simpa using this)⟩
end Go.Proofs.Ytjofbehmhdjohaa
