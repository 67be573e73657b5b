/- The law PlanWhole. -/
import Derived.Test.YtnkcebngfnailaaWh0
import Derived.Test.YtnkcebngfnailaaFiL
namespace Go.Proofs.Ytnkcebngfnailaa
open Go.RowKit Go.Extern

theorem fldG0 (g i : Nat) (w : World) : (Instr.fieldAt 36 (.pointer (some ⟨g, i, none⟩)) 0).run Try.prog w = .ok (.pointer (some ⟨g, i, none⟩)) w := by kernel_rfl
theorem fldG1 (g i : Nat) (w : World) : (Instr.fieldAt 36 (.pointer (some ⟨g, i, none⟩)) 1).run Try.prog w = .ok (.pointer (some ⟨g, i + 1, none⟩)) w := by kernel_rfl
theorem index_regs {w : World} {g n cap i : Nat} (h : i < n) : (Instr.indexAt 24 (.slice (some ⟨g, 0, none⟩) n cap) (.int .i64 (i : Int))).run Try.prog w = .ok (.pointer (some ⟨g, i * 2, none⟩)) w := by
  have hlt : (i : Int) < (n : Int) := by omega
  have hge : (0 : Int) ≤ (i : Int) := by omega
  go_simp
theorem len_regs (w : World) (a : Option Addr) (n c : Nat) : (Builtin.len_ #[24] 3 #[.slice a n c]).run Try.prog w = .ok (.int .i64 (n : Int)) w := by kernel_rfl
theorem load_sliceV {w : World} {p : Addr} {a : Option Addr} {n c : Nat} (h : w.cell? p = some (.slice a n c)) : (Instr.loadAt 22 (.pointer (some p))).run Try.prog w = .ok (.slice a n c) w := by go_simp
theorem exec_lit0 {ρ : Operand → Value} {o : Oper} {w w' : World} {ty : TypeId} {v : Value} (ho : o.op = .buildSlice ty 0 #[]) (hr : (Instr.buildSlice ty 0 #[]).run Try.prog w = .ok v w') : (execOp ρ o).run Try.prog w = .ok (.value v) w' := by
  unfold execOp; simp [ho, hr]
theorem lit0 (w : World) : (Instr.buildSlice 22 0 #[]).run Try.prog w = .ok (.slice (some ⟨w.heap.size, 0, none⟩) 0 0) (w.alloc (.cells #[] 3)) := by kernel_rfl
theorem boxG (w : World) (k : Int) (a : Option Addr) (n c : Nat) : (w.alloc (.cells #[.int .i64 k, .slice a n c] 36)).cell? ⟨w.heap.size, 0, none⟩ = some (.int .i64 k) ∧ (w.alloc (.cells #[.int .i64 k, .slice a n c] 36)).cell? ⟨w.heap.size, 0 + 1, none⟩ = some (.slice a n c) :=
  ⟨row_cell (heap_alloc_new w _) 0, row_cell (heap_alloc_new w _) 1⟩
theorem enterRegions (args : Array Value) (w : World) : (callFunc 9 args).run Try.prog w = .ok (.enter 9 args) w := by kernel_rfl
theorem enterInts (args : Array Value) (w : World) : (callFunc 11 args).run Try.prog w = .ok (.enter 11 args) w := by kernel_rfl

set_option maxRecDepth 100000 in
set_option maxHeartbeats 16000000 in
theorem wholeL_any {w : World} {v : Value} {l : List Int} {d : Int} (hv : Ints w v l) (_hd : I64 d) : Calls Try.prog 5 #[v, .int .i64 d] w (Tru w) := by
  have hR := right_any hv
  have HV := hide hv
  have HDD := hide _hd
  obtain ⟨a0, n, c0, rfl, hn⟩ := hv.form
  have h5 := hv.len
  rw [← hn.out] at h5
  clear hv _hd
  go_enter Try.func5, Try.ntmps5
  go_wp2_with fail
  refine hR.mono ?_
  rintro e w1 ⟨⟨b, rfl, hb⟩, hb1⟩
  have HB1 := hide hb1
  have HV1 := hide (HV.out.below hb1)
  clear hb1 hR HV
  cases b with
  | false =>
    clear hb
    go_wp2_with fail
    refine (awake_any _).mono ?_
    rintro e w2 ⟨rfl, hb2⟩
    have HB2 := hide (nextB HB1.out hb2)
    clear hb2
    go_wp2_with fail
    go_ret
    exact ⟨rfl, HB2.out⟩
  | true =>
    have HRT := hide (hb.1 rfl)
    clear hb
    by_cases c1 : (100 : Int) < (n : Int)
    · go_wp2_with fail
      refine (awake_any _).mono ?_
      rintro e w2 ⟨rfl, hb2⟩
      have HB2 := hide (nextB HB1.out hb2)
      clear hb2
      go_wp2_with fail
      go_ret
      exact ⟨rfl, HB2.out⟩
    · have hn100 : n ≤ 100 := by omega
      have HLN : Hid (l.length ≤ 1000) := by show _ ≤ _; rw [← hn.out]; omega
      obtain ⟨xa, xn, xc, w2, hap, hx2, hb2⟩ := anew HV1.out HLN.out
      have HB2 := hide (nextB HB1.out hb2)
      have HV2 := hide (HV1.out.below hb2)
      have hC := regions_any hx2 HLN.out
      clear hx2 hb2
      go_wp2_with (at_builtin; refine wpList_append_eq rfl _ _ rfl rfl rfl hap ?_)
      refine hC.mono ?_
      rintro e w3 ⟨h, hb3⟩
      rcases h with ⟨-, vL, L, rfl, hg, ho⟩ | ⟨hno, -⟩
      · have HB3 := hide (nextB HB2.out hb3)
        have HV3 := hide (HV2.out.below hb3)
        have HG := hide hg
        have HO := hide ho
        obtain ⟨ao, cap, g, rfl, hL5, h2, h3⟩ := hg.at_
        have H2 := hide h2
        have H3 := hide h3
        obtain ⟨n2, hn2⟩ : ∃ n, L.length = n := ⟨_, rfl⟩
        rw [hn2] at hL5 ⊢
        have HN := hide hn2
        have HST := hide (InvW.start HRT.out ho)
        rw [← hn.out] at HST
        clear hb3 hg ho hap hC h2 h3 hn2 HV1 HV2 HB1 HB2 c1
        go_wp2_with fail
        go_loopg [7, 8, 37] n2 (fun k la cn i wr => ∃ (j : Nat) (u : List Int) (last : Int) (cnt : Nat), j + k = n2 ∧ la = .int .i64 last ∧ cn = .int .i64 (cnt : Int) ∧ i = .int .i64 (j : Int) ∧ Hid (InvW L n j u last cnt) ∧ Hid (Below w3.heap.size w3 wr))
        case atStart => exact ⟨0, _, 0, 0, by omega, rfl, by simp, by simp, HST, hide (Below.refl _ _)⟩
        case round =>
          clear HST
          obtain ⟨j, u, last, cnt, hj, rfl, rfl, rfl, HI, HB⟩ := hrel
          cases gk with
          | zero =>
            have hnl : ¬ (j : Int) < (n2 : Int) := by omega
            have hcn : cnt = n := HI.out.done (by rw [HN.out]; omega)
            subst hcn
            have HV4 := hide (HV3.out.below HB.out)
            have HG4 := hide (HG.out.below HB.out)
            have HB4 := hide (nextB HB3.out HB.out)
            have e0 : ((cnt : Int) != (cnt : Int)) = false := by simp
            have e0' : ((cnt : Int) == (cnt : Int)) = true := by simp
            clear HI HB HV3 HG HB3 hj
            by_cases hz : cnt = 0
            · subst hz
              go_wp2_with fail
              refine (awake_any _).mono ?_
              rintro e w5 ⟨rfl, hb5⟩
              have HB5 := hide (nextB HB4.out hb5)
              clear hb5
              go_wp2_with fail
              go_ret
              exact ⟨rfl, HB5.out⟩
            · have hpos : 0 < cnt := by omega
              have hz1 : ((cnt : Int) == 0) = false := by simp; omega
              have hz2 : ¬ ((cnt : Int) = 0) := by omega
              obtain ⟨x, m, hx, hm, hml, hx1, hx2⟩ := turned hpos d
              have e1 : IntKind.i64.wrap x = x := by rw [IntKind.wrap_i64]; omega
              have e2 : IntKind.i64.wrap (x + (cnt : Int)) = x + (cnt : Int) := by rw [IntKind.wrap_i64]; omega
              have e3 : IntKind.i64.wrap (m : Int) = (m : Int) := by rw [IntKind.wrap_i64]; omega
              have e4 : IntKind.i64.wrap (d.tmod (cnt : Int)) = x := by rw [hx]; exact e1
              have e5 : IntKind.i64.wrap ((x + (cnt : Int)).tmod (cnt : Int)) = (m : Int) := by rw [hm]; exact e3
              have HML := hide hml
              have hlen : cnt = l.length := hn.out
              obtain ⟨ya, yn, yc, hcF, HYF⟩ := ints_from HV4.out (lo := m) (by rw [← hlen]; omega)
              obtain ⟨za, zn, zc, hcT, HZT⟩ := ints_to HV4.out (hi := m) (by rw [← hlen]; omega)
              have HLEN := hide hlen
              clear hlen hml hx1 hx2 hz
              go_wp2_with fail
              refine wp_region_held_drew (S := fun wx => Below wr.heap.size wr wx) (by kernel_rfl) (below_drew0 wr) (fun hS => ?_)
              obtain ⟨v1, w5, hap1, hg1⟩ := append_i (wr.drew.alloc (.cells #[] 3)) 22 wr.drew.heap.size _ _ [] (l.drop m) (OwnI.empty wr.drew wr.drew.heap.size (Nat.le_refl _)) ((HYF.out.below hS).below (bel_alloc _ _)) (by have := HLN.out; simp; omega) (by simp)
              have hbA : Below wr.heap.size wr (wr.drew.alloc (.cells #[] 3)) := nextB hS (bel_alloc _ _)
              have hb5 : Below wr.heap.size wr w5 := hbA.trans (hg1.below (B := wr.heap.size) (by simp) (fun k hk => by simp [Value.ownBlock] at hk; have : wr.drew.heap.size = wr.heap.size := rfl; omega))
              obtain ⟨v2, w6, hap2, hg2⟩ := append_i w5 22 wr.drew.heap.size _ _ _ (l.take m) hg1.own (HZT.out.below hb5) (by have := HLN.out; simp; omega) (by have := hb5.size; exact this)
              have hb6 : Below wr.heap.size wr w6 := hb5.trans (hg2.below (B := wr.heap.size) hb5.size (fun k hk => (hg1.own.lt k hk).1))
              have hi6 := hg2.own.ints
              rw [List.nil_append] at hi6
              have hQ := regions_any hi6 (by have := HLN.out; simp; omega)
              have hap1' : (Builtin.append_ #[22, 22] 22 #[.slice (some ⟨wr.heap.size, 0, none⟩) 0 0, .slice ya yn yc]).run Try.prog (wr.drew.alloc (.cells #[] 3)) = .ok v1 w5 := hap1
              refine take_want 1 (some 124) (.slice a0 cnt c0) rfl rfl rfl (by kernel_rfl) (by kernel_rfl) (by kernel_rfl) (fun _ _ _ h => h) (fun wx hx => exec_move rfl rfl) hS ?_
              simp only [Act.put, List.setIfInBounds_toArray, List.set_cons_zero, List.set_cons_succ]
              refine take_want 2 (some 125) (.int .i64 (m : Int)) rfl rfl rfl (by kernel_rfl) (by kernel_rfl) (by kernel_rfl) (fun _ _ _ h => h) (fun wx hx => exec_move rfl rfl) hS ?_
              simp only [Act.put, List.setIfInBounds_toArray, List.set_cons_zero, List.set_cons_succ]
              refine take_want 3 (some 126) (.slice ya yn yc) rfl rfl rfl (by kernel_rfl) (by kernel_rfl) (by kernel_rfl) (fun _ _ _ h => h) (fun wx hx => exec_slice_l rfl ((run_sliceAt_slice wx _ _ _ _ _ underI).trans (hcF wx)) rfl rfl) hS ?_
              simp only [Act.put, List.setIfInBounds_toArray, List.set_cons_zero, List.set_cons_succ]
              refine take_want 5 (some 128) (.slice a0 cnt c0) rfl rfl rfl (by kernel_rfl) (by kernel_rfl) (by kernel_rfl) (fun _ _ _ h => h) (fun wx hx => exec_move rfl rfl) hS ?_
              simp only [Act.put, List.setIfInBounds_toArray, List.set_cons_zero, List.set_cons_succ]
              refine take_want 6 (some 129) (.int .i64 (m : Int)) rfl rfl rfl (by kernel_rfl) (by kernel_rfl) (by kernel_rfl) (fun _ _ _ h => h) (fun wx hx => exec_move rfl rfl) hS ?_
              simp only [Act.put, List.setIfInBounds_toArray, List.set_cons_zero, List.set_cons_succ]
              refine take_want 7 (some 130) (.slice za zn zc) rfl rfl rfl (by kernel_rfl) (by kernel_rfl) (by kernel_rfl) (fun _ _ _ h => h) (fun wx hx => exec_slice_h rfl ((run_sliceAt_slice wx _ _ _ _ _ underI).trans (hcT wx)) rfl rfl) hS ?_
              simp only [Act.put, List.setIfInBounds_toArray, List.set_cons_zero, List.set_cons_succ]
              refine only_value 0 (some 123) rfl rfl rfl (by kernel_rfl) (exec_lit0 rfl (lit0 wr.drew)) hbA ?_
              simp only [Act.put, List.setIfInBounds_toArray, List.set_cons_zero, List.set_cons_succ]
              refine only_value 4 (some 127) rfl rfl rfl (by kernel_rfl) (exec_append rfl hap1' rfl rfl) hb5 ?_
              simp only [Act.put, List.setIfInBounds_toArray, List.set_cons_zero, List.set_cons_succ]
              refine only_value 8 (some 131) rfl rfl rfl (by kernel_rfl) (exec_append rfl hap2 rfl rfl) hb6 ?_
              simp only [Act.put, List.setIfInBounds_toArray, List.set_cons_zero, List.set_cons_succ]
              refine call_want 9 (some 132) rfl rfl rfl (by kernel_rfl) (exec_call1 rfl enterRegions rfl rfl) (hQ.mono ?_)
              rintro e w7 ⟨h, hc7⟩
              rcases h with ⟨-, vM, M, rfl, hgm, hom⟩ | ⟨hno, -⟩
              rotate_left
              · exact absurd (HRT.out.perm (turn_perm l m).symm) hno
              have hb7 : Below wr.heap.size wr w7 := hb6.trans (hc7.mono hb6.size)
              obtain ⟨ma0, mn0, mc0, rfl, -⟩ := hgm.form
              refine ⟨_, rfl, hb7, ?_⟩
              simp only [Act.put, List.setIfInBounds_toArray, List.set_cons_zero, List.set_cons_succ]
              refine take_want 10 (some 122) (.tuple #[.slice ma0 mn0 mc0, .nilIface]) rfl rfl rfl (by kernel_rfl) (by kernel_rfl) (by kernel_rfl) (fun _ _ _ h => h) (fun wx hx => exec_move rfl rfl) hb7 ?_
              simp only [Act.put, List.setIfInBounds_toArray, List.set_cons_zero, List.set_cons_succ]
              refine take_want 11 (some 133) (.slice ma0 mn0 mc0) rfl rfl rfl (by kernel_rfl) (by kernel_rfl) (by kernel_rfl) (fun _ _ _ h => h) (fun wx hx => exec_extract0 rfl rfl) hb7 ?_
              simp only [Act.put, List.setIfInBounds_toArray, List.set_cons_zero, List.set_cons_succ]
              refine take_want 12 (some 134) .nilIface rfl rfl rfl (by kernel_rfl) (by kernel_rfl) (by kernel_rfl) (fun _ _ _ h => h) (fun wx hx => exec_extract1 rfl rfl) hb7 ?_
              simp only [Act.put, List.setIfInBounds_toArray, List.set_cons_zero, List.set_cons_succ]
              refine take_want 13 (some 14) (.slice ma0 mn0 mc0) rfl rfl rfl (by kernel_rfl) (by kernel_rfl) (by kernel_rfl) (fun _ _ _ h => h) (fun wx hx => exec_assign rfl rfl) hb7 ?_
              simp only [Act.put, List.setIfInBounds_toArray, List.set_cons_zero, List.set_cons_succ]
              refine take_want 14 (some 15) .nilIface rfl rfl rfl (by kernel_rfl) (by kernel_rfl) (by kernel_rfl) (fun _ _ _ h => h) (fun wx hx => exec_assign rfl rfl) hb7 ?_
              simp only [Act.put, List.setIfInBounds_toArray, List.set_cons_zero, List.set_cons_succ]
              refine wpAnyH_done (by kernel_rfl) ?_ _
              clear hc7
              have HB7 := hide (nextB HB4.out hb7)
              have HG7 := hide (HG4.out.below hb7)
              have HM := hide hgm
              have hOM : outR M = outR L := by rw [hom, HO.out, sortS_same (turn_perm l m)]
              have HOM := hide hOM
              obtain ⟨la, lcap, lg, ev, -, h2, h3⟩ := HG7.out.at_
              rw [HN.out] at ev h2
              simp only [Value.slice.injEq, true_and] at ev
              obtain ⟨rfl, rfl⟩ := ev
              have hMn : M.length = n2 := by rw [← HN.out, ← outR_length M, ← outR_length L, hOM]
              obtain ⟨ma, mcap, mg, ev, -, m2, m3⟩ := HM.out.at_
              rw [hMn] at ev m2
              simp only [Value.slice.injEq] at ev
              obtain ⟨e7, e8, e9⟩ := ev
              have e7' := e7.symm
              have e8' := e8.symm
              have e9' := e9.symm
              subst e7' e8' e9'
              clear e7 e8 e9
              have L2 := hide h2
              have L3 := hide h3
              have M2 := hide m2
              have M3 := hide m3
              have e6 : ((n2 : Int) != (n2 : Int)) = false := by simp
              clear hS hap1 hap1' hap2 hg1 hg2 hbA hb5 hb6 hi6 hQ hgm hom hOM h2 h3 m2 m3 hMn hb7 HM HG7 e1 e2 e3 e4 e5 e0 e0' hx hm hcF hcT hz1 hz2 hnl
              go_wp2_with fail
              go_loopg [146] n2 (fun k i wq => ∃ j : Nat, j + k = n2 ∧ i = .int .i64 (j : Int) ∧ Hid (Below w7.heap.size w7 wq))
              case atStart => exact ⟨0, by omega, rfl, hide (Below.refl _ _)⟩
              case round =>
                obtain ⟨t, ht, rfl, HBT⟩ := hrel
                cases gk with
                | zero =>
                  have hnl : ¬ (t : Int) < (n2 : Int) := by omega
                  go_wp2_with fail
                  refine (awake_any _).mono ?_
                  rintro e w8 ⟨rfl, hb8⟩
                  have HB8 := hide (nextB (nextB HB7.out HBT.out) hb8)
                  clear hb8
                  go_wp2_with fail
                  go_ret
                  exact ⟨rfl, HB8.out⟩
                | succ m5 =>
                  have hlt : (t : Int) < (n2 : Int) := by omega
                  have htn : t < n2 := by omega
                  have hb0 : (0 : Int) ≤ (t : Int) := by omega
                  obtain ⟨r, he⟩ : ∃ e, L[t]? = some e := ⟨L[t]'(by rw [HN.out]; omega), by rw [List.getElem?_eq_getElem]⟩
                  obtain ⟨s, hs, hsd, hsl⟩ := outR_at HOM.out he
                  obtain rfl := L2.out (by omega)
                  obtain rfl := M2.out (by omega)
                  obtain ⟨r0, r1, hri⟩ := L3.out t r he
                  obtain ⟨s0, s1, hsi⟩ := M3.out t s hs
                  have hRI := hri.below HBT.out
                  have hSI := hsi.below HBT.out
                  rw [hsl] at hSI
                  rw [hsd] at s0
                  replace r0 := cell_bel HBT.out r0
                  replace r1 := cell_bel HBT.out r1
                  replace s0 := cell_bel HBT.out s0
                  replace s1 := cell_bel HBT.out s1
                  have HRI := hide hRI
                  have HSI := hide hSI
                  have hj63 : IntKind.i64.wrap ((t : Int) + 1) = (t : Int) + 1 := IntWalk.i64_in _ ⟨by omega, by omega⟩
                  clear he hs hsd hsl hri hsi hRI hSI
                  go_wp2_with fail
                  refine wp_region_held_drew (S := fun wx => Below wr.heap.size wr wx) (by kernel_rfl) (below_drew0 wr) (fun hS => ?_)
                  refine take_want 0 (some 149) (.slice (some ⟨lg, 0, none⟩) n2 cap) rfl rfl rfl (by kernel_rfl) (by kernel_rfl) (by kernel_rfl) (fun _ _ _ h => h) (fun wx hx => exec_move rfl rfl) hS ?_
                  simp only [Act.put, List.setIfInBounds_toArray, List.set_cons_zero, List.set_cons_succ]
                  refine take_want 1 (some 150) (.int .i64 (t : Int)) rfl rfl rfl (by kernel_rfl) (by kernel_rfl) (by kernel_rfl) (fun _ _ _ h => h) (fun wx hx => exec_move rfl rfl) hS ?_
                  simp only [Act.put, List.setIfInBounds_toArray, List.set_cons_zero, List.set_cons_succ]
                  refine take_want 2 (some 151) (.pointer (some ⟨lg, t * 2, none⟩)) rfl rfl rfl (by kernel_rfl) (by kernel_rfl) (by kernel_rfl) (fun _ _ _ h => h) (fun wx hx => exec_index rfl (index_regs htn) rfl rfl) hS ?_
                  simp only [Act.put, List.setIfInBounds_toArray, List.set_cons_zero, List.set_cons_succ]
                  refine take_want 3 (some 152) (.pointer (some ⟨lg, t * 2, none⟩)) rfl rfl rfl (by kernel_rfl) (by kernel_rfl) (by kernel_rfl) (fun _ _ _ h => h) (fun wx hx => exec_field rfl (fldG0 _ _ wx) rfl) hS ?_
                  simp only [Act.put, List.setIfInBounds_toArray, List.set_cons_zero, List.set_cons_succ]
                  refine take_want 4 (some 153) (.int .i64 r.dev) rfl rfl rfl (by kernel_rfl) (by kernel_rfl) (by kernel_rfl) (fun _ _ _ h => h) (fun wx hx => exec_load rfl (load_intV (cell_bel hx r0)) rfl) hS ?_
                  simp only [Act.put, List.setIfInBounds_toArray, List.set_cons_zero, List.set_cons_succ]
                  refine take_want 5 (some 154) (.slice (some ⟨mg, 0, none⟩) n2 mcap) rfl rfl rfl (by kernel_rfl) (by kernel_rfl) (by kernel_rfl) (fun _ _ _ h => h) (fun wx hx => exec_move rfl rfl) hS ?_
                  simp only [Act.put, List.setIfInBounds_toArray, List.set_cons_zero, List.set_cons_succ]
                  refine take_want 6 (some 155) (.int .i64 (t : Int)) rfl rfl rfl (by kernel_rfl) (by kernel_rfl) (by kernel_rfl) (fun _ _ _ h => h) (fun wx hx => exec_move rfl rfl) hS ?_
                  simp only [Act.put, List.setIfInBounds_toArray, List.set_cons_zero, List.set_cons_succ]
                  refine take_want 7 (some 156) (.pointer (some ⟨mg, t * 2, none⟩)) rfl rfl rfl (by kernel_rfl) (by kernel_rfl) (by kernel_rfl) (fun _ _ _ h => h) (fun wx hx => exec_index rfl (index_regs htn) rfl rfl) hS ?_
                  simp only [Act.put, List.setIfInBounds_toArray, List.set_cons_zero, List.set_cons_succ]
                  refine take_want 8 (some 157) (.pointer (some ⟨mg, t * 2, none⟩)) rfl rfl rfl (by kernel_rfl) (by kernel_rfl) (by kernel_rfl) (fun _ _ _ h => h) (fun wx hx => exec_field rfl (fldG0 _ _ wx) rfl) hS ?_
                  simp only [Act.put, List.setIfInBounds_toArray, List.set_cons_zero, List.set_cons_succ]
                  refine take_want 9 (some 158) (.int .i64 r.dev) rfl rfl rfl (by kernel_rfl) (by kernel_rfl) (by kernel_rfl) (fun _ _ _ h => h) (fun wx hx => exec_load rfl (load_intV (cell_bel hx s0)) rfl) hS ?_
                  simp only [Act.put, List.setIfInBounds_toArray, List.set_cons_zero, List.set_cons_succ]
                  refine take_want 10 (some 159) (.bool false) rfl rfl rfl (by kernel_rfl) (by kernel_rfl) (by kernel_rfl) (fun _ _ _ h => h) (fun wx hx => exec_neqN rfl rfl rfl rfl) hS ?_
                  simp only [Act.put, List.setIfInBounds_toArray, List.set_cons_zero, List.set_cons_succ]
                  refine take_want 11 (some 160) (.bool false) rfl rfl rfl (by kernel_rfl) (by kernel_rfl) (by kernel_rfl) (fun _ _ _ h => h) (fun wx hx => exec_move rfl rfl) hS ?_
                  simp only [Act.put, List.setIfInBounds_toArray, List.set_cons_zero, List.set_cons_succ]
                  refine take_want 12 (some 161) (.slice (some ⟨lg, 0, none⟩) n2 cap) rfl rfl rfl (by kernel_rfl) (by kernel_rfl) (by kernel_rfl) (fun _ _ _ h => h) (fun wx hx => exec_move rfl rfl) hS ?_
                  simp only [Act.put, List.setIfInBounds_toArray, List.set_cons_zero, List.set_cons_succ]
                  refine take_want 13 (some 162) (.int .i64 (t : Int)) rfl rfl rfl (by kernel_rfl) (by kernel_rfl) (by kernel_rfl) (fun _ _ _ h => h) (fun wx hx => exec_move rfl rfl) hS ?_
                  simp only [Act.put, List.setIfInBounds_toArray, List.set_cons_zero, List.set_cons_succ]
                  refine take_want 14 (some 163) (.pointer (some ⟨lg, t * 2, none⟩)) rfl rfl rfl (by kernel_rfl) (by kernel_rfl) (by kernel_rfl) (fun _ _ _ h => h) (fun wx hx => exec_index rfl (index_regs htn) rfl rfl) hS ?_
                  simp only [Act.put, List.setIfInBounds_toArray, List.set_cons_zero, List.set_cons_succ]
                  refine take_want 15 (some 164) (.pointer (some ⟨lg, t * 2 + 1, none⟩)) rfl rfl rfl (by kernel_rfl) (by kernel_rfl) (by kernel_rfl) (fun _ _ _ h => h) (fun wx hx => exec_field rfl (fldG1 _ _ wx) rfl) hS ?_
                  simp only [Act.put, List.setIfInBounds_toArray, List.set_cons_zero, List.set_cons_succ]
                  refine take_want 16 (some 165) (.slice r.ao r.n r.cap) rfl rfl rfl (by kernel_rfl) (by kernel_rfl) (by kernel_rfl) (fun _ _ _ h => h) (fun wx hx => exec_load rfl (load_sliceV (cell_bel hx r1)) rfl) hS ?_
                  simp only [Act.put, List.setIfInBounds_toArray, List.set_cons_zero, List.set_cons_succ]
                  refine take_want 17 (some 166) (.slice (some ⟨mg, 0, none⟩) n2 mcap) rfl rfl rfl (by kernel_rfl) (by kernel_rfl) (by kernel_rfl) (fun _ _ _ h => h) (fun wx hx => exec_move rfl rfl) hS ?_
                  simp only [Act.put, List.setIfInBounds_toArray, List.set_cons_zero, List.set_cons_succ]
                  refine take_want 18 (some 167) (.int .i64 (t : Int)) rfl rfl rfl (by kernel_rfl) (by kernel_rfl) (by kernel_rfl) (fun _ _ _ h => h) (fun wx hx => exec_move rfl rfl) hS ?_
                  simp only [Act.put, List.setIfInBounds_toArray, List.set_cons_zero, List.set_cons_succ]
                  refine take_want 19 (some 168) (.pointer (some ⟨mg, t * 2, none⟩)) rfl rfl rfl (by kernel_rfl) (by kernel_rfl) (by kernel_rfl) (fun _ _ _ h => h) (fun wx hx => exec_index rfl (index_regs htn) rfl rfl) hS ?_
                  simp only [Act.put, List.setIfInBounds_toArray, List.set_cons_zero, List.set_cons_succ]
                  refine take_want 20 (some 169) (.pointer (some ⟨mg, t * 2 + 1, none⟩)) rfl rfl rfl (by kernel_rfl) (by kernel_rfl) (by kernel_rfl) (fun _ _ _ h => h) (fun wx hx => exec_field rfl (fldG1 _ _ wx) rfl) hS ?_
                  simp only [Act.put, List.setIfInBounds_toArray, List.set_cons_zero, List.set_cons_succ]
                  refine take_want 21 (some 170) (.slice s.ao s.n s.cap) rfl rfl rfl (by kernel_rfl) (by kernel_rfl) (by kernel_rfl) (fun _ _ _ h => h) (fun wx hx => exec_load rfl (load_sliceV (cell_bel hx s1)) rfl) hS ?_
                  simp only [Act.put, List.setIfInBounds_toArray, List.set_cons_zero, List.set_cons_succ]
                  refine call_want 22 (some 171) rfl rfl rfl (by kernel_rfl) (exec_call2 rfl enterInts rfl rfl rfl) ((ints_any (HRI.out.below hS) (HSI.out.below hS)).mono ?_)
                  rintro e w9 ⟨rfl, hb9⟩
                  have hS9 := nextB hS hb9
                  rw [decide_eq_true rfl]
                  refine ⟨_, rfl, hS9, ?_⟩
                  clear hb9
                  simp only [Act.put, List.setIfInBounds_toArray, List.set_cons_zero, List.set_cons_succ]
                  refine take_want 23 (some 172) (.bool false) rfl rfl rfl (by kernel_rfl) (by kernel_rfl) (by kernel_rfl) (fun _ _ _ h => h) (fun wx hx => exec_not (b := true) rfl rfl) hS9 ?_
                  simp only [Act.put, List.setIfInBounds_toArray, List.set_cons_zero, List.set_cons_succ]
                  refine take_want 24 (some 173) (.bool false) rfl rfl rfl (by kernel_rfl) (by kernel_rfl) (by kernel_rfl) (fun _ _ _ h => h) (fun wx hx => exec_pickF rfl rfl rfl) hS9 ?_
                  simp only [Act.put, List.setIfInBounds_toArray, List.set_cons_zero, List.set_cons_succ]
                  refine wpAnyH_done (by kernel_rfl) ?_ _
                  have HB9 := hide (nextB HBT.out hS9)
                  clear hS hS9 r0 r1 s0 s1
                  go_wp2_with fail
                  go_roundg m5
                  case measure => omega
                  case rel => exact ⟨t + 1, by omega, by simp, HB9⟩
          | succ m =>
            have hlt : (j : Int) < (n2 : Int) := by omega
            have hb0 : (0 : Int) ≤ (j : Int) := by omega
            have hjn : j < n2 := by omega
            obtain ⟨r, he⟩ : ∃ e, L[j]? = some e := ⟨L[j]'(by rw [HN.out]; omega), by rw [List.getElem?_eq_getElem]⟩
            obtain rfl := H2.out (by rw [HN.out]; omega)
            obtain ⟨k0, k1, hi⟩ := H3.out j r he
            obtain ⟨hu, hrl, hq1, hdev, hrest⟩ := HI.out.next he
            have hq4 := (rl_le u).1
            have hqu := (rl_le u).2
            obtain ⟨q, hq⟩ : ∃ q, rl u = q := ⟨_, rfl⟩
            have HQ := hide hq
            rw [hq] at hrl hq1 hdev hq4 hqu
            have hrn : r.n = q := by
              obtain ⟨_, _, _, e, h⟩ := hi.form
              simp only [Value.slice.injEq] at e
              rw [e.2.1, h.out, hrl, List.length_take]; omega
            have HRU := hide hrl
            have HDEV := hide hdev
            have HQU := hide hqu
            rw [hrn] at k1 hi
            replace k0 := cell_bel HB.out k0
            replace k1 := cell_bel HB.out k1
            have HIr := hide (hi.below HB.out)
            have HE := hide he
            obtain ⟨D, hD⟩ : ∃ D, r.dev = D := ⟨_, rfl⟩
            rw [hD] at k0 HDEV
            obtain ⟨RA, hRA⟩ : ∃ x, r.ao = x := ⟨_, rfl⟩
            obtain ⟨RC, hRC⟩ : ∃ x, r.cap = x := ⟨_, rfl⟩
            rw [hRA, hRC] at k1 HIr
            have HDD2 := hide hD
            have hj63 : IntKind.i64.wrap ((j : Int) + 1) = (j : Int) + 1 := IntWalk.i64_in _ ⟨by omega, by omega⟩
            have hq1' : ¬ (q : Int) < 1 := by omega
            have hq4' : ¬ (4 : Int) < (q : Int) := by omega
            have HA1 := hide (bel_alloc wr (.cells #[.int .i64 D, .slice RA q RC] 36))
            have BX := hide (boxG wr D RA q RC)
            have HJ := hide hj
            have HK0 := hide (cell_bel HA1.out k0)
            have HNX : Hid (∀ r2, L[j + 1]? = some r2 → (wr.alloc (.cells #[.int .i64 D, .slice RA q RC] 36)).cell? ⟨g, (j + 1) * 2, none⟩ = some (.int .i64 r2.dev)) := hide (fun r2 h2 => cell_bel HA1.out (cell_bel HB.out (H3.out (j + 1) r2 h2).1))
            clear hi hu hrl hdev hrest hqu hrn he hD hRA hRC hq hj hq1
            go_wp2_with fail
            clear k0 k1
            obtain ⟨w5, hw5⟩ : ∃ x, wr.alloc (.cells #[.int .i64 D, .slice RA q RC] 36) = x := ⟨_, rfl⟩
            obtain ⟨B, hB⟩ : ∃ x, wr.heap.size = x := ⟨_, rfl⟩
            rw [hw5, hB] at BX
            rw [hw5] at HNX HA1
            rw [hw5, hB]
            have HB5 := hide (nextB HB.out HA1.out)
            have HI5 := hide (HIr.out.below HA1.out)
            clear hw5 hB HA1 HIr HK0
            obtain ⟨x0, x1⟩ := BX.out
            have HGO : Hid (∀ (K : Prop), K → K) := hide (fun _ h => h)
            clear BX HGO
            by_cases hj1 : j + 1 < n2
            · obtain ⟨r2, he2⟩ : ∃ e, L[j + 1]? = some e := ⟨L[j + 1]'(by rw [HN.out]; omega), by rw [List.getElem?_eq_getElem]⟩
              have kN := HNX.out r2 he2
              have cl : decide (((j + 1 : Nat) : Int) < (n2 : Int)) = true := by simp; omega
              by_cases hd2 : r2.dev = D
              · have cq : (q : Int) = 4 := by have := HI.out.full HE.out he2 (by rw [hd2, HDD2.out]); rw [HQ.out] at this; omega
                have ce : decide (r2.dev = D) = true := by simpa using hd2
                clear hd2 he2
                refine wp_region_held_drew (S := fun wx => Below w5.heap.size w5 wx) (by kernel_rfl) (below_drew0 w5) (fun hS => ?_)
                refine take_want 0 (some 52) (.int .i64 (j : Int)) rfl rfl rfl (by kernel_rfl) (by kernel_rfl) (by kernel_rfl) (fun _ _ _ h => h) (fun wx hx => exec_move rfl rfl) hS ?_
                simp only [Act.put, List.setIfInBounds_toArray, List.set_cons_zero, List.set_cons_succ]
                refine take_want 1 (some 53) (.int .i64 ((j + 1 : Nat) : Int)) rfl rfl rfl (by kernel_rfl) (by kernel_rfl) (by kernel_rfl) (fun _ _ _ h => h) (fun wx hx => exec_addN rfl rfl rfl (by omega) (by omega) (by omega)) hS ?_
                simp only [Act.put, List.setIfInBounds_toArray, List.set_cons_zero, List.set_cons_succ]
                refine take_want 2 (some 54) (.slice (some ⟨g, 0, none⟩) n2 cap) rfl rfl rfl (by kernel_rfl) (by kernel_rfl) (by kernel_rfl) (fun _ _ _ h => h) (fun wx hx => exec_move rfl rfl) hS ?_
                simp only [Act.put, List.setIfInBounds_toArray, List.set_cons_zero, List.set_cons_succ]
                refine take_want 3 (some 55) (.int .i64 (n2 : Int)) rfl rfl rfl (by kernel_rfl) (by kernel_rfl) (by kernel_rfl) (fun _ _ _ h => h) (fun wx hx => exec_len rfl (len_regs wx _ _ _) rfl) hS ?_
                simp only [Act.put, List.setIfInBounds_toArray, List.set_cons_zero, List.set_cons_succ]
                refine take_want 4 (some 56) (.bool true) rfl rfl rfl (by kernel_rfl) (by kernel_rfl) (by kernel_rfl) (fun _ _ _ h => h) (fun wx hx => exec_lss rfl rfl rfl cl) hS ?_
                simp only [Act.put, List.setIfInBounds_toArray, List.set_cons_zero, List.set_cons_succ]
                refine take_want 5 (some 57) (.bool true) rfl rfl rfl (by kernel_rfl) (by kernel_rfl) (by kernel_rfl) (fun _ _ _ h => h) (fun wx hx => exec_move rfl rfl) hS ?_
                simp only [Act.put, List.setIfInBounds_toArray, List.set_cons_zero, List.set_cons_succ]
                refine take_want 6 (some 58) (.slice (some ⟨g, 0, none⟩) n2 cap) rfl rfl rfl (by kernel_rfl) (by kernel_rfl) (by kernel_rfl) (fun _ _ _ h => h) (fun wx hx => exec_move rfl rfl) hS ?_
                simp only [Act.put, List.setIfInBounds_toArray, List.set_cons_zero, List.set_cons_succ]
                refine take_want 7 (some 59) (.int .i64 (j : Int)) rfl rfl rfl (by kernel_rfl) (by kernel_rfl) (by kernel_rfl) (fun _ _ _ h => h) (fun wx hx => exec_move rfl rfl) hS ?_
                simp only [Act.put, List.setIfInBounds_toArray, List.set_cons_zero, List.set_cons_succ]
                refine take_want 8 (some 60) (.int .i64 ((j + 1 : Nat) : Int)) rfl rfl rfl (by kernel_rfl) (by kernel_rfl) (by kernel_rfl) (fun _ _ _ h => h) (fun wx hx => exec_addN rfl rfl rfl (by omega) (by omega) (by omega)) hS ?_
                simp only [Act.put, List.setIfInBounds_toArray, List.set_cons_zero, List.set_cons_succ]
                refine take_want 9 (some 61) (.pointer (some ⟨g, (j + 1) * 2, none⟩)) rfl rfl rfl (by kernel_rfl) (by kernel_rfl) (by kernel_rfl) (fun _ _ _ h => h) (fun wx hx => exec_index rfl (index_regs hj1) rfl rfl) hS ?_
                simp only [Act.put, List.setIfInBounds_toArray, List.set_cons_zero, List.set_cons_succ]
                refine take_want 10 (some 62) (.pointer (some ⟨g, (j + 1) * 2, none⟩)) rfl rfl rfl (by kernel_rfl) (by kernel_rfl) (by kernel_rfl) (fun _ _ _ h => h) (fun wx hx => exec_field rfl (fldG0 _ _ wx) rfl) hS ?_
                simp only [Act.put, List.setIfInBounds_toArray, List.set_cons_zero, List.set_cons_succ]
                refine take_want 11 (some 63) (.int .i64 r2.dev) rfl rfl rfl (by kernel_rfl) (by kernel_rfl) (by kernel_rfl) (fun _ _ _ h => h) (fun wx hx => exec_load rfl (load_intV (cell_bel hx kN)) rfl) hS ?_
                simp only [Act.put, List.setIfInBounds_toArray, List.set_cons_zero, List.set_cons_succ]
                refine take_want 12 (some 64) (.pointer (some ⟨B, 0, none⟩)) rfl rfl rfl (by kernel_rfl) (by kernel_rfl) (by kernel_rfl) (fun _ _ _ h => h) (fun wx hx => exec_field rfl (fldG0 _ _ wx) rfl) hS ?_
                simp only [Act.put, List.setIfInBounds_toArray, List.set_cons_zero, List.set_cons_succ]
                refine take_want 13 (some 65) (.int .i64 D) rfl rfl rfl (by kernel_rfl) (by kernel_rfl) (by kernel_rfl) (fun _ _ _ h => h) (fun wx hx => exec_load rfl (load_intV (cell_bel hx x0)) rfl) hS ?_
                simp only [Act.put, List.setIfInBounds_toArray, List.set_cons_zero, List.set_cons_succ]
                refine take_want 14 (some 66) (.bool true) rfl rfl rfl (by kernel_rfl) (by kernel_rfl) (by kernel_rfl) (fun _ _ _ h => h) (fun wx hx => exec_eql rfl rfl rfl ce) hS ?_
                simp only [Act.put, List.setIfInBounds_toArray, List.set_cons_zero, List.set_cons_succ]
                refine take_want 15 (some 67) (.bool true) rfl rfl rfl (by kernel_rfl) (by kernel_rfl) (by kernel_rfl) (fun _ _ _ h => h) (fun wx hx => exec_pickT rfl rfl rfl) hS ?_
                simp only [Act.put, List.setIfInBounds_toArray, List.set_cons_zero, List.set_cons_succ]
                refine take_want 16 (some 68) (.bool true) rfl rfl rfl (by kernel_rfl) (by kernel_rfl) (by kernel_rfl) (fun _ _ _ h => h) (fun wx hx => exec_move rfl rfl) hS ?_
                simp only [Act.put, List.setIfInBounds_toArray, List.set_cons_zero, List.set_cons_succ]
                refine take_want 17 (some 69) (.pointer (some ⟨B, 0 + 1, none⟩)) rfl rfl rfl (by kernel_rfl) (by kernel_rfl) (by kernel_rfl) (fun _ _ _ h => h) (fun wx hx => exec_field rfl (fldG1 _ _ wx) rfl) hS ?_
                simp only [Act.put, List.setIfInBounds_toArray, List.set_cons_zero, List.set_cons_succ]
                refine take_want 18 (some 70) (.slice RA q RC) rfl rfl rfl (by kernel_rfl) (by kernel_rfl) (by kernel_rfl) (fun _ _ _ h => h) (fun wx hx => exec_load rfl (load_sliceV (cell_bel hx x1)) rfl) hS ?_
                simp only [Act.put, List.setIfInBounds_toArray, List.set_cons_zero, List.set_cons_succ]
                refine take_want 19 (some 71) (.int .i64 (q : Int)) rfl rfl rfl (by kernel_rfl) (by kernel_rfl) (by kernel_rfl) (fun _ _ _ h => h) (fun wx hx => exec_len rfl (len_ints wx _ _ _) rfl) hS ?_
                simp only [Act.put, List.setIfInBounds_toArray, List.set_cons_zero, List.set_cons_succ]
                refine take_want 20 (some 72) (.bool false) rfl rfl rfl (by kernel_rfl) (by kernel_rfl) (by kernel_rfl) (fun _ _ _ h => h) (fun wx hx => exec_neqN rfl rfl rfl cq) hS ?_
                simp only [Act.put, List.setIfInBounds_toArray, List.set_cons_zero, List.set_cons_succ]
                refine take_want 21 (some 73) (.bool false) rfl rfl rfl (by kernel_rfl) (by kernel_rfl) (by kernel_rfl) (fun _ _ _ h => h) (fun wx hx => exec_pickT rfl rfl rfl) hS ?_
                simp only [Act.put, List.setIfInBounds_toArray, List.set_cons_zero, List.set_cons_succ]
                refine wpAnyH_done (by kernel_rfl) ?_ _
                have HB6 := hide (nextB HB5.out hS)
                have HI6 := hide (HI5.out.below hS)
                have y0 := cell_bel hS x0
                have y1 := cell_bel hS x1
                obtain ⟨wz, hwz⟩ : ∃ x, w5.drew = x := ⟨_, rfl⟩
                rw [hwz] at HB6 HI6 y0 y1
                rw [hwz]
                clear hS hwz x0 x1 HB5 HI5 hq1' hq4' HNX kN cl ce cq
                go_wp2_with fail
                go_loopg [7, 8, 77] q (fun k la cn i wt => ∃ (t : Nat) (last2 : Int) (cnt2 : Nat), t + k = q ∧ la = .int .i64 last2 ∧ cn = .int .i64 (cnt2 : Int) ∧ i = .int .i64 (t : Int) ∧ Hid (InvN u n t last2 cnt2) ∧ wt = wz)
                case atStart => exact ⟨0, last, cnt, by omega, rfl, rfl, by simp, hide HI.out.into, rfl⟩
                case round =>
                  obtain ⟨t, last2, cnt2, ht, rfl, rfl, rfl, HIN, rfl⟩ := hrel
                  cases gk with
                  | zero =>
                    have hnl : ¬ (t : Int) < (q : Int) := by omega
                    have htq : Hid (t = q) := by show _ = _; omega
                    clear ht
                    go_wp2_with fail
                    go_roundg m
                    case measure => omega
                    case rel => exact ⟨j + 1, u.drop (rl u), last2, cnt2, by have := HJ.out; omega, rfl, rfl, by simp, hide (HI.out.out HE.out (by have := HIN.out; rw [htq.out, ← HQ.out] at this; exact this)), HB6⟩
                  | succ m5 =>
                    have hlt2 : (t : Int) < (q : Int) := by omega
                    have hbt : (0 : Int) ≤ (t : Int) := by omega
                    have htq : t < q := by omega
                    obtain ⟨p, hp⟩ : ∃ e, u[t]? = some e := ⟨u[t]'(by have := HQU.out; omega), by rw [List.getElem?_eq_getElem]⟩
                    have hpl : r.l[t]? = some p := by rw [HRU.out, List.getElem?_take_of_lt htq]; exact hp
                    have hst := HIN.out.step HI.out.up hp
                    have HST := hide hst.1
                    have hlast : ¬ p ≤ last2 := by have := hst.2; omega
                    have hpr := HI.out.rng p (List.mem_of_getElem? hp)
                    have hpd : p / 4096 = D := HDEV.out p (by rw [← HRU.out]; exact List.mem_of_getElem? hpl)
                    have e1 : p.tdiv 4096 = D := by rw [Int.tdiv_eq_ediv_of_nonneg (by omega)]; exact hpd
                    have e2 : IntKind.i64.wrap D = D := by rw [IntKind.wrap_i64]; omega
                    have e3 : (D != D) = false := by simp
                    have e4 : IntKind.i64.wrap ((cnt2 : Int) + 1) = (cnt2 : Int) + 1 := IntWalk.i64_in _ ⟨by omega, by have := hst.1.cnt; omega⟩
                    have e5 : IntKind.i64.wrap ((t : Int) + 1) = (t : Int) + 1 := IntWalk.i64_in _ ⟨by omega, by omega⟩
                    obtain ⟨rao, rcap, rg, roff, ev, r2, r3⟩ := HI6.out.at_
                    simp only [Value.slice.injEq] at ev
                    obtain ⟨rfl, -, rfl⟩ := ev
                    obtain rfl := r2 (by have := (List.getElem?_eq_some_iff.1 hpl).1; omega)
                    have z0 := r3 t p hpl
                    have HT := hide ht
                    clear hp hpl hst hpr hpd r2 r3 ht htq
                    go_wp2_with fail
                    go_roundg m5
                    case measure => omega
                    case rel => exact ⟨t + 1, p, cnt2 + 1, by have := HT.out; omega, rfl, by simp, by simp, HST, rfl⟩
              · have ce : decide (r2.dev = D) = false := by simpa using hd2
                clear hd2 he2
                refine wp_region_held_drew (S := fun wx => Below w5.heap.size w5 wx) (by kernel_rfl) (below_drew0 w5) (fun hS => ?_)
                refine take_want 0 (some 52) (.int .i64 (j : Int)) rfl rfl rfl (by kernel_rfl) (by kernel_rfl) (by kernel_rfl) (fun _ _ _ h => h) (fun wx hx => exec_move rfl rfl) hS ?_
                simp only [Act.put, List.setIfInBounds_toArray, List.set_cons_zero, List.set_cons_succ]
                refine take_want 1 (some 53) (.int .i64 ((j + 1 : Nat) : Int)) rfl rfl rfl (by kernel_rfl) (by kernel_rfl) (by kernel_rfl) (fun _ _ _ h => h) (fun wx hx => exec_addN rfl rfl rfl (by omega) (by omega) (by omega)) hS ?_
                simp only [Act.put, List.setIfInBounds_toArray, List.set_cons_zero, List.set_cons_succ]
                refine take_want 2 (some 54) (.slice (some ⟨g, 0, none⟩) n2 cap) rfl rfl rfl (by kernel_rfl) (by kernel_rfl) (by kernel_rfl) (fun _ _ _ h => h) (fun wx hx => exec_move rfl rfl) hS ?_
                simp only [Act.put, List.setIfInBounds_toArray, List.set_cons_zero, List.set_cons_succ]
                refine take_want 3 (some 55) (.int .i64 (n2 : Int)) rfl rfl rfl (by kernel_rfl) (by kernel_rfl) (by kernel_rfl) (fun _ _ _ h => h) (fun wx hx => exec_len rfl (len_regs wx _ _ _) rfl) hS ?_
                simp only [Act.put, List.setIfInBounds_toArray, List.set_cons_zero, List.set_cons_succ]
                refine take_want 4 (some 56) (.bool true) rfl rfl rfl (by kernel_rfl) (by kernel_rfl) (by kernel_rfl) (fun _ _ _ h => h) (fun wx hx => exec_lss rfl rfl rfl cl) hS ?_
                simp only [Act.put, List.setIfInBounds_toArray, List.set_cons_zero, List.set_cons_succ]
                refine take_want 5 (some 57) (.bool true) rfl rfl rfl (by kernel_rfl) (by kernel_rfl) (by kernel_rfl) (fun _ _ _ h => h) (fun wx hx => exec_move rfl rfl) hS ?_
                simp only [Act.put, List.setIfInBounds_toArray, List.set_cons_zero, List.set_cons_succ]
                refine take_want 6 (some 58) (.slice (some ⟨g, 0, none⟩) n2 cap) rfl rfl rfl (by kernel_rfl) (by kernel_rfl) (by kernel_rfl) (fun _ _ _ h => h) (fun wx hx => exec_move rfl rfl) hS ?_
                simp only [Act.put, List.setIfInBounds_toArray, List.set_cons_zero, List.set_cons_succ]
                refine take_want 7 (some 59) (.int .i64 (j : Int)) rfl rfl rfl (by kernel_rfl) (by kernel_rfl) (by kernel_rfl) (fun _ _ _ h => h) (fun wx hx => exec_move rfl rfl) hS ?_
                simp only [Act.put, List.setIfInBounds_toArray, List.set_cons_zero, List.set_cons_succ]
                refine take_want 8 (some 60) (.int .i64 ((j + 1 : Nat) : Int)) rfl rfl rfl (by kernel_rfl) (by kernel_rfl) (by kernel_rfl) (fun _ _ _ h => h) (fun wx hx => exec_addN rfl rfl rfl (by omega) (by omega) (by omega)) hS ?_
                simp only [Act.put, List.setIfInBounds_toArray, List.set_cons_zero, List.set_cons_succ]
                refine take_want 9 (some 61) (.pointer (some ⟨g, (j + 1) * 2, none⟩)) rfl rfl rfl (by kernel_rfl) (by kernel_rfl) (by kernel_rfl) (fun _ _ _ h => h) (fun wx hx => exec_index rfl (index_regs hj1) rfl rfl) hS ?_
                simp only [Act.put, List.setIfInBounds_toArray, List.set_cons_zero, List.set_cons_succ]
                refine take_want 10 (some 62) (.pointer (some ⟨g, (j + 1) * 2, none⟩)) rfl rfl rfl (by kernel_rfl) (by kernel_rfl) (by kernel_rfl) (fun _ _ _ h => h) (fun wx hx => exec_field rfl (fldG0 _ _ wx) rfl) hS ?_
                simp only [Act.put, List.setIfInBounds_toArray, List.set_cons_zero, List.set_cons_succ]
                refine take_want 11 (some 63) (.int .i64 r2.dev) rfl rfl rfl (by kernel_rfl) (by kernel_rfl) (by kernel_rfl) (fun _ _ _ h => h) (fun wx hx => exec_load rfl (load_intV (cell_bel hx kN)) rfl) hS ?_
                simp only [Act.put, List.setIfInBounds_toArray, List.set_cons_zero, List.set_cons_succ]
                refine take_want 12 (some 64) (.pointer (some ⟨B, 0, none⟩)) rfl rfl rfl (by kernel_rfl) (by kernel_rfl) (by kernel_rfl) (fun _ _ _ h => h) (fun wx hx => exec_field rfl (fldG0 _ _ wx) rfl) hS ?_
                simp only [Act.put, List.setIfInBounds_toArray, List.set_cons_zero, List.set_cons_succ]
                refine take_want 13 (some 65) (.int .i64 D) rfl rfl rfl (by kernel_rfl) (by kernel_rfl) (by kernel_rfl) (fun _ _ _ h => h) (fun wx hx => exec_load rfl (load_intV (cell_bel hx x0)) rfl) hS ?_
                simp only [Act.put, List.setIfInBounds_toArray, List.set_cons_zero, List.set_cons_succ]
                refine take_want 14 (some 66) (.bool false) rfl rfl rfl (by kernel_rfl) (by kernel_rfl) (by kernel_rfl) (fun _ _ _ h => h) (fun wx hx => exec_eql rfl rfl rfl ce) hS ?_
                simp only [Act.put, List.setIfInBounds_toArray, List.set_cons_zero, List.set_cons_succ]
                refine take_want 15 (some 67) (.bool false) rfl rfl rfl (by kernel_rfl) (by kernel_rfl) (by kernel_rfl) (fun _ _ _ h => h) (fun wx hx => exec_pickT rfl rfl rfl) hS ?_
                simp only [Act.put, List.setIfInBounds_toArray, List.set_cons_zero, List.set_cons_succ]
                refine take_want 16 (some 68) (.bool false) rfl rfl rfl (by kernel_rfl) (by kernel_rfl) (by kernel_rfl) (fun _ _ _ h => h) (fun wx hx => exec_move rfl rfl) hS ?_
                simp only [Act.put, List.setIfInBounds_toArray, List.set_cons_zero, List.set_cons_succ]
                refine skip_want 17 (some 69) rfl rfl rfl (by kernel_rfl) (by kernel_rfl) (by kernel_rfl) (fun _ _ _ h => h) hS ?_
                simp only [Act.put, List.setIfInBounds_toArray, List.set_cons_zero, List.set_cons_succ]
                refine skip_want 18 (some 70) rfl rfl rfl (by kernel_rfl) (by kernel_rfl) (by kernel_rfl) (fun _ _ _ h => h) hS ?_
                simp only [Act.put, List.setIfInBounds_toArray, List.set_cons_zero, List.set_cons_succ]
                refine skip_want 19 (some 71) rfl rfl rfl (by kernel_rfl) (by kernel_rfl) (by kernel_rfl) (fun _ _ _ h => h) hS ?_
                simp only [Act.put, List.setIfInBounds_toArray, List.set_cons_zero, List.set_cons_succ]
                refine skip_want 20 (some 72) rfl rfl rfl (by kernel_rfl) (by kernel_rfl) (by kernel_rfl) (fun _ _ _ h => h) hS ?_
                simp only [Act.put, List.setIfInBounds_toArray, List.set_cons_zero, List.set_cons_succ]
                refine take_want 21 (some 73) (.bool false) rfl rfl rfl (by kernel_rfl) (by kernel_rfl) (by kernel_rfl) (fun _ _ _ h => h) (fun wx hx => exec_pickF rfl rfl rfl) hS ?_
                simp only [Act.put, List.setIfInBounds_toArray, List.set_cons_zero, List.set_cons_succ]
                refine wpAnyH_done (by kernel_rfl) ?_ _
                have HB6 := hide (nextB HB5.out hS)
                have HI6 := hide (HI5.out.below hS)
                have y0 := cell_bel hS x0
                have y1 := cell_bel hS x1
                obtain ⟨wz, hwz⟩ : ∃ x, w5.drew = x := ⟨_, rfl⟩
                rw [hwz] at HB6 HI6 y0 y1
                rw [hwz]
                clear hS hwz x0 x1 HB5 HI5 hq1' hq4' HNX kN cl ce
                go_wp2_with fail
                go_loopg [7, 8, 77] q (fun k la cn i wt => ∃ (t : Nat) (last2 : Int) (cnt2 : Nat), t + k = q ∧ la = .int .i64 last2 ∧ cn = .int .i64 (cnt2 : Int) ∧ i = .int .i64 (t : Int) ∧ Hid (InvN u n t last2 cnt2) ∧ wt = wz)
                case atStart => exact ⟨0, last, cnt, by omega, rfl, rfl, by simp, hide HI.out.into, rfl⟩
                case round =>
                  obtain ⟨t, last2, cnt2, ht, rfl, rfl, rfl, HIN, rfl⟩ := hrel
                  cases gk with
                  | zero =>
                    have hnl : ¬ (t : Int) < (q : Int) := by omega
                    have htq : Hid (t = q) := by show _ = _; omega
                    clear ht
                    go_wp2_with fail
                    go_roundg m
                    case measure => omega
                    case rel => exact ⟨j + 1, u.drop (rl u), last2, cnt2, by have := HJ.out; omega, rfl, rfl, by simp, hide (HI.out.out HE.out (by have := HIN.out; rw [htq.out, ← HQ.out] at this; exact this)), HB6⟩
                  | succ m5 =>
                    have hlt2 : (t : Int) < (q : Int) := by omega
                    have hbt : (0 : Int) ≤ (t : Int) := by omega
                    have htq : t < q := by omega
                    obtain ⟨p, hp⟩ : ∃ e, u[t]? = some e := ⟨u[t]'(by have := HQU.out; omega), by rw [List.getElem?_eq_getElem]⟩
                    have hpl : r.l[t]? = some p := by rw [HRU.out, List.getElem?_take_of_lt htq]; exact hp
                    have hst := HIN.out.step HI.out.up hp
                    have HST := hide hst.1
                    have hlast : ¬ p ≤ last2 := by have := hst.2; omega
                    have hpr := HI.out.rng p (List.mem_of_getElem? hp)
                    have hpd : p / 4096 = D := HDEV.out p (by rw [← HRU.out]; exact List.mem_of_getElem? hpl)
                    have e1 : p.tdiv 4096 = D := by rw [Int.tdiv_eq_ediv_of_nonneg (by omega)]; exact hpd
                    have e2 : IntKind.i64.wrap D = D := by rw [IntKind.wrap_i64]; omega
                    have e3 : (D != D) = false := by simp
                    have e4 : IntKind.i64.wrap ((cnt2 : Int) + 1) = (cnt2 : Int) + 1 := IntWalk.i64_in _ ⟨by omega, by have := hst.1.cnt; omega⟩
                    have e5 : IntKind.i64.wrap ((t : Int) + 1) = (t : Int) + 1 := IntWalk.i64_in _ ⟨by omega, by omega⟩
                    obtain ⟨rao, rcap, rg, roff, ev, r2, r3⟩ := HI6.out.at_
                    simp only [Value.slice.injEq] at ev
                    obtain ⟨rfl, -, rfl⟩ := ev
                    obtain rfl := r2 (by have := (List.getElem?_eq_some_iff.1 hpl).1; omega)
                    have z0 := r3 t p hpl
                    have HT := hide ht
                    clear hp hpl hst hpr hpd r2 r3 ht htq
                    go_wp2_with fail
                    go_roundg m5
                    case measure => omega
                    case rel => exact ⟨t + 1, p, cnt2 + 1, by have := HT.out; omega, rfl, by simp, by simp, HST, rfl⟩
            · have cl : decide (((j + 1 : Nat) : Int) < (n2 : Int)) = false := by simp; omega
              refine wp_region_held_drew (S := fun wx => Below w5.heap.size w5 wx) (by kernel_rfl) (below_drew0 w5) (fun hS => ?_)
              refine take_want 0 (some 52) (.int .i64 (j : Int)) rfl rfl rfl (by kernel_rfl) (by kernel_rfl) (by kernel_rfl) (fun _ _ _ h => h) (fun wx hx => exec_move rfl rfl) hS ?_
              simp only [Act.put, List.setIfInBounds_toArray, List.set_cons_zero, List.set_cons_succ]
              refine take_want 1 (some 53) (.int .i64 ((j + 1 : Nat) : Int)) rfl rfl rfl (by kernel_rfl) (by kernel_rfl) (by kernel_rfl) (fun _ _ _ h => h) (fun wx hx => exec_addN rfl rfl rfl (by omega) (by omega) (by omega)) hS ?_
              simp only [Act.put, List.setIfInBounds_toArray, List.set_cons_zero, List.set_cons_succ]
              refine take_want 2 (some 54) (.slice (some ⟨g, 0, none⟩) n2 cap) rfl rfl rfl (by kernel_rfl) (by kernel_rfl) (by kernel_rfl) (fun _ _ _ h => h) (fun wx hx => exec_move rfl rfl) hS ?_
              simp only [Act.put, List.setIfInBounds_toArray, List.set_cons_zero, List.set_cons_succ]
              refine take_want 3 (some 55) (.int .i64 (n2 : Int)) rfl rfl rfl (by kernel_rfl) (by kernel_rfl) (by kernel_rfl) (fun _ _ _ h => h) (fun wx hx => exec_len rfl (len_regs wx _ _ _) rfl) hS ?_
              simp only [Act.put, List.setIfInBounds_toArray, List.set_cons_zero, List.set_cons_succ]
              refine take_want 4 (some 56) (.bool false) rfl rfl rfl (by kernel_rfl) (by kernel_rfl) (by kernel_rfl) (fun _ _ _ h => h) (fun wx hx => exec_lss rfl rfl rfl cl) hS ?_
              simp only [Act.put, List.setIfInBounds_toArray, List.set_cons_zero, List.set_cons_succ]
              refine take_want 5 (some 57) (.bool false) rfl rfl rfl (by kernel_rfl) (by kernel_rfl) (by kernel_rfl) (fun _ _ _ h => h) (fun wx hx => exec_move rfl rfl) hS ?_
              simp only [Act.put, List.setIfInBounds_toArray, List.set_cons_zero, List.set_cons_succ]
              refine skip_want 6 (some 58) rfl rfl rfl (by kernel_rfl) (by kernel_rfl) (by kernel_rfl) (fun _ _ _ h => h) hS ?_
              simp only [Act.put, List.setIfInBounds_toArray, List.set_cons_zero, List.set_cons_succ]
              refine skip_want 7 (some 59) rfl rfl rfl (by kernel_rfl) (by kernel_rfl) (by kernel_rfl) (fun _ _ _ h => h) hS ?_
              simp only [Act.put, List.setIfInBounds_toArray, List.set_cons_zero, List.set_cons_succ]
              refine skip_want 8 (some 60) rfl rfl rfl (by kernel_rfl) (by kernel_rfl) (by kernel_rfl) (fun _ _ _ h => h) hS ?_
              simp only [Act.put, List.setIfInBounds_toArray, List.set_cons_zero, List.set_cons_succ]
              refine skip_want 9 (some 61) rfl rfl rfl (by kernel_rfl) (by kernel_rfl) (by kernel_rfl) (fun _ _ _ h => h) hS ?_
              simp only [Act.put, List.setIfInBounds_toArray, List.set_cons_zero, List.set_cons_succ]
              refine skip_want 10 (some 62) rfl rfl rfl (by kernel_rfl) (by kernel_rfl) (by kernel_rfl) (fun _ _ _ h => h) hS ?_
              simp only [Act.put, List.setIfInBounds_toArray, List.set_cons_zero, List.set_cons_succ]
              refine skip_want 11 (some 63) rfl rfl rfl (by kernel_rfl) (by kernel_rfl) (by kernel_rfl) (fun _ _ _ h => h) hS ?_
              simp only [Act.put, List.setIfInBounds_toArray, List.set_cons_zero, List.set_cons_succ]
              refine skip_want 12 (some 64) rfl rfl rfl (by kernel_rfl) (by kernel_rfl) (by kernel_rfl) (fun _ _ _ h => h) hS ?_
              simp only [Act.put, List.setIfInBounds_toArray, List.set_cons_zero, List.set_cons_succ]
              refine skip_want 13 (some 65) rfl rfl rfl (by kernel_rfl) (by kernel_rfl) (by kernel_rfl) (fun _ _ _ h => h) hS ?_
              simp only [Act.put, List.setIfInBounds_toArray, List.set_cons_zero, List.set_cons_succ]
              refine skip_want 14 (some 66) rfl rfl rfl (by kernel_rfl) (by kernel_rfl) (by kernel_rfl) (fun _ _ _ h => h) hS ?_
              simp only [Act.put, List.setIfInBounds_toArray, List.set_cons_zero, List.set_cons_succ]
              refine take_want 15 (some 67) (.bool false) rfl rfl rfl (by kernel_rfl) (by kernel_rfl) (by kernel_rfl) (fun _ _ _ h => h) (fun wx hx => exec_pickF rfl rfl rfl) hS ?_
              simp only [Act.put, List.setIfInBounds_toArray, List.set_cons_zero, List.set_cons_succ]
              refine take_want 16 (some 68) (.bool false) rfl rfl rfl (by kernel_rfl) (by kernel_rfl) (by kernel_rfl) (fun _ _ _ h => h) (fun wx hx => exec_move rfl rfl) hS ?_
              simp only [Act.put, List.setIfInBounds_toArray, List.set_cons_zero, List.set_cons_succ]
              refine skip_want 17 (some 69) rfl rfl rfl (by kernel_rfl) (by kernel_rfl) (by kernel_rfl) (fun _ _ _ h => h) hS ?_
              simp only [Act.put, List.setIfInBounds_toArray, List.set_cons_zero, List.set_cons_succ]
              refine skip_want 18 (some 70) rfl rfl rfl (by kernel_rfl) (by kernel_rfl) (by kernel_rfl) (fun _ _ _ h => h) hS ?_
              simp only [Act.put, List.setIfInBounds_toArray, List.set_cons_zero, List.set_cons_succ]
              refine skip_want 19 (some 71) rfl rfl rfl (by kernel_rfl) (by kernel_rfl) (by kernel_rfl) (fun _ _ _ h => h) hS ?_
              simp only [Act.put, List.setIfInBounds_toArray, List.set_cons_zero, List.set_cons_succ]
              refine skip_want 20 (some 72) rfl rfl rfl (by kernel_rfl) (by kernel_rfl) (by kernel_rfl) (fun _ _ _ h => h) hS ?_
              simp only [Act.put, List.setIfInBounds_toArray, List.set_cons_zero, List.set_cons_succ]
              refine take_want 21 (some 73) (.bool false) rfl rfl rfl (by kernel_rfl) (by kernel_rfl) (by kernel_rfl) (fun _ _ _ h => h) (fun wx hx => exec_pickF rfl rfl rfl) hS ?_
              simp only [Act.put, List.setIfInBounds_toArray, List.set_cons_zero, List.set_cons_succ]
              refine wpAnyH_done (by kernel_rfl) ?_ _
              have HB6 := hide (nextB HB5.out hS)
              have HI6 := hide (HI5.out.below hS)
              have y0 := cell_bel hS x0
              have y1 := cell_bel hS x1
              obtain ⟨wz, hwz⟩ : ∃ x, w5.drew = x := ⟨_, rfl⟩
              rw [hwz] at HB6 HI6 y0 y1
              rw [hwz]
              clear hS hwz x0 x1 HB5 HI5 hq1' hq4' HNX cl
              go_wp2_with fail
              go_loopg [7, 8, 77] q (fun k la cn i wt => ∃ (t : Nat) (last2 : Int) (cnt2 : Nat), t + k = q ∧ la = .int .i64 last2 ∧ cn = .int .i64 (cnt2 : Int) ∧ i = .int .i64 (t : Int) ∧ Hid (InvN u n t last2 cnt2) ∧ wt = wz)
              case atStart => exact ⟨0, last, cnt, by omega, rfl, rfl, by simp, hide HI.out.into, rfl⟩
              case round =>
                obtain ⟨t, last2, cnt2, ht, rfl, rfl, rfl, HIN, rfl⟩ := hrel
                cases gk with
                | zero =>
                  have hnl : ¬ (t : Int) < (q : Int) := by omega
                  have htq : Hid (t = q) := by show _ = _; omega
                  clear ht
                  go_wp2_with fail
                  go_roundg m
                  case measure => omega
                  case rel => exact ⟨j + 1, u.drop (rl u), last2, cnt2, by have := HJ.out; omega, rfl, rfl, by simp, hide (HI.out.out HE.out (by have := HIN.out; rw [htq.out, ← HQ.out] at this; exact this)), HB6⟩
                | succ m5 =>
                  have hlt2 : (t : Int) < (q : Int) := by omega
                  have hbt : (0 : Int) ≤ (t : Int) := by omega
                  have htq : t < q := by omega
                  obtain ⟨p, hp⟩ : ∃ e, u[t]? = some e := ⟨u[t]'(by have := HQU.out; omega), by rw [List.getElem?_eq_getElem]⟩
                  have hpl : r.l[t]? = some p := by rw [HRU.out, List.getElem?_take_of_lt htq]; exact hp
                  have hst := HIN.out.step HI.out.up hp
                  have HST := hide hst.1
                  have hlast : ¬ p ≤ last2 := by have := hst.2; omega
                  have hpr := HI.out.rng p (List.mem_of_getElem? hp)
                  have hpd : p / 4096 = D := HDEV.out p (by rw [← HRU.out]; exact List.mem_of_getElem? hpl)
                  have e1 : p.tdiv 4096 = D := by rw [Int.tdiv_eq_ediv_of_nonneg (by omega)]; exact hpd
                  have e2 : IntKind.i64.wrap D = D := by rw [IntKind.wrap_i64]; omega
                  have e3 : (D != D) = false := by simp
                  have e4 : IntKind.i64.wrap ((cnt2 : Int) + 1) = (cnt2 : Int) + 1 := IntWalk.i64_in _ ⟨by omega, by have := hst.1.cnt; omega⟩
                  have e5 : IntKind.i64.wrap ((t : Int) + 1) = (t : Int) + 1 := IntWalk.i64_in _ ⟨by omega, by omega⟩
                  obtain ⟨rao, rcap, rg, roff, ev, r2, r3⟩ := HI6.out.at_
                  simp only [Value.slice.injEq] at ev
                  obtain ⟨rfl, -, rfl⟩ := ev
                  obtain rfl := r2 (by have := (List.getElem?_eq_some_iff.1 hpl).1; omega)
                  have z0 := r3 t p hpl
                  have HT := hide ht
                  clear hp hpl hst hpr hpd r2 r3 ht htq
                  go_wp2_with fail
                  go_roundg m5
                  case measure => omega
                  case rel => exact ⟨t + 1, p, cnt2 + 1, by have := HT.out; omega, rfl, by simp, by simp, HST, rfl⟩
      · exact absurd HRT.out hno
end Go.Proofs.Ytnkcebngfnailaa
