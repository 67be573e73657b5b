/- BankCounts walked. -/
import Derived.Test.YtliboiajhhnajaaCt
namespace Go.Proofs.Ytliboiajhhnajaa
open Go.RowKit Go.Extern

set_option maxRecDepth 100000 in
set_option maxHeartbeats 4000000 in
theorem countsL_any (w : World) (v : Value) (l : List OpR) (nn : Int) (hv : Script w v l) (hni : I64 nn) : Calls Try.prog 5 #[v, .int .i64 nn] w fun e w' => e = .returned (.bool true) ∧ Below w.heap.size w w' := by
  obtain ⟨ao, cap, gl, ol, rfl, h2, h3⟩ := hv
  have H2 := hide h2
  have H3 := hide h3
  clear h2 h3
  go_enter Try.func5, Try.ntmps5
  go_wp2_with fail
  refine (bnew_any w).mono ?_
  rintro e w1 ⟨a, rfl, hbka, hb1⟩
  have h1a := OneAt.made hbka (Below.refl _ _) hb1
  clear hbka
  go_wp2_with fail
  refine (bnew_any w1).mono ?_
  rintro e w2 ⟨b, rfl, hbkb, hb2⟩
  have h1b := OneAt.made hbkb (w0 := w) hb1 hb2
  have HT0 : Hid (Two w w2 a b (CtQ 0 0)) := ⟨_, _, [], [], ctA 0, ctA 0, ⟨h1a.below hb2, h1b, fun k h1 h2 => by have := h1.2; have := h2.1; omega⟩, FourN.nil, FourN.nil, WlB.nil _, WlB.nil _, rfl, rfl⟩
  clear hbkb h1a h1b hb1 hb2
  have HB2 := hide HT0.out.bel
  by_cases hbig : (100 : Int) < (l.length : Int) ∨ nn < 0 ∨ (200 : Int) < nn
  · have HA := hide (awake_any w2)
    have hdd : decide ((100 : Int) < (l.length : Int)) = true ∨ (decide ((100 : Int) < (l.length : Int)) = false ∧ decide (nn < 0) = true) ∨ (decide ((100 : Int) < (l.length : Int)) = false ∧ decide (nn < 0) = false ∧ decide ((200 : Int) < nn) = true) := by
      by_cases h0 : (100 : Int) < (l.length : Int)
      · exact .inl (by simpa using h0)
      · by_cases h1 : nn < 0
        · exact .inr (.inl ⟨by simpa using h0, by simpa using h1⟩)
        · exact .inr (.inr ⟨by simpa using h0, by simpa using h1, by simp; omega⟩)
    clear hbig hni
    rcases hdd with hd1 | ⟨hd1, hd2⟩ | ⟨hd1, hd2, hd3⟩
    · go_wp2_with (go_at_call 7; refine HA.out.mono ?_; rintro e w' ⟨rfl, hb⟩; have HBB := hide (HB2.out.trans (hb.mono HB2.out.size)); clear hb)
      go_ret
      exact ⟨rfl, HBB.out⟩
    · go_wp2_with (go_at_call 7; refine HA.out.mono ?_; rintro e w' ⟨rfl, hb⟩; have HBB := hide (HB2.out.trans (hb.mono HB2.out.size)); clear hb)
      go_ret
      exact ⟨rfl, HBB.out⟩
    · go_wp2_with (go_at_call 7; refine HA.out.mono ?_; rintro e w' ⟨rfl, hb⟩; have HBB := hide (HB2.out.trans (hb.mono HB2.out.size)); clear hb)
      go_ret
      exact ⟨rfl, HBB.out⟩
  · have hd1 : decide ((100 : Int) < (l.length : Int)) = false := by simp; omega
    have hd2 : decide (nn < 0) = false := by simp; omega
    have hd3 : decide ((200 : Int) < nn) = false := by simp; omega
    obtain ⟨n, rfl⟩ : ∃ n : Nat, nn = (n : Int) := ⟨nn.toNat, by omega⟩
    have HL : Hid (l.length ≤ 100) := by show _ ≤ _; omega
    have HN200 : Hid (n ≤ 200) := by show _ ≤ _; omega
    clear hbig hni HB2
    go_wp2_with fail
    go_loopg [39] 3 (fun gk i wr => ∃ j, j + gk = 3 ∧ i = .int .i64 (j : Int) ∧ Two w wr a b (CtQ j j))
    case atStart => exact ⟨0, by omega, rfl, HT0.out⟩
    case round =>
      clear HT0
      obtain ⟨j, hj, rfl, htw⟩ := hrel
      cases gk with
      | succ m =>
        obtain ⟨Fa, Fb, DA, DB, qa, qb, hat, hfa, hfb, hwa, hwb, rfl, rfl⟩ := htw
        have hlt : (j : Int) < 3 := by omega
        have hjj : (j : Int) + 1 < 5 := by omega
        have HAT := hide hat
        have HP := hide (And.intro hfa (And.intro hfb (And.intro hwa hwb)))
        have HCA := hide (badd_any hat.x.k 4)
        have HDA0 : Hid (addC DA (ctA 0) 4 = 0) := addC_four _ _ rfl (by rw [hfa.1]; omega)
        have HDB0 : Hid (addC DB (ctA 0) 4 = 0) := addC_four _ _ rfl (by rw [hfb.1]; omega)
        clear hat hfa hfb hwa hwb
        go_wp2_with fail
        refine HCA.out.mono ?_
        rintro e w3 ⟨ht3, he⟩
        rcases he with ⟨hc, -⟩ | ⟨-, rfl, p, hbk3⟩
        · exact absurd HDA0.out hc
        have h3 := HAT.out.turnA hbk3 ht3
        have H3T := hide h3
        have HCB := hide (badd_any h3.y.k 4)
        clear h3 hbk3 ht3 HCA
        go_wp2_with fail
        refine HCB.out.mono ?_
        rintro e w4 ⟨ht4, he⟩
        rcases he with ⟨hc, -⟩ | ⟨-, rfl, p2, hbk4⟩
        · exact absurd HDB0.out hc
        have HEND : Hid (Two w w4 a b (CtQ (j + 1) (j + 1))) := ⟨_, _, _, _, _, _, H3T.out.turnB hbk4 ht4, HP.out.1.add p, HP.out.2.1.add p2, HP.out.2.2.1.add _ _, HP.out.2.2.2.add _ _, rfl, rfl⟩
        clear hbk4 ht4 HCB H3T HAT HP
        go_wp2
        go_roundg m
        case measure => omega
        case rel => exact ⟨j + 1, by omega, by go_num, HEND.out⟩
      | zero =>
        obtain rfl : j = 3 := by omega
        have hend : ¬ ((3 : Nat) : Int) < 3 := by omega
        obtain ⟨Fa, Fb, DA, DB, qa, qb, hat, hfa, hfb, hwa, hwb, rfl, rfl⟩ := htw
        have HAT := hide hat
        have HP := hide (And.intro hfa (And.intro hfb (And.intro hwa hwb)))
        have HARM := hide (arm_any hat.y.k (n : Int))
        clear hat hfa hfb hwa hwb hj hend
        go_wp2_with fail
        refine HARM.out.mono ?_
        rintro e w5 ⟨rfl, hbk5, ht5⟩
        have HT5 : Hid (Two w w5 a b (CtP n 3 0 0 0 0)) := ⟨_, _, _, _, _, _, HAT.out.turnB (hbk5.mono (fun _ hk => .inl hk)) ht5, HP.out.1, HP.out.2.1, HP.out.2.2.1, HP.out.2.2.2, rfl, by unfold ctB; rw [if_pos (Nat.zero_le _)]; simp [ctA], Nat.le_refl _, Nat.le_refl _⟩
        clear hbk5 ht5 HARM HAT HP
        go_wp2_with fail
        go_loopg [51] l.length (fun gk i wr => ∃ j N, j + gk = l.length ∧ i = .int .i64 (j : Int) ∧ Two w wr a b (CtP n 3 j j N N))
        case atStart => exact ⟨0, 0, by omega, rfl, HT5.out⟩
        case round =>
          clear HT5
          obtain ⟨j, N, hj, rfl, htw⟩ := hrel
          have HTW := hide htw
          cases gk with
          | succ m =>
            have hjl : j < l.length := by omega
            have hlt : (j : Int) < (l.length : Int) := by omega
            have hb0 : (0 : Int) ≤ (j : Int) := by omega
            obtain ⟨o, ho⟩ : ∃ o, l[j]? = some o := ⟨l[j], by simp [hjl]⟩
            obtain rfl := H2.out (by omega)
            have hop := (H3.out j o ho).below htw.bel
            obtain ⟨kind, dev, sec, on, dv, d, opv, ops⟩ := o
            have q0 : wr.cell? ⟨gl, ol + j * 6, none⟩ = some (.int .i64 kind) := hop.c0
            have q1 : wr.cell? ⟨gl, ol + j * 6 + 1, none⟩ = some (.int .i64 dev) := hop.c1
            have q2 : wr.cell? ⟨gl, ol + j * 6 + 2, none⟩ = some (.int .i64 sec) := hop.c2
            have q3 : wr.cell? ⟨gl, ol + j * 6 + 3, none⟩ = some (.int .i64 on) := hop.c3
            have q4 : wr.cell? ⟨gl, ol + j * 6 + 4, none⟩ = some dv := hop.c4
            have q5 : wr.cell? ⟨gl, ol + j * 6 + 5, none⟩ = some opv := hop.c5
            have HDW : Hid (Bytes w dv d) := (H3.out j _ ho).hd
            have HII : Hid (I64 dev) := hop.hi
            have hgl := cell_lt q0
            have HJ : Hid ((j : Int) + 1 < 102) := by have := HL.out; show _ < _; omega
            have hjj := HJ.out
            obtain ⟨aod, capd, gd, offd, hdv, -⟩ := hop.hd
            obtain ⟨aop, capp, gp, offp, hpv, -⟩ := hop.hp
            have hdv' : dv = .slice aod d.length capd := hdv
            have hpv' : opv = .slice aop ops.length capp := hpv
            clear hdv hpv
            subst hdv' hpv'
            have HAL : Hid (∀ o, Below wr.heap.size wr (wr.alloc o)) := fun o => (Below.refl _ _).alloc (Nat.le_refl _) o
            clear hop ho htw
            by_cases hbg : (1000 : Int) < (d.length : Int) ∨ (50 : Int) < (ops.length : Int)
            · have HBO : Hid (Below w.heap.size w (wr.alloc (.cells #[Value.int .i64 kind, Value.int .i64 dev, Value.int .i64 sec, Value.int .i64 on, Value.slice aod d.length capd, Value.slice aop ops.length capp] 36))) := HTW.out.bel.trans ((HAL.out _).mono HTW.out.bel.size)
              have HA := hide (awake_any (wr.alloc (.cells #[Value.int .i64 kind, Value.int .i64 dev, Value.int .i64 sec, Value.int .i64 on, Value.slice aod d.length capd, Value.slice aop ops.length capp] 36)))
              have hdd : decide ((1000 : Int) < (d.length : Int)) = true ∨ (decide ((1000 : Int) < (d.length : Int)) = false ∧ decide ((50 : Int) < (ops.length : Int)) = true) := by
                by_cases h0 : (1000 : Int) < (d.length : Int)
                · exact .inl (by simpa using h0)
                · exact .inr ⟨by simpa using h0, by simp; omega⟩
              clear hbg
              rcases hdd with e1 | ⟨e1, e2⟩
              · go_wp2_with (go_at_call 7; refine HA.out.mono ?_; rintro e w' ⟨rfl, hb⟩; have HBB := hide (HBO.out.trans (hb.mono HBO.out.size)); clear hb)
                go_ret
                exact ⟨rfl, HBB.out⟩
              · go_wp2_with (go_at_call 7; refine HA.out.mono ?_; rintro e w' ⟨rfl, hb⟩; have HBB := hide (HBO.out.trans (hb.mono HBO.out.size)); clear hb)
                go_ret
                exact ⟨rfl, HBB.out⟩
            · have e1 : decide ((1000 : Int) < (d.length : Int)) = false := by simp; omega
              have e2 : decide ((50 : Int) < (ops.length : Int)) = false := by simp; omega
              have HDL : Hid (d.length ≤ 1000) := by show _ ≤ _; omega
              clear hbg
              by_cases hk5 : kind = 5
              · have kb5 : (kind == 5) = true := by simp [hk5]
                clear hk5
                go_wp2_with fail
                obtain ⟨Fa, Fb, DA, DB, qa, qb, hat, hfa, hfb, hwa, hwb, rfl, rfl, hna, hnb⟩ := HTW.out
                generalize hoc : #[Value.int .i64 kind, Value.int .i64 dev, Value.int .i64 sec, Value.int .i64 on, Value.slice aod d.length capd, Value.slice aop ops.length capp] = oc
                have HOC : Hid (∀ wx : World, wx.heap[wr.heap.size]? = some (.cells oc 36 (0, 0)) → wx.cell? ⟨wr.heap.size, 1, none⟩ = some (.int .i64 dev) ∧ wx.cell? ⟨wr.heap.size, 2, none⟩ = some (.int .i64 sec) ∧ wx.cell? ⟨wr.heap.size, 3, none⟩ = some (.int .i64 on) ∧ wx.cell? ⟨wr.heap.size, 4, none⟩ = some (.slice aod d.length capd) ∧ wx.cell? ⟨wr.heap.size, 5, none⟩ = some (.slice aop ops.length capp)) := fun wx hx => opC_cells (kind := kind) (by rw [hx, ← hoc]; rfl)
                obtain ⟨wo, hwo⟩ : ∃ wo, wo = wr.alloc (.cells oc 36) := ⟨_, rfl⟩
                have HWO : Hid (Below wr.heap.size wr wo) := by rw [hwo]; exact HAL.out _
                have HOBA : Hid (wo.heap[wr.heap.size]? = some (.cells oc 36 (0, 0))) := by rw [hwo]; exact heap_alloc_new wr _
                rw [← hwo]
                have HSZ : Hid (wo.heap.size = wr.heap.size + 1) := by rw [hwo]; show _ = _; simp
                have OBXA : Hid (¬ Fa wr.heap.size) := fun hx => by have := (hat.x.f _ hx).2; omega
                have OBXB : Hid (¬ Fb wr.heap.size) := fun hx => by have := (hat.y.f _ hx).2; omega
                have TWA := hide (hat.below HWO.out)
                have WA := hide hwa
                have WB := hide hwb
                have HP := hide (And.intro hfa (And.intro hfb (And.intro hna hnb)))
                have hN100 : N ≤ 100 := by have := HL.out; omega
                have hj100 : j ≤ 100 := by have := HL.out; omega
                obtain ⟨OB, hOB⟩ : ∃ OB, OB = wr.heap.size := ⟨_, rfl⟩
                rw [← hOB] at HOC HOBA OBXA OBXB
                rw [← hOB]
                clear hoc hwo hat hwa hwb hfa hfb hna hnb
                have hdrA : Below wo.heap.size wo wo.drew := (Below.refl _ _).drew
                have hobA : wo.drew.heap[OB]? = some (.cells oc 36 (0, 0)) := HOBA.out
                refine wp_region_held_drew (S := fun wx => wx.heap[OB]? = some (.cells oc 36 (0, 0))) (by kernel_rfl) hobA (fun hS => ?_)
                refine take_run 0 (some 70) (.pointer (some ⟨a, 0, none⟩)) rfl rfl rfl (by kernel_rfl) (by kernel_rfl) (by kernel_rfl) (fun _ _ _ h => h) (fun wx hx => exec_move rfl rfl) hS ?_
                simp only [Act.put, List.setIfInBounds_toArray, List.set_cons_zero, List.set_cons_succ]
                refine take_run 1 (some 71) (.pointer (some ⟨OB, 1, none⟩)) rfl rfl rfl (by kernel_rfl) (by kernel_rfl) (by kernel_rfl) (fun _ _ _ h => h) (fun wx hx => exec_field rfl (opField1 _ wx) rfl) hS ?_
                simp only [Act.put, List.setIfInBounds_toArray, List.set_cons_zero, List.set_cons_succ]
                refine take_run 2 (some 72) (.int .i64 dev) rfl rfl rfl (by kernel_rfl) (by kernel_rfl) (by kernel_rfl) (fun _ _ _ h => h) (fun wx hx => exec_load rfl (load_int (HOC.out wx hx).1) rfl) hS ?_
                simp only [Act.put, List.setIfInBounds_toArray, List.set_cons_zero, List.set_cons_succ]
                refine take_run 3 (some 73) (.pointer (some ⟨OB, 2, none⟩)) rfl rfl rfl (by kernel_rfl) (by kernel_rfl) (by kernel_rfl) (fun _ _ _ h => h) (fun wx hx => exec_field rfl (opField2 _ wx) rfl) hS ?_
                simp only [Act.put, List.setIfInBounds_toArray, List.set_cons_zero, List.set_cons_succ]
                refine take_run 4 (some 74) (.int .i64 sec) rfl rfl rfl (by kernel_rfl) (by kernel_rfl) (by kernel_rfl) (fun _ _ _ h => h) (fun wx hx => exec_load rfl (load_int (HOC.out wx hx).2.1) rfl) hS ?_
                simp only [Act.put, List.setIfInBounds_toArray, List.set_cons_zero, List.set_cons_succ]
                refine take_run 5 (some 75) (.pointer (some ⟨OB, 4, none⟩)) rfl rfl rfl (by kernel_rfl) (by kernel_rfl) (by kernel_rfl) (fun _ _ _ h => h) (fun wx hx => exec_field rfl (opField4 _ wx) rfl) hS ?_
                simp only [Act.put, List.setIfInBounds_toArray, List.set_cons_zero, List.set_cons_succ]
                refine take_run 6 (some 76) (.slice aod d.length capd) rfl rfl rfl (by kernel_rfl) (by kernel_rfl) (by kernel_rfl) (fun _ _ _ h => h) (fun wx hx => exec_load rfl (load_bytes (HOC.out wx hx).2.2.2.1) rfl) hS ?_
                simp only [Act.put, List.setIfInBounds_toArray, List.set_cons_zero, List.set_cons_succ]
                have HCPA := hide (copy_any d (.slice aod d.length capd) wo.drew (HDW.out.below (TWA.out.x.bel.trans (hdrA.mono TWA.out.x.bel.size))))
                refine only_call 7 (some 77) rfl rfl rfl (by kernel_rfl) (exec_call1 rfl enterCopy rfl rfl) (HCPA.out.mono ?_)
                rintro e w2 ⟨uA, rfl, huA, hbcA⟩
                have hob2A : w2.heap[OB]? = some (.cells oc 36 (0, 0)) := by rw [hbcA.block _ (heap_lt hobA)]; exact hobA
                refine ⟨uA, rfl, hob2A, ?_⟩
                simp only [Act.put, List.setIfInBounds_toArray, List.set_cons_zero, List.set_cons_succ]
                have hb2A : Below wo.heap.size wo w2 := hdrA.trans (hbcA.mono hdrA.size)
                have htw2A := TWA.out.below hb2A
                have HWRA := hide (bwrite_any htw2A.x.k (small_ctA.small (by omega)) (WA.out.mono (by omega)) dev sec uA d huA.bytes (fun _ k hk hf => by have h1 := (huA.lt k hk).1; have h2 := (TWA.out.x.f k hf).2; have h3 : wo.drew.heap.size = wo.heap.size := rfl; omega))
                refine only_call 8 (some 78) rfl rfl rfl (by kernel_rfl) (exec_call4 rfl enterBWrite rfl rfl rfl rfl rfl) (HWRA.out.mono ?_)
                rintro e w3 ⟨xA, rfl, -, hkA, htA⟩
                have hob3A : w3.heap[OB]? = some (.cells oc 36 (0, 0)) := by rw [htA.block _ (heap_lt hob2A) OBXA.out]; exact hob2A
                refine ⟨_, rfl, hob3A, ?_⟩
                simp only [Act.put, List.setIfInBounds_toArray, List.set_cons_zero, List.set_cons_succ]
                refine wpAnyH_done (by kernel_rfl) ?_ _
                have HOBB := hide hob3A
                have TWB := hide (htw2A.turnA hkA htA)
                have HFA := hide (HP.out.1.bw (ctA N) dev sec d)
                have HWA := hide (WA.out.bw (ctA N) dev sec d)
                have HQA := hide (bwQ_ctA HP.out.1 N dev sec d)
                clear hdrA hobA HCPA huA hbcA hob2A hb2A htw2A HWRA hkA htA hob3A hS TWA
                generalize bwD DA (ctA N) dev sec d = DA2 at *
                rw [HQA.out] at TWB
                go_wp2_with fail
                have hdrB : Below w3.heap.size w3 w3.drew := (Below.refl _ _).drew
                have hobB : w3.drew.heap[OB]? = some (.cells oc 36 (0, 0)) := HOBB.out
                refine wp_region_held_drew (S := fun wx => wx.heap[OB]? = some (.cells oc 36 (0, 0))) (by kernel_rfl) hobB (fun hS => ?_)
                refine take_run 0 (some 79) (.pointer (some ⟨b, 0, none⟩)) rfl rfl rfl (by kernel_rfl) (by kernel_rfl) (by kernel_rfl) (fun _ _ _ h => h) (fun wx hx => exec_move rfl rfl) hS ?_
                simp only [Act.put, List.setIfInBounds_toArray, List.set_cons_zero, List.set_cons_succ]
                refine take_run 1 (some 80) (.pointer (some ⟨OB, 1, none⟩)) rfl rfl rfl (by kernel_rfl) (by kernel_rfl) (by kernel_rfl) (fun _ _ _ h => h) (fun wx hx => exec_field rfl (opField1 _ wx) rfl) hS ?_
                simp only [Act.put, List.setIfInBounds_toArray, List.set_cons_zero, List.set_cons_succ]
                refine take_run 2 (some 81) (.int .i64 dev) rfl rfl rfl (by kernel_rfl) (by kernel_rfl) (by kernel_rfl) (fun _ _ _ h => h) (fun wx hx => exec_load rfl (load_int (HOC.out wx hx).1) rfl) hS ?_
                simp only [Act.put, List.setIfInBounds_toArray, List.set_cons_zero, List.set_cons_succ]
                refine take_run 3 (some 82) (.pointer (some ⟨OB, 2, none⟩)) rfl rfl rfl (by kernel_rfl) (by kernel_rfl) (by kernel_rfl) (fun _ _ _ h => h) (fun wx hx => exec_field rfl (opField2 _ wx) rfl) hS ?_
                simp only [Act.put, List.setIfInBounds_toArray, List.set_cons_zero, List.set_cons_succ]
                refine take_run 4 (some 83) (.int .i64 sec) rfl rfl rfl (by kernel_rfl) (by kernel_rfl) (by kernel_rfl) (fun _ _ _ h => h) (fun wx hx => exec_load rfl (load_int (HOC.out wx hx).2.1) rfl) hS ?_
                simp only [Act.put, List.setIfInBounds_toArray, List.set_cons_zero, List.set_cons_succ]
                refine take_run 5 (some 84) (.pointer (some ⟨OB, 4, none⟩)) rfl rfl rfl (by kernel_rfl) (by kernel_rfl) (by kernel_rfl) (fun _ _ _ h => h) (fun wx hx => exec_field rfl (opField4 _ wx) rfl) hS ?_
                simp only [Act.put, List.setIfInBounds_toArray, List.set_cons_zero, List.set_cons_succ]
                refine take_run 6 (some 85) (.slice aod d.length capd) rfl rfl rfl (by kernel_rfl) (by kernel_rfl) (by kernel_rfl) (fun _ _ _ h => h) (fun wx hx => exec_load rfl (load_bytes (HOC.out wx hx).2.2.2.1) rfl) hS ?_
                simp only [Act.put, List.setIfInBounds_toArray, List.set_cons_zero, List.set_cons_succ]
                have HCPB := hide (copy_any d (.slice aod d.length capd) w3.drew (HDW.out.below (TWB.out.x.bel.trans (hdrB.mono TWB.out.x.bel.size))))
                refine only_call 7 (some 86) rfl rfl rfl (by kernel_rfl) (exec_call1 rfl enterCopy rfl rfl) (HCPB.out.mono ?_)
                rintro e w4 ⟨uB, rfl, huB, hbcB⟩
                have hob2B : w4.heap[OB]? = some (.cells oc 36 (0, 0)) := by rw [hbcB.block _ (heap_lt hobB)]; exact hobB
                refine ⟨uB, rfl, hob2B, ?_⟩
                simp only [Act.put, List.setIfInBounds_toArray, List.set_cons_zero, List.set_cons_succ]
                have hb2B : Below w3.heap.size w3 w4 := hdrB.trans (hbcB.mono hdrB.size)
                have htw2B := TWB.out.below hb2B
                have HWRB := hide (bwrite_any htw2B.y.k ((small_ctB HN200.out).small (by have := HN200.out; omega)) (WB.out.mono (by omega)) dev sec uB d huB.bytes (fun _ k hk hf => by have h1 := (huB.lt k hk).1; have h2 := (TWB.out.y.f k hf).2; have h3 : w3.drew.heap.size = w3.heap.size := rfl; omega))
                refine only_call 8 (some 87) rfl rfl rfl (by kernel_rfl) (exec_call4 rfl enterBWrite rfl rfl rfl rfl rfl) (HWRB.out.mono ?_)
                rintro e w5 ⟨xB, rfl, -, hkB, htB⟩
                have hob3B : w5.heap[OB]? = some (.cells oc 36 (0, 0)) := by rw [htB.block _ (heap_lt hob2B) OBXB.out]; exact hob2B
                refine ⟨_, rfl, hob3B, ?_⟩
                simp only [Act.put, List.setIfInBounds_toArray, List.set_cons_zero, List.set_cons_succ]
                refine wpAnyH_done (by kernel_rfl) ?_ _
                have HEND : Hid (Two w w5 a b (CtP n 3 (j + 1) (j + 1) (N + okW dev sec d) (N + okW dev sec d))) := by
                  have h5 := htw2B.turnB hkB htB
                  rw [bwQ_ctB HP.out.2.1] at h5
                  have hle := okW_le dev sec d
                  exact ⟨_, _, _, _, _, _, h5, HFA.out, HP.out.2.1.bw _ _ _ _, HWA.out, WB.out.bw _ _ _ _, rfl, rfl, by have := HP.out.2.2.1; omega, by have := HP.out.2.2.2; omega⟩
                clear hdrB hobB HCPB huB hbcB hob2B hb2B htw2B HWRB hkB htB hob3B hS TWB HOC HOBA HOBB OBXA OBXB HDW
                go_wp2
                go_roundg m
                case measure => omega
                case rel => exact ⟨j + 1, _, by omega, by go_num, HEND.out⟩
              · have kb5 : (kind == 5) = false := by simpa using hk5
                by_cases hk6 : kind = 6
                · have kb6 : (kind == 6) = true := by simp [hk6]
                  clear hk5 hk6
                  obtain ⟨Fa, Fb, DA, DB, qa, qb, hat, hfa, hfb, hwa, hwb, rfl, rfl, hna, hnb⟩ := HTW.out
                  have HAT := hide hat
                  have HP := hide (And.intro hfa (And.intro hfb (And.intro hna (And.intro hnb (And.intro hwa hwb)))))
                  have HN100 : Hid (N ≤ 100) := by have := HL.out; show _ ≤ _; omega
                  have HJ100 : Hid (j ≤ 100) := by have := HL.out; show _ ≤ _; omega
                  clear hat hfa hfb hwa hwb hna hnb
                  go_wp2_with fail
                  generalize hoc : #[Value.int .i64 kind, Value.int .i64 dev, Value.int .i64 sec, Value.int .i64 on, Value.slice aod d.length capd, Value.slice aop ops.length capp] = oc
                  have HOC : Hid (∀ wx : World, wx.heap[wr.heap.size]? = some (.cells oc 36 (0, 0)) → wx.cell? ⟨wr.heap.size, 1, none⟩ = some (.int .i64 dev)) := fun wx hx => (opC_cells (kind := kind) (by rw [hx, ← hoc]; rfl)).1
                  obtain ⟨wo, hwo⟩ : ∃ wo, wo = wr.alloc (.cells oc 36) := ⟨_, rfl⟩
                  have HWO : Hid (Below wr.heap.size wr wo) := by rw [hwo]; exact HAL.out _
                  have HOBA : Hid (wo.heap[wr.heap.size]? = some (.cells oc 36 (0, 0))) := by rw [hwo]; exact heap_alloc_new wr _
                  have HSZ : Hid (wo.heap.size = wr.heap.size + 1) := by rw [hwo]; show _ = _; simp
                  rw [← hwo]
                  have OBXA : Hid (¬ Fa wr.heap.size) := fun hx => by have := (HAT.out.x.f _ hx).2; omega
                  have OBXB : Hid (¬ Fb wr.heap.size) := fun hx => by have := (HAT.out.y.f _ hx).2; omega
                  have TWA := hide (HAT.out.below (HWO.out.trans ((Below.refl wo.heap.size wo).alloc (Nat.le_refl _) (.cells #[.int .i64 dev] 3) |>.mono HWO.out.size)))
                  obtain ⟨OB, hOB⟩ : ∃ OB, OB = wr.heap.size := ⟨_, rfl⟩
                  rw [← hOB] at HOC HOBA OBXA OBXB HSZ
                  rw [← hOB]
                  have HOB := hide hOB
                  clear hoc hwo hOB
                  have HIN : Hid (Ints (wo.alloc (.cells #[.int .i64 dev] 3)) (.slice (some ⟨OB + 1, 0, none⟩) 1 1) [dev]) := by have := ints_one wo HII.out; rw [HSZ.out] at this; exact this
                  have HFL := hide (bflush_any TWA.out.x.k (small_ctA (N := N)) (HP.out.2.2.2.2.1.mono (by have := HJ100.out; omega)) (.slice (some ⟨OB + 1, 0, none⟩) 1 1) [dev] HIN.out (fun _ k hk hf => by
                    simp only [Value.ownBlock, Option.some.injEq] at hk
                    have := (HAT.out.x.f k hf).2
                    have := HOB.out
                    omega) (by have := HN100.out; simp; omega) (by simp))
                  refine HFL.out.mono ?_
                  rintro e w3 ⟨xA, rfl, -, hkA, htA⟩
                  rw [(flAll_one DA (ctA N) dev).1, (flAll_one DA (ctA N) dev).2, fl1Q_ctA HP.out.1] at hkA
                  have hob1 : (wo.alloc (.cells #[.int .i64 dev] 3)).heap[OB]? = some (.cells oc 36 (0, 0)) := heap_alloc_keep HOBA.out _
                  have HOBB : Hid (w3.heap[OB]? = some (.cells oc 36 (0, 0))) := by show _ = _; rw [htA.block _ (heap_lt hob1) OBXA.out]; exact hob1
                  have d1 := HOC.out w3 HOBB.out
                  have TWB := hide ((TWA.out.turnA hkA htA).below ((Below.refl w3.heap.size w3).alloc (Nat.le_refl _) (.cells #[.int .i64 dev] 3)))
                  have TWB0 := hide (TWA.out.turnA hkA htA)
                  clear hkA htA hob1 HFL TWA
                  go_wp2_with fail
                  have HFL := hide (bflush_any TWB.out.y.k (small_ctB (N := N) HN200.out) (HP.out.2.2.2.2.2.mono (by have := HJ100.out; omega)) (.slice (some ⟨w3.heap.size, 0, none⟩) 1 1) [dev] (ints_one w3 HII.out) (fun _ k hk hf => by
                    simp only [Value.ownBlock, Option.some.injEq] at hk
                    have := (TWB0.out.y.f k hf).2
                    omega) (by have := HN100.out; have := HN200.out; simp; omega) (by simp))
                  refine HFL.out.mono ?_
                  rintro e w5 ⟨xB, rfl, -, hkB, htB⟩
                  rw [(flAll_one DB (ctB n N) dev).1, (flAll_one DB (ctB n N) dev).2, fl1Q_ctB HP.out.2.1] at hkB
                  have HEND : Hid (Two w w5 a b (CtP n 3 (j + 1) (j + 1) (N + okF dev) (N + okF dev))) := by
                    have h5 := TWB.out.turnB hkB htB
                    have hle := okF_le dev
                    exact ⟨_, _, _, _, _, _, h5, HP.out.1.fl1 _ _, HP.out.2.1.fl1 _ _, (HP.out.2.2.2.2.1.fl1 _).mono (by omega), (HP.out.2.2.2.2.2.fl1 _).mono (by omega), rfl, rfl, by have := HP.out.2.2.1; omega, by have := HP.out.2.2.2.1; omega⟩
                  clear hkB htB HFL TWB TWB0 HOC HOBA HOBB OBXA OBXB HDW d1 HP HAT
                  go_wp2
                  go_roundg m
                  case measure => omega
                  case rel => exact ⟨j + 1, _, by omega, by go_num, HEND.out⟩
                · have kb6 : (kind == 6) = false := by simpa using hk6
                  clear hk5 hk6
                  go_wp2
                  go_roundg m
                  case measure => omega
                  case rel => exact ⟨j + 1, N, by omega, by go_num, (HTW.out.below (HAL.out _)).mono (fun DA DB qa qb h => ⟨h.1, h.2.1, h.2.2.1.mono (by omega), h.2.2.2.1.mono (by omega), h.2.2.2.2.1, h.2.2.2.2.2.1, by have := h.2.2.2.2.2.2.1; omega, by have := h.2.2.2.2.2.2.2; omega⟩)⟩
          | zero =>
            have hend : ¬ (j : Int) < (l.length : Int) := by omega
            obtain ⟨Fa, Fb, DA, DB, qa, qb, hat, hfa, hfb, hwa, hwb, rfl, rfl, hna, hnb⟩ := htw
            have HNL : Hid ((N : Int) ≤ (l.length : Int)) := by show _ ≤ _; omega
            have HDA := hide (done_any hat.x.k)
            have HDB := hide (done_any hat.y.k)
            have HDN := hide (down_any hat.y.k)
            have HBL := hide hat.x.bel
            have HA := hide (awake_any wr)
            have hle : decide (N ≤ l.length) = true := by have := HNL.out; simp; omega
            rw [show (ctA N).done = (N : Int) from rfl] at HDA
            clear hat hfa hfb hwa hwb hna hnb hj HTW
            by_cases hnn : N ≤ n
            · rw [show (ctB n N).done = (N : Int) by unfold ctB; rw [if_pos hnn]] at HDB
              rw [show (ctB n N).down = false by unfold ctB; rw [if_pos hnn]] at HDN
              have g3 : decide (n < N) = false := by simp; omega
              have g5 : min (N : Int) (n : Int) = (N : Int) := by omega
              have g4 : ((N : Int) != (N : Int)) = false := by simp
              clear hnn
              go_wp2_with fail
              refine HDB.out.mono ?_
              rintro e w' ⟨rfl, hww⟩
              obtain rfl : wr = w' := hww.symm
              go_wp2_with fail
              refine HDA.out.mono ?_
              rintro e w' ⟨rfl, hww⟩
              obtain rfl : wr = w' := hww.symm
              go_wp2_with fail
              refine HDN.out.mono ?_
              rintro e w' ⟨rfl, hww⟩
              obtain rfl : wr = w' := hww.symm
              go_wp2_with fail
              refine HDA.out.mono ?_
              rintro e w' ⟨rfl, hww⟩
              obtain rfl : wr = w' := hww.symm
              go_wp2_with fail
              refine HDA.out.mono ?_
              rintro e w' ⟨rfl, hww⟩
              obtain rfl : wr = w' := hww.symm
              go_wp2_with fail
              refine HA.out.mono ?_
              rintro e w' ⟨rfl, hb⟩
              have HBB := hide (HBL.out.trans (hb.mono HBL.out.size))
              clear hb
              go_wp2
              go_ret
              exact ⟨rfl, HBB.out⟩
            · rw [show (ctB n N).done = (n : Int) by unfold ctB; rw [if_neg hnn]] at HDB
              rw [show (ctB n N).down = true by unfold ctB; rw [if_neg hnn]] at HDN
              have g3 : decide (n < N) = true := by simp; omega
              have g5 : min (N : Int) (n : Int) = (n : Int) := by omega
              have g4 : ((n : Int) != (n : Int)) = false := by simp
              clear hnn
              go_wp2_with fail
              refine HDB.out.mono ?_
              rintro e w' ⟨rfl, hww⟩
              obtain rfl : wr = w' := hww.symm
              go_wp2_with fail
              refine HDA.out.mono ?_
              rintro e w' ⟨rfl, hww⟩
              obtain rfl : wr = w' := hww.symm
              go_wp2_with fail
              refine HDN.out.mono ?_
              rintro e w' ⟨rfl, hww⟩
              obtain rfl : wr = w' := hww.symm
              go_wp2_with fail
              refine HDA.out.mono ?_
              rintro e w' ⟨rfl, hww⟩
              obtain rfl : wr = w' := hww.symm
              go_wp2_with fail
              refine HDA.out.mono ?_
              rintro e w' ⟨rfl, hww⟩
              obtain rfl : wr = w' := hww.symm
              go_wp2_with fail
              refine HA.out.mono ?_
              rintro e w' ⟨rfl, hb⟩
              have HBB := hide (HBL.out.trans (hb.mono HBL.out.size))
              clear hb
              go_wp2
              go_ret
              exact ⟨rfl, HBB.out⟩
end Go.Proofs.Ytliboiajhhnajaa
