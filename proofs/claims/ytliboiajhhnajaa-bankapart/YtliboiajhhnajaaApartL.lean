/- BankApart walked. -/
import Derived.Test.YtliboiajhhnajaaAp
namespace Go.Proofs.Ytliboiajhhnajaa
open Go.RowKit Go.Extern

set_option maxRecDepth 100000 in
set_option maxHeartbeats 8000000 in
theorem apartL_any (w : World) (v : Value) (l : List OpR) (nn : Int) (hv : Script w v l) (hni : I64 nn) : Calls Try.prog 4 #[v, .int .i64 nn] w fun e w' => e = .returned (.bool true) ∧ Below w.heap.size w w' := by
  obtain ⟨ao, cap, gl, ol, rfl, h2, h3⟩ := hv
  have H2 := hide h2
  have H3 := hide h3
  clear h2 h3
  go_enter Try.func4, Try.ntmps4
  go_wp2_with fail
  refine (bnew_any w).mono ?_
  rintro e w2 ⟨b, rfl, hbkb, hb2⟩
  have H1 := hide (OneAt.made (w0 := w) hbkb (Below.refl _ _) hb2)
  clear hbkb hb2
  have HBO := hide H1.out.bel
  by_cases hbig : (100 : Int) < (l.length : Int) ∨ nn < 0 ∨ (2 : Int) < nn
  · have HA := hide (awake_any w2)
    have hdd : decide ((100 : Int) < (l.length : Int)) = true ∨ (decide ((100 : Int) < (l.length : Int)) = false ∧ decide (nn < 0) = true) ∨ (decide ((100 : Int) < (l.length : Int)) = false ∧ decide (nn < 0) = false ∧ decide ((2 : Int) < nn) = true) := by
      by_cases h0 : (100 : Int) < (l.length : Int)
      · exact .inl (by simpa using h0)
      · by_cases h1 : nn < 0
        · exact .inr (.inl ⟨by simpa using h0, by simpa using h1⟩)
        · exact .inr (.inr ⟨by simpa using h0, by simpa using h1, by simp; omega⟩)
    clear hbig hni
    rcases hdd with hd1 | ⟨hd1, hd2⟩ | ⟨hd1, hd2, hd3⟩
    · go_wp2_with (go_at_call 7; refine HA.out.mono ?_; rintro e w' ⟨rfl, hb⟩; have HBB := hide (HBO.out.trans (hb.mono HBO.out.size)); clear hb)
      go_ret
      exact ⟨rfl, HBB.out⟩
    · go_wp2_with (go_at_call 7; refine HA.out.mono ?_; rintro e w' ⟨rfl, hb⟩; have HBB := hide (HBO.out.trans (hb.mono HBO.out.size)); clear hb)
      go_ret
      exact ⟨rfl, HBB.out⟩
    · go_wp2_with (go_at_call 7; refine HA.out.mono ?_; rintro e w' ⟨rfl, hb⟩; have HBB := hide (HBO.out.trans (hb.mono HBO.out.size)); clear hb)
      go_ret
      exact ⟨rfl, HBB.out⟩
  · have hd1 : decide ((100 : Int) < (l.length : Int)) = false := by simp; omega
    have hd2 : decide (nn < 0) = false := by simp; omega
    have hd3 : decide ((2 : Int) < nn) = false := by simp; omega
    obtain ⟨k0, rfl⟩ : ∃ n : Nat, nn = (n : Int) := ⟨nn.toNat, by omega⟩
    have HL : Hid (l.length ≤ 100) := by show _ ≤ _; omega
    have HK0 : Hid (k0 ≤ 2) := by show _ ≤ _; omega
    have HK64 : Hid (I64 (k0 : Int)) := hni
    clear hbig hni HBO
    go_wp2_with fail
    go_loopg [37] 3 (fun gk i wr => ∃ j, j + gk = 3 ∧ i = .int .i64 (j : Int) ∧ ∃ F D, OneAt w wr F b D (ctA 0) ∧ (∀ i, i < j → sec1 D i zeroSec) ∧ WlB D 0 ∧ D.length = j)
    case atStart => exact ⟨0, by omega, rfl, _, _, H1.out, by omega, WlB.nil _, rfl⟩
    case round =>
      clear H1
      obtain ⟨j, hj, rfl, F, D, hone, hsec, hwl, hlen⟩ := hrel
      cases gk with
      | succ m =>
        have hlt : (j : Int) < 3 := by omega
        have hjj : (j : Int) + 1 < 5 := by omega
        have HONE := hide hone
        have HP := hide (And.intro hsec (And.intro hwl hlen))
        have HCA := hide (badd_any hone.k 4)
        have HD0 : Hid (addC D (ctA 0) 4 = 0) := addC_four _ _ rfl (by omega)
        clear hone hsec hwl hlen
        go_wp2_with fail
        refine HCA.out.mono ?_
        rintro e w3 ⟨ht3, he⟩
        rcases he with ⟨hc, -⟩ | ⟨-, rfl, p, hbk3⟩
        · exact absurd HD0.out hc
        have HEND : Hid (∃ F D, OneAt w w3 F b D (ctA 0) ∧ (∀ i, i < j + 1 → sec1 D i zeroSec) ∧ WlB D 0 ∧ D.length = j + 1) := by
          refine ⟨_, _, HONE.out.turn hbk3 ht3, fun i hi => ?_, HP.out.2.1.add _ _, by simp [HP.out.2.2]⟩
          by_cases e : i < j
          · obtain ⟨p', S, h1, h2⟩ := HP.out.1 i e
            exact ⟨p', S, by rw [List.getElem?_append_left (by rw [HP.out.2.2]; exact e)]; exact h1, h2⟩
          · have : i = j := by omega
            subst this
            refine ⟨p, fresh (4 : Int).toNat, ?_, by simp [fresh]⟩
            rw [List.getElem?_append_right (by rw [HP.out.2.2]; exact Nat.le_refl _), HP.out.2.2]; simp
        clear hbk3 ht3 HCA HONE HP
        go_wp2
        go_roundg m
        case measure => omega
        case rel => exact ⟨j + 1, by omega, by go_num, HEND.out⟩
      | zero =>
        obtain rfl : j = 3 := by omega
        have hend : ¬ ((3 : Nat) : Int) < 3 := by omega
        obtain ⟨w4, hr4, hm4, hb4, hs4⟩ := made wr
        have cm := cell_made w4 _ hm4 7 (by omega)
        have fm : w4.frozen? ⟨wr.heap.size, 7, none⟩ = false := row_frozen hm4 7
        have HAP : Hid (Ap w (w4.setCell ⟨wr.heap.size, 7, none⟩ (.int .u8 7)) b wr.heap.size (ApW 0)) := by
          have h4 := hone.below hb4
          have hne : ∀ k, F k → k ≠ wr.heap.size := fun k hk => by have := (hone.f k hk).2; omega
          have h5 : OneAt w (w4.setCell ⟨wr.heap.size, 7, none⟩ (.int .u8 7)) F b D (ctA 0) := h4.other (set_turn (F := fun k => k = wr.heap.size) w4 ⟨wr.heap.size, 7, none⟩ _ rfl) (fun k hk => by rw [hk]; exact hone.bel.size) (fun k hk e => hne k hk e)
          exact ⟨F, D, 0, ⟨h5, row_sev7 hm4, fun hx => hne _ hx rfl⟩, fun i hi => by rw [if_neg (by omega)]; exact hsec i hi, hwl, Nat.le_refl _⟩
        have HGD : Hid (w.heap.size ≤ wr.heap.size) := hone.bel.size
        clear hone hsec hwl hlen hj hend hm4 hb4
        go_wp2_with (first | ((with_reducible refine wpList_make rfl rfl hr4 ?_ ?_ ?_); rfl; rfl))
        obtain ⟨w5, hw5⟩ : ∃ w5, w5 = w4.setCell ⟨wr.heap.size, 7, none⟩ (.int .u8 7) := ⟨_, rfl⟩
        rw [← hw5] at HAP
        rw [← hw5]
        clear hw5 cm fm hr4 hs4
        obtain ⟨gd, hgd⟩ : ∃ gd, gd = wr.heap.size := ⟨_, rfl⟩
        rw [← hgd] at HAP HGD
        rw [← hgd]
        clear hgd
        go_wp2_with fail
        go_loopg [45] 3 (fun gk i wr => ∃ j, j + gk = 3 ∧ i = .int .i64 (j : Int) ∧ Ap w wr b gd (ApW j))
        case atStart => exact ⟨0, by omega, rfl, HAP.out⟩
        case round =>
          clear HAP
          obtain ⟨j, hj, rfl, F, D, N, hat, hsec, hwl, hN⟩ := hrel
          cases gk with
          | succ m =>
            have hlt : (j : Int) < 3 := by omega
            have hjj : (j : Int) + 1 < 5 := by omega
            have hj3 : j < 3 := by omega
            have hs := hsec j hj3
            rw [if_neg (Nat.lt_irrefl j)] at hs
            have HW := hide (hs.write N (d := sev7) sev7_con.1)
            have HCALL := hide (bwrite_any hat.one.k (small_ctA.small (by omega)) (hwl.mono (by omega)) (j : Int) 1 (.slice (some ⟨gd, 0, none⟩) 128 128) sev7 hat.bytes (fun _ k hk hf => by simp only [Value.ownBlock, Option.some.injEq] at hk; rw [← hk] at hf; exact hat.gf hf))
            have HAT := hide hat
            have HP := hide (And.intro hsec (And.intro hwl hN))
            rw [HW.out.1] at HCALL
            clear hat hsec hwl hN hs
            go_wp2_with fail
            refine HCALL.out.mono ?_
            rintro e w6 ⟨x, rfl, hx, hk6, ht6⟩
            obtain rfl := hx.zero
            have HEND : Hid (Ap w w6 b gd (ApW (j + 1))) := by
              obtain ⟨M, hM, hMN⟩ := bwQ_A D N (j : Int) 1 sev7
              rw [hM] at hk6
              refine ⟨_, _, M, HAT.out.turn hk6 ht6, fun i hi => ?_, HP.out.2.1.bw _ _ _ _, by have := HP.out.2.2; omega⟩
              by_cases e : i = j
              · subst e
                rw [if_pos (by omega)]
                exact HW.out.2
              · have h1 := (HP.out.1 i hi).bw e (ctA N) 1 sev7
                by_cases e2 : i < j
                · rw [if_pos e2] at h1
                  rw [if_pos (by omega)]; exact h1
                · rw [if_neg e2] at h1
                  rw [if_neg (by omega)]; exact h1
            clear hx hk6 ht6 HCALL HAT HP HW
            go_wp2
            go_roundg m
            case measure => omega
            case rel => exact ⟨j + 1, by omega, by go_num, HEND.out⟩
          | zero =>
            obtain rfl : j = 3 := by omega
            have hend : ¬ ((3 : Nat) : Int) < 3 := by omega
            have HAS : Hid (Ap w wr b gd (ApS k0 0)) := ⟨F, D, N, hat, fun i hi _ => by have := hsec i hi; rw [if_pos hi] at this; exact this, hwl, hN⟩
            clear hat hsec hwl hN hj hend
            go_wp2_with fail
            go_loopg [56] l.length (fun gk i wr => ∃ j, j + gk = l.length ∧ i = .int .i64 (j : Int) ∧ Ap w wr b gd (ApS k0 j))
            case atStart => exact ⟨0, by omega, rfl, HAS.out⟩
            case round =>
              clear HAS
              obtain ⟨j, hj, rfl, hap⟩ := hrel
              have HAP := hide hap
              cases gk with
              | succ m =>
                have hjl : j < l.length := by omega
                have hlt : (j : Int) < (l.length : Int) := by omega
                have hb0 : (0 : Int) ≤ (j : Int) := by omega
                obtain ⟨o, ho⟩ : ∃ o, l[j]? = some o := ⟨l[j], by simp [hjl]⟩
                obtain rfl := H2.out (by omega)
                have hop := (H3.out j o ho).below hap.bel
                obtain ⟨kind, dev, sec, on, dv, d, opv, ops⟩ := o
                have q0 : wr.cell? ⟨gl, ol + j * 6, none⟩ = some (.int .i64 kind) := hop.c0
                have q1 : wr.cell? ⟨gl, ol + j * 6 + 1, none⟩ = some (.int .i64 dev) := hop.c1
                have q2 : wr.cell? ⟨gl, ol + j * 6 + 2, none⟩ = some (.int .i64 sec) := hop.c2
                have q3 : wr.cell? ⟨gl, ol + j * 6 + 3, none⟩ = some (.int .i64 on) := hop.c3
                have q4 : wr.cell? ⟨gl, ol + j * 6 + 4, none⟩ = some dv := hop.c4
                have q5 : wr.cell? ⟨gl, ol + j * 6 + 5, none⟩ = some opv := hop.c5
                have HDW : Hid (Bytes w dv d) := (H3.out j _ ho).hd
                have HSS : Hid (I64 sec) := hop.hs
                have hgl := cell_lt q0
                have HJ : Hid ((j : Int) + 1 < 102) := by have := HL.out; show _ < _; omega
                have hjj := HJ.out
                obtain ⟨aod, capd, gx, offd, hdv, -⟩ := hop.hd
                obtain ⟨aop, capp, gp, offp, hpv, -⟩ := hop.hp
                have hdv' : dv = .slice aod d.length capd := hdv
                have hpv' : opv = .slice aop ops.length capp := hpv
                clear hdv hpv
                subst hdv' hpv'
                have HAL : Hid (∀ o, Below wr.heap.size wr (wr.alloc o)) := fun o => (Below.refl _ _).alloc (Nat.le_refl _) o
                clear hop ho hap
                by_cases hbg : (1000 : Int) < (d.length : Int)
                · have HBO : Hid (Below w.heap.size w (wr.alloc (.cells #[Value.int .i64 kind, Value.int .i64 dev, Value.int .i64 sec, Value.int .i64 on, Value.slice aod d.length capd, Value.slice aop ops.length capp] 36))) := HAP.out.bel.trans ((HAL.out _).mono HAP.out.bel.size)
                  have HA := hide (awake_any (wr.alloc (.cells #[Value.int .i64 kind, Value.int .i64 dev, Value.int .i64 sec, Value.int .i64 on, Value.slice aod d.length capd, Value.slice aop ops.length capp] 36)))
                  have e1 : decide ((1000 : Int) < (d.length : Int)) = true := by simpa using hbg
                  clear hbg
                  go_wp2_with (go_at_call 7; refine HA.out.mono ?_; rintro e w' ⟨rfl, hb⟩; have HBB := hide (HBO.out.trans (hb.mono HBO.out.size)); clear hb)
                  go_ret
                  exact ⟨rfl, HBB.out⟩
                · have e1 : decide ((1000 : Int) < (d.length : Int)) = false := by simpa using hbg
                  have HDL : Hid (d.length ≤ 1000) := by show _ ≤ _; omega
                  obtain ⟨F, D, N, hat, hsec, hwl, hN⟩ := HAP.out
                  have HAT := hide hat
                  have HP := hide (And.intro hsec (And.intro hwl hN))
                  have HJ100 : Hid (j ≤ 100) := by have := HL.out; show _ ≤ _; omega
                  clear hbg hat hsec hwl hN
                  by_cases hk3 : kind = 3
                  · have kb3 : (kind == 3) = true := by simp [hk3]
                    clear hk3
                    go_wp2_with fail
                    generalize hoc : #[Value.int .i64 kind, Value.int .i64 dev, Value.int .i64 sec, Value.int .i64 on, Value.slice aod d.length capd, Value.slice aop ops.length capp] = oc
                    have HOC : Hid (∀ wx : World, wx.heap[wr.heap.size]? = some (.cells oc 36 (0, 0)) → wx.cell? ⟨wr.heap.size, 1, none⟩ = some (.int .i64 dev) ∧ wx.cell? ⟨wr.heap.size, 2, none⟩ = some (.int .i64 sec) ∧ wx.cell? ⟨wr.heap.size, 3, none⟩ = some (.int .i64 on) ∧ wx.cell? ⟨wr.heap.size, 4, none⟩ = some (.slice aod d.length capd) ∧ wx.cell? ⟨wr.heap.size, 5, none⟩ = some (.slice aop ops.length capp)) := fun wx hx => opC_cells (kind := kind) (by rw [hx, ← hoc]; rfl)
                    obtain ⟨wo, hwo⟩ : ∃ wo, wo = wr.alloc (.cells oc 36) := ⟨_, rfl⟩
                    have HWO : Hid (Below wr.heap.size wr wo) := by rw [hwo]; exact HAL.out _
                    have HOB : Hid (wo.heap[wr.heap.size]? = some (.cells oc 36 (0, 0))) := by rw [hwo]; exact heap_alloc_new wr _
                    have HSZ : Hid (wo.heap.size = wr.heap.size + 1) := by rw [hwo]; show _ = _; simp
                    rw [← hwo]
                    have OBX : Hid (¬ F wr.heap.size) := fun hx => by have := (HAT.out.one.f _ hx).2; omega
                    have TW := hide (HAT.out.below HWO.out)
                    obtain ⟨OB, hOB⟩ : ∃ OB, OB = wr.heap.size := ⟨_, rfl⟩
                    rw [← hOB] at HOC HOB OBX HSZ
                    rw [← hOB]
                    have HOBE := hide hOB
                    clear hoc hwo hOB
                    have HCALL := hide (bdetach_any TW.out.one.k (k0 : Int))
                    refine HCALL.out.mono ?_
                    rintro e w3 ⟨x, rfl, -, hk3, ht3⟩
                    have HEND : Hid (Ap w w3 b gd (ApS k0 (j + 1))) := by
                      exact ⟨_, _, N, TW.out.turn hk3 ht3, fun i hi hne => (HP.out.1 i hi hne).bd hne _, (HP.out.2.1.bd _ _).mono (by omega), by have := HP.out.2.2; omega⟩
                    clear hk3 ht3 HCALL HOC HOB OBX TW HAT HP
                    go_wp2
                    go_roundg m
                    case measure => omega
                    case rel => exact ⟨j + 1, by omega, by go_num, HEND.out⟩
                  · have kb3 : (kind == 3) = false := by simpa using hk3
                    clear hk3
                    by_cases hk5 : kind = 5
                    · have kb5 : (kind == 5) = true := by simp [hk5]
                      clear hk5
                      go_wp2_with fail
                      generalize hoc : #[Value.int .i64 kind, Value.int .i64 dev, Value.int .i64 sec, Value.int .i64 on, Value.slice aod d.length capd, Value.slice aop ops.length capp] = oc
                      have HOC : Hid (∀ wx : World, wx.heap[wr.heap.size]? = some (.cells oc 36 (0, 0)) → wx.cell? ⟨wr.heap.size, 1, none⟩ = some (.int .i64 dev) ∧ wx.cell? ⟨wr.heap.size, 2, none⟩ = some (.int .i64 sec) ∧ wx.cell? ⟨wr.heap.size, 3, none⟩ = some (.int .i64 on) ∧ wx.cell? ⟨wr.heap.size, 4, none⟩ = some (.slice aod d.length capd) ∧ wx.cell? ⟨wr.heap.size, 5, none⟩ = some (.slice aop ops.length capp)) := fun wx hx => opC_cells (kind := kind) (by rw [hx, ← hoc]; rfl)
                      obtain ⟨wo, hwo⟩ : ∃ wo, wo = wr.alloc (.cells oc 36) := ⟨_, rfl⟩
                      have HWO : Hid (Below wr.heap.size wr wo) := by rw [hwo]; exact HAL.out _
                      have HOB : Hid (wo.heap[wr.heap.size]? = some (.cells oc 36 (0, 0))) := by rw [hwo]; exact heap_alloc_new wr _
                      have HSZ : Hid (wo.heap.size = wr.heap.size + 1) := by rw [hwo]; show _ = _; simp
                      rw [← hwo]
                      have OBX : Hid (¬ F wr.heap.size) := fun hx => by have := (HAT.out.one.f _ hx).2; omega
                      have TW := hide (HAT.out.below HWO.out)
                      obtain ⟨OB, hOB⟩ : ∃ OB, OB = wr.heap.size := ⟨_, rfl⟩
                      rw [← hOB] at HOC HOB OBX HSZ
                      rw [← hOB]
                      have HOBE := hide hOB
                      clear hoc hwo hOB
                      have hdr : Below wo.heap.size wo wo.drew := (Below.refl _ _).drew
                      have hob : wo.drew.heap[OB]? = some (.cells oc 36 (0, 0)) := HOB.out
                      refine wp_region_held_drew (S := fun wx => wx.heap[OB]? = some (.cells oc 36 (0, 0))) (by kernel_rfl) hob (fun hS => ?_)
                      refine take_run 0 (some 74) (.pointer (some ⟨b, 0, none⟩)) rfl rfl rfl (by kernel_rfl) (by kernel_rfl) (by kernel_rfl) (fun _ _ _ h => h) (fun wx hx => exec_move rfl rfl) hS ?_
                      simp only [Act.put, List.setIfInBounds_toArray, List.set_cons_zero, List.set_cons_succ]
                      refine take_run 1 (some 75) (.int .i64 (k0 : Int)) rfl rfl rfl (by kernel_rfl) (by kernel_rfl) (by kernel_rfl) (fun _ _ _ h => h) (fun wx hx => exec_move rfl rfl) hS ?_
                      simp only [Act.put, List.setIfInBounds_toArray, List.set_cons_zero, List.set_cons_succ]
                      refine take_run 2 (some 76) (.pointer (some ⟨OB, 2, none⟩)) rfl rfl rfl (by kernel_rfl) (by kernel_rfl) (by kernel_rfl) (fun _ _ _ h => h) (fun wx hx => exec_field rfl (opField2 _ wx) rfl) hS ?_
                      simp only [Act.put, List.setIfInBounds_toArray, List.set_cons_zero, List.set_cons_succ]
                      refine take_run 3 (some 77) (.int .i64 sec) rfl rfl rfl (by kernel_rfl) (by kernel_rfl) (by kernel_rfl) (fun _ _ _ h => h) (fun wx hx => exec_load rfl (load_int (HOC.out wx hx).2.1) rfl) hS ?_
                      simp only [Act.put, List.setIfInBounds_toArray, List.set_cons_zero, List.set_cons_succ]
                      refine take_run 4 (some 78) (.pointer (some ⟨OB, 4, none⟩)) rfl rfl rfl (by kernel_rfl) (by kernel_rfl) (by kernel_rfl) (fun _ _ _ h => h) (fun wx hx => exec_field rfl (opField4 _ wx) rfl) hS ?_
                      simp only [Act.put, List.setIfInBounds_toArray, List.set_cons_zero, List.set_cons_succ]
                      refine take_run 5 (some 79) (.slice aod d.length capd) rfl rfl rfl (by kernel_rfl) (by kernel_rfl) (by kernel_rfl) (fun _ _ _ h => h) (fun wx hx => exec_load rfl (load_bytes (HOC.out wx hx).2.2.2.1) rfl) hS ?_
                      simp only [Act.put, List.setIfInBounds_toArray, List.set_cons_zero, List.set_cons_succ]
                      have HCP := hide (copy_any d (.slice aod d.length capd) wo.drew (HDW.out.below (TW.out.one.bel.trans (hdr.mono TW.out.one.bel.size))))
                      refine only_call 6 (some 80) rfl rfl rfl (by kernel_rfl) (exec_call1 rfl enterCopy rfl rfl) (HCP.out.mono ?_)
                      rintro e w4 ⟨u, rfl, hu, hbc⟩
                      have hob2 : w4.heap[OB]? = some (.cells oc 36 (0, 0)) := by rw [hbc.block _ (heap_lt hob)]; exact hob
                      refine ⟨u, rfl, hob2, ?_⟩
                      simp only [Act.put, List.setIfInBounds_toArray, List.set_cons_zero, List.set_cons_succ]
                      have hb2 : Below wo.heap.size wo w4 := hdr.trans (hbc.mono hdr.size)
                      have htw2 := TW.out.below hb2
                      have HWR := hide (bwrite_any htw2.one.k (small_ctA.small (by have := HP.out.2.2; have := HJ100.out; omega)) (HP.out.2.1.mono (by have := HJ100.out; omega)) (k0 : Int) sec u d hu.bytes (fun _ k hk hf => by have h1 := (hu.lt k hk).1; have h2 := (TW.out.one.f k hf).2; have h3 : wo.drew.heap.size = wo.heap.size := rfl; omega))
                      refine only_call 7 (some 81) rfl rfl rfl (by kernel_rfl) (exec_call4 rfl enterBWrite rfl rfl rfl rfl rfl) (HWR.out.mono ?_)
                      rintro e w3 ⟨x, rfl, -, hk3, ht3⟩
                      have hob3 : w3.heap[OB]? = some (.cells oc 36 (0, 0)) := by rw [ht3.block _ (heap_lt hob2) OBX.out]; exact hob2
                      refine ⟨_, rfl, hob3, ?_⟩
                      simp only [Act.put, List.setIfInBounds_toArray, List.set_cons_zero, List.set_cons_succ]
                      refine wpAnyH_done (by kernel_rfl) ?_ _
                      have HEND : Hid (Ap w w3 b gd (ApS k0 (j + 1))) := by
                        obtain ⟨M, hM, hMN⟩ := bwQ_A D N (k0 : Int) sec d
                        rw [hM] at hk3
                        exact ⟨_, _, M, htw2.turn hk3 ht3, fun i hi hne => (HP.out.1 i hi hne).bw hne _ _ _, (HP.out.2.1.bw _ _ _ _).mono (by omega), by have := HP.out.2.2; omega⟩
                      clear hk3 ht3 HWR hdr hob HCP hu hbc hob2 hb2 htw2 hob3 hS HOC HOB OBX TW HAT HP
                      go_wp2
                      go_roundg m
                      case measure => omega
                      case rel => exact ⟨j + 1, by omega, by go_num, HEND.out⟩
                    · have kb5 : (kind == 5) = false := by simpa using hk5
                      clear hk5
                      by_cases hk6 : kind = 6
                      · have kb6 : (kind == 6) = true := by simp [hk6]
                        clear hk6
                        go_wp2_with fail
                        generalize hoc : #[Value.int .i64 kind, Value.int .i64 dev, Value.int .i64 sec, Value.int .i64 on, Value.slice aod d.length capd, Value.slice aop ops.length capp] = oc
                        have HOC : Hid (∀ wx : World, wx.heap[wr.heap.size]? = some (.cells oc 36 (0, 0)) → wx.cell? ⟨wr.heap.size, 1, none⟩ = some (.int .i64 dev) ∧ wx.cell? ⟨wr.heap.size, 2, none⟩ = some (.int .i64 sec) ∧ wx.cell? ⟨wr.heap.size, 3, none⟩ = some (.int .i64 on) ∧ wx.cell? ⟨wr.heap.size, 4, none⟩ = some (.slice aod d.length capd) ∧ wx.cell? ⟨wr.heap.size, 5, none⟩ = some (.slice aop ops.length capp)) := fun wx hx => opC_cells (kind := kind) (by rw [hx, ← hoc]; rfl)
                        obtain ⟨wo, hwo⟩ : ∃ wo, wo = wr.alloc (.cells oc 36) := ⟨_, rfl⟩
                        have HWO : Hid (Below wr.heap.size wr wo) := by rw [hwo]; exact HAL.out _
                        have HOB : Hid (wo.heap[wr.heap.size]? = some (.cells oc 36 (0, 0))) := by rw [hwo]; exact heap_alloc_new wr _
                        have HSZ : Hid (wo.heap.size = wr.heap.size + 1) := by rw [hwo]; show _ = _; simp
                        rw [← hwo]
                        have OBX : Hid (¬ F wr.heap.size) := fun hx => by have := (HAT.out.one.f _ hx).2; omega
                        have TW := hide (HAT.out.below HWO.out)
                        obtain ⟨OB, hOB⟩ : ∃ OB, OB = wr.heap.size := ⟨_, rfl⟩
                        rw [← hOB] at HOC HOB OBX HSZ
                        rw [← hOB]
                        have HOBE := hide hOB
                        clear hoc hwo hOB
                        have HIN : Hid (Ints (wo.alloc (.cells #[.int .i64 (k0 : Int)] 3)) (.slice (some ⟨OB + 1, 0, none⟩) 1 1) [(k0 : Int)]) := by have := ints_one wo HK64.out; rw [HSZ.out] at this; exact this
                        have htw2 := TW.out.below ((Below.refl wo.heap.size wo).alloc (Nat.le_refl _) (.cells #[.int .i64 (k0 : Int)] 3))
                        have HFL := hide (bflush_any htw2.one.k (small_ctA (N := N)) (HP.out.2.1.mono (by have := HJ100.out; omega)) (.slice (some ⟨OB + 1, 0, none⟩) 1 1) [(k0 : Int)] HIN.out (fun _ k hk hf => by
                          simp only [Value.ownBlock, Option.some.injEq] at hk
                          have := (TW.out.one.f k hf).2
                          have := HSZ.out
                          omega) (by have := HP.out.2.2; have := HJ100.out; simp; omega) (by simp))
                        refine HFL.out.mono ?_
                        rintro e w3 ⟨x, rfl, -, hk3, ht3⟩
                        rw [(flAll_one D (ctA N) (k0 : Int)).1, (flAll_one D (ctA N) (k0 : Int)).2] at hk3
                        have HEND : Hid (Ap w w3 b gd (ApS k0 (j + 1))) := by
                          obtain ⟨M, hM, hMN⟩ := fl1Q_A D N (k0 : Int)
                          rw [hM] at hk3
                          exact ⟨_, _, M, htw2.turn hk3 ht3, fun i hi hne => (HP.out.1 i hi hne).fl hne _, (HP.out.2.1.fl1 _).mono (by omega), by have := HP.out.2.2; omega⟩
                        clear hk3 ht3 HFL HIN htw2 HOC HOB OBX TW HAT HP
                        go_wp2
                        go_roundg m
                        case measure => omega
                        case rel => exact ⟨j + 1, by omega, by go_num, HEND.out⟩
                      · have kb6 : (kind == 6) = false := by simpa using hk6
                        clear hk6
                        by_cases hk9 : kind = 9
                        · have kb9 : (kind == 9) = true := by simp [hk9]
                          clear hk9
                          obtain ⟨ob, hob⟩ : ∃ ob, decide ((0 : Int) < on) = ob := ⟨_, rfl⟩
                          go_wp2_with fail
                          generalize hoc : #[Value.int .i64 kind, Value.int .i64 dev, Value.int .i64 sec, Value.int .i64 on, Value.slice aod d.length capd, Value.slice aop ops.length capp] = oc
                          have HOC : Hid (∀ wx : World, wx.heap[wr.heap.size]? = some (.cells oc 36 (0, 0)) → wx.cell? ⟨wr.heap.size, 1, none⟩ = some (.int .i64 dev) ∧ wx.cell? ⟨wr.heap.size, 2, none⟩ = some (.int .i64 sec) ∧ wx.cell? ⟨wr.heap.size, 3, none⟩ = some (.int .i64 on) ∧ wx.cell? ⟨wr.heap.size, 4, none⟩ = some (.slice aod d.length capd) ∧ wx.cell? ⟨wr.heap.size, 5, none⟩ = some (.slice aop ops.length capp)) := fun wx hx => opC_cells (kind := kind) (by rw [hx, ← hoc]; rfl)
                          obtain ⟨wo, hwo⟩ : ∃ wo, wo = wr.alloc (.cells oc 36) := ⟨_, rfl⟩
                          have HWO : Hid (Below wr.heap.size wr wo) := by rw [hwo]; exact HAL.out _
                          have HOB : Hid (wo.heap[wr.heap.size]? = some (.cells oc 36 (0, 0))) := by rw [hwo]; exact heap_alloc_new wr _
                          have HSZ : Hid (wo.heap.size = wr.heap.size + 1) := by rw [hwo]; show _ = _; simp
                          rw [← hwo]
                          have OBX : Hid (¬ F wr.heap.size) := fun hx => by have := (HAT.out.one.f _ hx).2; omega
                          have TW := hide (HAT.out.below HWO.out)
                          obtain ⟨OB, hOB⟩ : ∃ OB, OB = wr.heap.size := ⟨_, rfl⟩
                          rw [← hOB] at HOC HOB OBX HSZ
                          rw [← hOB]
                          have HOBE := hide hOB
                          clear hoc hwo hOB
                          have HCALL := hide (bbad_any TW.out.one.k (k0 : Int) sec ob)
                          refine HCALL.out.mono ?_
                          rintro e w3 ⟨x, rfl, -, hk3, ht3⟩
                          have HEND : Hid (Ap w w3 b gd (ApS k0 (j + 1))) := by
                            exact ⟨_, _, N, TW.out.turn hk3 ht3, fun i hi hne => (HP.out.1 i hi hne).bb hne _ _ _, (HP.out.2.1.bb _ _ _ _).mono (by omega), by have := HP.out.2.2; omega⟩
                          clear hk3 ht3 HCALL hob HOC HOB OBX TW HAT HP
                          go_wp2
                          go_roundg m
                          case measure => omega
                          case rel => exact ⟨j + 1, by omega, by go_num, HEND.out⟩
                        · have kb9 : (kind == 9) = false := by simpa using hk9
                          clear hk9
                          by_cases hk10 : kind = 10
                          · have kb10 : (kind == 10) = true := by simp [hk10]
                            clear hk10
                            go_wp2_with fail
                            generalize hoc : #[Value.int .i64 kind, Value.int .i64 dev, Value.int .i64 sec, Value.int .i64 on, Value.slice aod d.length capd, Value.slice aop ops.length capp] = oc
                            have HOC : Hid (∀ wx : World, wx.heap[wr.heap.size]? = some (.cells oc 36 (0, 0)) → wx.cell? ⟨wr.heap.size, 1, none⟩ = some (.int .i64 dev) ∧ wx.cell? ⟨wr.heap.size, 2, none⟩ = some (.int .i64 sec) ∧ wx.cell? ⟨wr.heap.size, 3, none⟩ = some (.int .i64 on) ∧ wx.cell? ⟨wr.heap.size, 4, none⟩ = some (.slice aod d.length capd) ∧ wx.cell? ⟨wr.heap.size, 5, none⟩ = some (.slice aop ops.length capp)) := fun wx hx => opC_cells (kind := kind) (by rw [hx, ← hoc]; rfl)
                            obtain ⟨wo, hwo⟩ : ∃ wo, wo = wr.alloc (.cells oc 36) := ⟨_, rfl⟩
                            have HWO : Hid (Below wr.heap.size wr wo) := by rw [hwo]; exact HAL.out _
                            have HOB : Hid (wo.heap[wr.heap.size]? = some (.cells oc 36 (0, 0))) := by rw [hwo]; exact heap_alloc_new wr _
                            have HSZ : Hid (wo.heap.size = wr.heap.size + 1) := by rw [hwo]; show _ = _; simp
                            rw [← hwo]
                            have OBX : Hid (¬ F wr.heap.size) := fun hx => by have := (HAT.out.one.f _ hx).2; omega
                            have TW := hide (HAT.out.below HWO.out)
                            obtain ⟨OB, hOB⟩ : ∃ OB, OB = wr.heap.size := ⟨_, rfl⟩
                            rw [← hOB] at HOC HOB OBX HSZ
                            rw [← hOB]
                            have HOBE := hide hOB
                            clear hoc hwo hOB
                            have HCP := hide (copy_any d (.slice aod d.length capd) wo (HDW.out.below TW.out.one.bel))
                            refine HCP.out.mono ?_
                            rintro e w4 ⟨u, rfl, hu, hbc⟩
                            have htw2 := TW.out.below hbc
                            have HCALL := hide (bfill_any htw2.one.k (k0 : Int) u d hu.bytes HDL.out (fun k hk hf => by have h1 := (hu.lt k hk).1; have h2 := (TW.out.one.f k hf).2; omega))
                            have HTW2 := hide htw2
                            obtain ⟨au, cu, rfl⟩ := hu.form
                            clear htw2 hu hbc HCP
                            go_wp2_with fail
                            refine HCALL.out.mono ?_
                            rintro e w3 ⟨x, rfl, -, hk3, ht3⟩
                            have HEND : Hid (Ap w w3 b gd (ApS k0 (j + 1))) := by
                              exact ⟨_, _, N, HTW2.out.turn hk3 ht3, fun i hi hne => (HP.out.1 i hi hne).bf hne _ _, (HP.out.2.1.bf _ _ _).mono (by omega), by have := HP.out.2.2; omega⟩
                            clear hk3 ht3 HCALL HTW2 HOC HOB OBX TW HAT HP
                            go_wp2
                            go_roundg m
                            case measure => omega
                            case rel => exact ⟨j + 1, by omega, by go_num, HEND.out⟩
                          · have kb10 : (kind == 10) = false := by simpa using hk10
                            clear hk10
                            go_wp2
                            go_roundg m
                            case measure => omega
                            case rel => exact ⟨j + 1, by omega, by go_num, (HAP.out.below (HAL.out _)).mono (fun D N h => ⟨h.1, h.2.1.mono (by omega), by have := h.2.2; omega⟩)⟩
              | zero =>
                have hend : ¬ (j : Int) < (l.length : Int) := by omega
                have HJ100 : Hid (j ≤ 100) := by have := HL.out; show _ ≤ _; omega
                clear hj hap
                go_wp2_with fail
                go_loopg [107] 3 (fun gk i wr => ∃ q, q + gk = 3 ∧ i = .int .i64 (q : Int) ∧ Ap w wr b gd (ApS k0 j))
                case atStart => exact ⟨0, by omega, rfl, HAP.out⟩
                case round =>
                  clear HAP
                  obtain ⟨q, hq, rfl, hap⟩ := hrel
                  have HAP := hide hap
                  obtain ⟨F, D, N, hat, hsec, hwl, hN⟩ := hap
                  cases gk with
                  | succ m =>
                    have hlt : (q : Int) < 3 := by omega
                    have hjj : (q : Int) + 1 < 5 := by omega
                    have HCALL := hide (bread_any hat.one.k (hwl.mono (by have := HJ100.out; omega)) (q : Int) 1 (by unfold I64; omega))
                    by_cases e : q = k0
                    · have hne : ((q : Int) != (k0 : Int)) = false := by simp [e]
                      clear hat hsec hwl hN e
                      go_wp2_with fail
                      refine HCALL.out.mono ?_
                      rintro e w3 ⟨u, x, rfl, -, hu, hb3, hform⟩
                      have HB3 := hide hb3
                      obtain ⟨au, cu, rfl⟩ := hu.form
                      clear hu hb3 HCALL
                      rcases hform with rfl | ⟨g, rfl⟩
                      · go_wp2
                        go_roundg m
                        case measure => omega
                        case rel => exact ⟨q + 1, by omega, by go_num, HAP.out.below HB3.out⟩
                      · go_wp2
                        go_roundg m
                        case measure => omega
                        case rel => exact ⟨q + 1, by omega, by go_num, HAP.out.below HB3.out⟩
                    · have hne : ((q : Int) != (k0 : Int)) = true := by simp; omega
                      have hr := (hsec q (by omega) e).read (q := ctA N) rfl rfl
                      rw [show sevSec.top = sev7 from rfl] at hr
                      have HR := hide hr
                      have HBY := hide hat
                      clear hat hsec hwl hN e hr
                      go_wp2_with fail
                      refine HCALL.out.mono ?_
                      rintro e w3 ⟨u, x, rfl, hx, hu, hb3, -⟩
                      rw [HR.out.1] at hx
                      obtain rfl := hx.zero
                      rw [HR.out.2] at hu
                      have HSM := hide (same_same sev7 u (.slice (some ⟨gd, 0, none⟩) 128 128) w3 hu.bytes (HBY.out.below hb3).bytes)
                      have HB3 := hide hb3
                      obtain ⟨au, cu, rfl⟩ := hu.form
                      clear hu hb3 HCALL hx HR HBY
                      go_wp2_with (go_at_call 17; refine HSM.out.mono ?_; rintro e w' ⟨rfl, hww⟩; obtain rfl : w3 = w' := hww.symm)
                      go_roundg m
                      case measure => omega
                      case rel => exact ⟨q + 1, by omega, by go_num, HAP.out.below HB3.out⟩
                  | zero =>
                    have hend2 : ¬ (q : Int) < 3 := by omega
                    have HAT := hide hat
                    have HCALL := hide (bcrash_any hat.one.k (hwl.mono (by have := HJ100.out; omega)) (.slice none 0 0) [] ⟨none, 0, 0, 0, rfl, by simp, by simp, by simp, by simp, by simp, by simp, by simp⟩ (fun k hk => by simp [Value.ownBlock] at hk))
                    have HP := hide hsec
                    clear hat hsec hwl hN hq
                    go_wp2_with fail
                    refine HCALL.out.mono ?_
                    rintro e w3 ⟨rfl, hk3, ht3⟩
                    have HAC : Hid (Ap w w3 b gd (ApC k0)) := ⟨_, _, N, HAT.out.turn hk3 ht3, fun i hi hne => (HP.out i hi hne).crash, WlB.crash⟩
                    clear hk3 ht3 HCALL HAT HP HAP
                    go_wp2_with fail
                    go_loopg [132] 3 (fun gk i wr => ∃ q, q + gk = 3 ∧ i = .int .i64 (q : Int) ∧ Ap w wr b gd (ApC k0))
                    case atStart => exact ⟨0, by omega, rfl, HAC.out⟩
                    case round =>
                      clear HAC
                      obtain ⟨q, hq, rfl, hap⟩ := hrel
                      have HAP := hide hap
                      obtain ⟨F, D, N, hat, hsec, hwl⟩ := hap
                      cases gk with
                      | succ m =>
                        have hlt : (q : Int) < 3 := by omega
                        have hjj : (q : Int) + 1 < 5 := by omega
                        have HCALL := hide (bread_any hat.one.k (hwl.mono (by omega)) (q : Int) 1 (by unfold I64; omega))
                        by_cases e : q = k0
                        · have hne : ((q : Int) != (k0 : Int)) = false := by simp [e]
                          clear hat hsec hwl e
                          go_wp2_with fail
                          refine HCALL.out.mono ?_
                          rintro e w3 ⟨u, x, rfl, -, hu, hb3, hform⟩
                          have HB3 := hide hb3
                          obtain ⟨au, cu, rfl⟩ := hu.form
                          clear hu hb3 HCALL
                          rcases hform with rfl | ⟨g, rfl⟩
                          · go_wp2
                            go_roundg m
                            case measure => omega
                            case rel => exact ⟨q + 1, by omega, by go_num, HAP.out.below HB3.out⟩
                          · go_wp2
                            go_roundg m
                            case measure => omega
                            case rel => exact ⟨q + 1, by omega, by go_num, HAP.out.below HB3.out⟩
                        · have hne : ((q : Int) != (k0 : Int)) = true := by simp; omega
                          have hr := (hsec q (by omega) e).read (q := ctA N) rfl rfl
                          rw [show zeroSec.top = zeros from rfl] at hr
                          have HR := hide hr
                          clear hat hsec hwl e hr
                          go_wp2_with fail
                          refine HCALL.out.mono ?_
                          rintro e w3 ⟨u, x, rfl, hx, hu, hb3, -⟩
                          rw [HR.out.1] at hx
                          obtain rfl := hx.zero
                          rw [HR.out.2] at hu
                          obtain ⟨w4, hr4, hm4, hb4, hs4⟩ := made w3
                          have HSM := hide (same_same zeros u (.slice (some ⟨w3.heap.size, 0, none⟩) 128 128) w4 (hu.below hb4).bytes (bytes_of_con zeros_con hm4))
                          have HB3 := hide (hb3.trans (hb4.mono hb3.size))
                          obtain ⟨au, cu, rfl⟩ := hu.form
                          clear hu hb3 HCALL hx HR hm4 hb4 hs4
                          go_wp2_with (first | ((with_reducible refine wpList_make rfl rfl hr4 ?_ ?_ ?_); rfl; rfl) | (go_at_call 17; refine HSM.out.mono ?_; rintro e w' ⟨rfl, hww⟩; obtain rfl : w4 = w' := hww.symm))
                          go_roundg m
                          case measure => omega
                          case rel => exact ⟨q + 1, by omega, by go_num, HAP.out.below HB3.out⟩
                      | zero =>
                        have hend3 : ¬ (q : Int) < 3 := by omega
                        have HBO := hide HAP.out.bel
                        have HA := hide (awake_any wr)
                        clear hat hsec hwl hq
                        go_wp2_with (go_at_call 7; refine HA.out.mono ?_; rintro e w' ⟨rfl, hb⟩; have HBB := hide (HBO.out.trans (hb.mono HBO.out.size)); clear hb)
                        go_ret
                        exact ⟨rfl, HBB.out⟩
end Go.Proofs.Ytliboiajhhnajaa
