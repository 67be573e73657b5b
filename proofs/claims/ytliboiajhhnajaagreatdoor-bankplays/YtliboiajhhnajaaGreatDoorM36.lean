import Derived.Test.YtliboiajhhnajaaGreatDoorM34
/- The statements' step, Read. -/
namespace Go.Proofs.YtliboiajhhnajaaGreatDoor
open Go.RowKit Go.Extern

set_option maxRecDepth 100000 in
set_option maxHeartbeats 4000000 in
theorem step4_any {w0 w : World} {a b j : Nat} (h : Sta w0 w a b j) (hj : j ≤ 150) (hL : Laid w0) (dev sec n : Int) (hsec : I64 sec) (hn : I64 n) (aod : Option Addr) (dn capd : Nat) (aop : Option Addr) (pn capp : Nat) (d : List Nat) (hd : Bytes w0 (.slice aod dn capd) d) (hdl : d.length ≤ 1000) (ps : List Int) (hps : Ints w0 (.slice aop pn capp) ps) (hpl : ps.length ≤ 300) :
    Calls Tryz.prog 8 #[.pointer (some ⟨a, 0, none⟩), .pointer (some ⟨b, 0, none⟩), opV 4 dev sec n aod dn capd aop pn capp] w (fun e w' => e = .returned (.bool true) ∧ Below w.heap.size w w') := by
  obtain ⟨Fa, Fb, D, E, q, r, h, hse, hpw, hwl, hsq, hsr⟩ := h
  have e0 : opC 4 dev sec n aod dn capd aop pn capp = #[.int .i64 4, .int .i64 dev, .int .i64 sec, .int .i64 n, .slice aod dn capd, .slice aop pn capp] := rfl
  have HSE := hide hse
  have HPW := hide hpw
  have HWL := hide hwl
  have HSQ := hide hsq
  have HSR := hide hsr
  have HJ := hide hj
  have HLD := hide hL
  have HD := hide hd
  have HDL := hide hdl
  have HPS := hide hps
  have HPL := hide hpl
  have HSEC := hide hsec
  have HNN := hide hn
  have HAL : Hid (Below w.heap.size w (w.alloc (.cells (opC 4 dev sec n aod dn capd aop pn capp) 31))) := (Below.refl _ _).alloc (Nat.le_refl _) _
  have HOB0 : Hid ((w.alloc (.cells (opC 4 dev sec n aod dn capd aop pn capp) 31)).heap[w.heap.size]? = some (.cells (opC 4 dev sec n aod dn capd aop pn capp) 31 (0, 0))) := heap_alloc_new w _
  have OBA0 : Hid (¬ Fa w.heap.size) := fun hx => by have := (h.x.f _ hx).2; omega
  have OBB0 : Hid (¬ Fb w.heap.size) := fun hx => by have := (h.yf _ hx).2; omega
  have H1 := hide (h.below HAL.out)
  clear h hse hpw hwl hsq hsr hj hL hd hdl hps hpl hsec hn
  unfold opV
  go_enter Tryz.func8, Tryz.ntmps8
  go_wp2_with fail
  rw [← e0]
  obtain ⟨wo, hwo⟩ : ∃ wo, wo = w.alloc (.cells (opC 4 dev sec n aod dn capd aop pn capp) 31) := ⟨_, rfl⟩
  rw [← hwo] at HAL HOB0 H1
  rw [← hwo]
  obtain ⟨OB, hOB⟩ : ∃ OB, OB = w.heap.size := ⟨_, rfl⟩
  rw [← hOB] at HOB0 OBA0 OBB0
  rw [← hOB]
  clear hwo hOB
  have HCP := hide (copy_any d (.slice aod dn capd) wo (HD.out.below H1.out.x.bel))
  refine HCP.out.mono ?_
  rintro e w1 ⟨u, rfl, hu, hbc⟩
  have H2 := hide (H1.out.below hbc)
  have HOB : Hid (w1.heap[OB]? = some (.cells (opC 4 dev sec n aod dn capd aop pn capp) 31 (0, 0))) := by show _ = _; rw [hbc.block _ (heap_lt HOB0.out)]; exact HOB0.out
  have HU := hide hu
  have HUF : Hid (∀ k, u.ownBlock = some k → ¬ Fa k ∧ ¬ Fb k ∧ k < w1.heap.size) := fun k hk => ⟨fun hx => by have h1 := (hu.lt k hk).1; have := (H1.out.x.f k hx).2; omega, fun hx => by have h1 := (hu.lt k hk).1; have := (H1.out.yf k hx).2; omega, (hu.lt k hk).2⟩
  have HSZ : Hid (OB < w1.heap.size) := heap_lt HOB.out
  have k0 : w1.cell? ⟨OB, 0, none⟩ = some (.int .i64 4) := by rw [cell_of_row w1 OB _ _ _ _ HOB.out]; rfl
  obtain ⟨aou, capu, rfl⟩ := hu.form
  have HBW : Hid (Below w.heap.size w w1) := HAL.out.trans (hbc.mono HAL.out.size)
  clear hu hbc HCP H1 HOB0 HAL e0
  have k1 : w1.cell? ⟨OB, 1, none⟩ = some (.int .i64 dev) := (opC_cells HOB.out).1
  have k2 : w1.cell? ⟨OB, 2, none⟩ = some (.int .i64 sec) := (opC_cells HOB.out).2.1
  have HEQ := hide (Sl.read HSE.out HPW.out dev sec)
  have HRD := hide (bread_any H2.out.x.k (HWL.out.mono (by have := HJ.out; omega)) dev sec HSEC.out)
  go_wp2_with fail
  refine HRD.out.mono ?_
  rintro e w2 ⟨c, x, rfl, hx, hc, hb2, hform⟩
  have H3 := hide (H2.out.below hb2)
  have HX := hide hx
  have HC := hide hc
  have HB2 := hide (HBW.out.trans (hb2.mono HBW.out.size))
  have HOB2 : Hid (w2.heap[OB]? = some (.cells (opC 4 dev sec n aod dn capd aop pn capp) 31 (0, 0))) := by show _ = _; rw [hb2.block _ (heap_lt HOB.out)]; exact HOB.out
  have m1 : w2.cell? ⟨OB, 1, none⟩ = some (.int .i64 dev) := (opC_cells HOB2.out).1
  have m2 : w2.cell? ⟨OB, 2, none⟩ = some (.int .i64 sec) := (opC_cells HOB2.out).2.1
  have HRR := hide (rbread_any H3.out.y (Sl.WlB HSE.out (HWL.out.mono (by have := HJ.out; omega))) dev sec)
  obtain ⟨aoc, capc, rfl⟩ := hc.form
  have hxf : x = .nilIface ∨ ∃ g, x = .iface 98 (.pointer (some ⟨g, 0, none⟩)) := hform
  clear hx hc hb2 hform k0 k1 k2 HRD
  rcases hxf with rfl | ⟨gx, rfl⟩
  · go_wp2_with fail
    refine HRR.out.mono ?_
    rintro e w3 ⟨c2, rfl, hc2, hb3⟩
    have HB3 := hide (HB2.out.trans (hb3.mono HB2.out.size))
    have hcc : Bytes w3 c2 (brD D q dev sec) := by rw [HEQ.out.2]; exact hc2
    have HSM0 := hide (same_any (brD D q dev sec) (brD D q dev sec) _ c2 w3 (HC.out.below hb3).bytes hcc)
    rw [show decide (brD D q dev sec = brD D q dev sec) = true by simp] at HSM0
    have hx3 := HX.out.below hb3
    rw [HEQ.out.1] at hx3
    have HT := hide (told_any hx3 (HLD.out.below (H3.out.below hb3).x.bel))
    have HOB3 : Hid (w3.heap[OB]? = some (.cells (opC 4 dev sec n aod dn capd aop pn capp) 31 (0, 0))) := by show _ = _; rw [hb3.block _ (heap_lt HOB2.out)]; exact HOB2.out
    have n1 : w3.cell? ⟨OB, 1, none⟩ = some (.int .i64 dev) := (opC_cells HOB3.out).1
    have n2 : w3.cell? ⟨OB, 2, none⟩ = some (.int .i64 sec) := (opC_cells HOB3.out).2.1
    obtain ⟨ao2, cap2, g2, o2, rfl, -⟩ := hc2
    clear hb3 hcc hx3 HRR m1 m2
    generalize brC E r dev sec = bc at *
    generalize (brD E r dev sec).length = bl at *
    generalize (brD D q dev sec).length = bl2 at *
    go_wp2_with fail
    refine HSM0.out.mono ?_
    rintro e w' ⟨rfl, hww⟩
    obtain rfl : w3 = w' := hww.symm
    go_wp2_with fail
    refine HT.out.mono ?_
    rintro e w4 ⟨rfl, hb4⟩
    have HEND := hide (HB3.out.trans (hb4.mono HB3.out.size))
    clear hb4 HT
    go_wp2
    go_ret
    exact ⟨rfl, HEND.out⟩
  · go_wp2_with fail
    refine HRR.out.mono ?_
    rintro e w3 ⟨c2, rfl, hc2, hb3⟩
    have HB3 := hide (HB2.out.trans (hb3.mono HB2.out.size))
    have hcc : Bytes w3 c2 (brD D q dev sec) := by rw [HEQ.out.2]; exact hc2
    have HSM0 := hide (same_any (brD D q dev sec) (brD D q dev sec) _ c2 w3 (HC.out.below hb3).bytes hcc)
    rw [show decide (brD D q dev sec = brD D q dev sec) = true by simp] at HSM0
    have hx3 := HX.out.below hb3
    rw [HEQ.out.1] at hx3
    have HT := hide (told_any hx3 (HLD.out.below (H3.out.below hb3).x.bel))
    have HOB3 : Hid (w3.heap[OB]? = some (.cells (opC 4 dev sec n aod dn capd aop pn capp) 31 (0, 0))) := by show _ = _; rw [hb3.block _ (heap_lt HOB2.out)]; exact HOB2.out
    have n1 : w3.cell? ⟨OB, 1, none⟩ = some (.int .i64 dev) := (opC_cells HOB3.out).1
    have n2 : w3.cell? ⟨OB, 2, none⟩ = some (.int .i64 sec) := (opC_cells HOB3.out).2.1
    obtain ⟨ao2, cap2, g2, o2, rfl, -⟩ := hc2
    clear hb3 hcc hx3 HRR m1 m2
    generalize brC E r dev sec = bc at *
    generalize (brD E r dev sec).length = bl at *
    generalize (brD D q dev sec).length = bl2 at *
    go_wp2_with fail
    refine HSM0.out.mono ?_
    rintro e w' ⟨rfl, hww⟩
    obtain rfl : w3 = w' := hww.symm
    go_wp2_with fail
    refine HT.out.mono ?_
    rintro e w4 ⟨rfl, hb4⟩
    have HEND := hide (HB3.out.trans (hb4.mono HB3.out.size))
    clear hb4 HT
    go_wp2
    go_ret
    exact ⟨rfl, HEND.out⟩
end Go.Proofs.YtliboiajhhnajaaGreatDoor

/- The statements' step, Write. -/
namespace Go.Proofs.YtliboiajhhnajaaGreatDoor
open Go.RowKit Go.Extern

set_option maxRecDepth 100000 in
set_option maxHeartbeats 4000000 in
theorem step5_any {w0 w : World} {a b j : Nat} (h : Sta w0 w a b j) (hj : j ≤ 150) (hL : Laid w0) (dev sec n : Int) (hsec : I64 sec) (hn : I64 n) (aod : Option Addr) (dn capd : Nat) (aop : Option Addr) (pn capp : Nat) (d : List Nat) (hd : Bytes w0 (.slice aod dn capd) d) (hdl : d.length ≤ 1000) (ps : List Int) (hps : Ints w0 (.slice aop pn capp) ps) (hpl : ps.length ≤ 300) :
    Calls Tryz.prog 8 #[.pointer (some ⟨a, 0, none⟩), .pointer (some ⟨b, 0, none⟩), opV 5 dev sec n aod dn capd aop pn capp] w (StepR w0 a b j) := by
  obtain ⟨Fa, Fb, D, E, q, r, h, hse, hpw, hwl, hsq, hsr⟩ := h
  have e0 : opC 5 dev sec n aod dn capd aop pn capp = #[.int .i64 5, .int .i64 dev, .int .i64 sec, .int .i64 n, .slice aod dn capd, .slice aop pn capp] := rfl
  have HSE := hide hse
  have HPW := hide hpw
  have HWL := hide hwl
  have HSQ := hide hsq
  have HSR := hide hsr
  have HJ := hide hj
  have HLD := hide hL
  have HD := hide hd
  have HDL := hide hdl
  have HPS := hide hps
  have HPL := hide hpl
  have HSEC := hide hsec
  have HNN := hide hn
  have HAL : Hid (Below w.heap.size w (w.alloc (.cells (opC 5 dev sec n aod dn capd aop pn capp) 31))) := (Below.refl _ _).alloc (Nat.le_refl _) _
  have HOB0 : Hid ((w.alloc (.cells (opC 5 dev sec n aod dn capd aop pn capp) 31)).heap[w.heap.size]? = some (.cells (opC 5 dev sec n aod dn capd aop pn capp) 31 (0, 0))) := heap_alloc_new w _
  have OBA0 : Hid (¬ Fa w.heap.size) := fun hx => by have := (h.x.f _ hx).2; omega
  have OBB0 : Hid (¬ Fb w.heap.size) := fun hx => by have := (h.yf _ hx).2; omega
  have H1 := hide (h.below HAL.out)
  clear h hse hpw hwl hsq hsr hj hL hd hdl hps hpl hsec hn
  unfold opV
  go_enter Tryz.func8, Tryz.ntmps8
  go_wp2_with fail
  rw [← e0]
  obtain ⟨wo, hwo⟩ : ∃ wo, wo = w.alloc (.cells (opC 5 dev sec n aod dn capd aop pn capp) 31) := ⟨_, rfl⟩
  rw [← hwo] at HAL HOB0 H1
  rw [← hwo]
  obtain ⟨OB, hOB⟩ : ∃ OB, OB = w.heap.size := ⟨_, rfl⟩
  rw [← hOB] at HOB0 OBA0 OBB0
  rw [← hOB]
  clear hwo hOB
  have HCP := hide (copy_any d (.slice aod dn capd) wo (HD.out.below H1.out.x.bel))
  refine HCP.out.mono ?_
  rintro e w1 ⟨u, rfl, hu, hbc⟩
  have H2 := hide (H1.out.below hbc)
  have HOB : Hid (w1.heap[OB]? = some (.cells (opC 5 dev sec n aod dn capd aop pn capp) 31 (0, 0))) := by show _ = _; rw [hbc.block _ (heap_lt HOB0.out)]; exact HOB0.out
  have HU := hide hu
  have HUF : Hid (∀ k, u.ownBlock = some k → ¬ Fa k ∧ ¬ Fb k ∧ k < w1.heap.size) := fun k hk => ⟨fun hx => by have h1 := (hu.lt k hk).1; have := (H1.out.x.f k hx).2; omega, fun hx => by have h1 := (hu.lt k hk).1; have := (H1.out.yf k hx).2; omega, (hu.lt k hk).2⟩
  have HSZ : Hid (OB < w1.heap.size) := heap_lt HOB.out
  have k0 : w1.cell? ⟨OB, 0, none⟩ = some (.int .i64 5) := by rw [cell_of_row w1 OB _ _ _ _ HOB.out]; rfl
  obtain ⟨aou, capu, rfl⟩ := hu.form
  clear hu hbc HCP H1 HOB0 HAL e0
  go_wp2_with fail
  have hdr : Below w1.heap.size w1 w1.drew := (Below.refl _ _).drew
  have H3 := hide (H2.out.below hdr)
  refine wp_region_held_drew (S := fun wx => wx.heap[OB]? = some (.cells (opC 5 dev sec n aod dn capd aop pn capp) 31 (0, 0))) (by kernel_rfl) HOB.out (fun hS => ?_)
  refine take_run 0 (some 118) (.pointer (some ⟨a, 0, none⟩)) rfl rfl rfl (by kernel_rfl) (by kernel_rfl) (by kernel_rfl) (fun _ _ _ h => h) (fun wx hx => exec_move rfl rfl) hS ?_
  simp only [Act.put, List.setIfInBounds_toArray, List.set_cons_zero, List.set_cons_succ]
  refine take_run 1 (some 119) (.pointer (some ⟨OB, 1, none⟩)) rfl rfl rfl (by kernel_rfl) (by kernel_rfl) (by kernel_rfl) (fun _ _ _ h => h) (fun wx hx => exec_field rfl (opField1 _ wx) rfl) hS ?_
  simp only [Act.put, List.setIfInBounds_toArray, List.set_cons_zero, List.set_cons_succ]
  refine take_run 2 (some 120) (.int .i64 dev) rfl rfl rfl (by kernel_rfl) (by kernel_rfl) (by kernel_rfl) (fun _ _ _ h => h) (fun wx hx => exec_load rfl (load_int (opC_cells hx).1) rfl) hS ?_
  simp only [Act.put, List.setIfInBounds_toArray, List.set_cons_zero, List.set_cons_succ]
  refine take_run 3 (some 121) (.pointer (some ⟨OB, 2, none⟩)) rfl rfl rfl (by kernel_rfl) (by kernel_rfl) (by kernel_rfl) (fun _ _ _ h => h) (fun wx hx => exec_field rfl (opField2 _ wx) rfl) hS ?_
  simp only [Act.put, List.setIfInBounds_toArray, List.set_cons_zero, List.set_cons_succ]
  refine take_run 4 (some 122) (.int .i64 sec) rfl rfl rfl (by kernel_rfl) (by kernel_rfl) (by kernel_rfl) (fun _ _ _ h => h) (fun wx hx => exec_load rfl (load_int (opC_cells hx).2.1) rfl) hS ?_
  simp only [Act.put, List.setIfInBounds_toArray, List.set_cons_zero, List.set_cons_succ]
  refine take_run 5 (some 123) (.slice aou d.length capu) rfl rfl rfl (by kernel_rfl) (by kernel_rfl) (by kernel_rfl) (fun _ _ _ h => h) (fun wx hx => exec_move rfl rfl) hS ?_
  simp only [Act.put, List.setIfInBounds_toArray, List.set_cons_zero, List.set_cons_succ]
  refine take_run 7 (some 125) (.pointer (some ⟨b, 0, none⟩)) rfl rfl rfl (by kernel_rfl) (by kernel_rfl) (by kernel_rfl) (fun _ _ _ h => h) (fun wx hx => exec_move rfl rfl) hS ?_
  simp only [Act.put, List.setIfInBounds_toArray, List.set_cons_zero, List.set_cons_succ]
  refine take_run 8 (some 126) (.pointer (some ⟨OB, 1, none⟩)) rfl rfl rfl (by kernel_rfl) (by kernel_rfl) (by kernel_rfl) (fun _ _ _ h => h) (fun wx hx => exec_field rfl (opField1 _ wx) rfl) hS ?_
  simp only [Act.put, List.setIfInBounds_toArray, List.set_cons_zero, List.set_cons_succ]
  refine take_run 9 (some 127) (.int .i64 dev) rfl rfl rfl (by kernel_rfl) (by kernel_rfl) (by kernel_rfl) (fun _ _ _ h => h) (fun wx hx => exec_load rfl (load_int (opC_cells hx).1) rfl) hS ?_
  simp only [Act.put, List.setIfInBounds_toArray, List.set_cons_zero, List.set_cons_succ]
  refine take_run 10 (some 128) (.pointer (some ⟨OB, 2, none⟩)) rfl rfl rfl (by kernel_rfl) (by kernel_rfl) (by kernel_rfl) (fun _ _ _ h => h) (fun wx hx => exec_field rfl (opField2 _ wx) rfl) hS ?_
  simp only [Act.put, List.setIfInBounds_toArray, List.set_cons_zero, List.set_cons_succ]
  refine take_run 11 (some 129) (.int .i64 sec) rfl rfl rfl (by kernel_rfl) (by kernel_rfl) (by kernel_rfl) (fun _ _ _ h => h) (fun wx hx => exec_load rfl (load_int (opC_cells hx).2.1) rfl) hS ?_
  simp only [Act.put, List.setIfInBounds_toArray, List.set_cons_zero, List.set_cons_succ]
  refine take_run 12 (some 130) (.pointer (some ⟨OB, 4, none⟩)) rfl rfl rfl (by kernel_rfl) (by kernel_rfl) (by kernel_rfl) (fun _ _ _ h => h) (fun wx hx => exec_field rfl (opField4 _ wx) rfl) hS ?_
  simp only [Act.put, List.setIfInBounds_toArray, List.set_cons_zero, List.set_cons_succ]
  refine take_run 13 (some 131) (.slice aod dn capd) rfl rfl rfl (by kernel_rfl) (by kernel_rfl) (by kernel_rfl) (fun _ _ _ h => h) (fun wx hx => exec_load rfl (load_bytes (opC_cells hx).2.2.2.1) rfl) hS ?_
  simp only [Act.put, List.setIfInBounds_toArray, List.set_cons_zero, List.set_cons_succ]
  refine take_run 15 (some 133) (.pointer (some ⟨OB, 1, none⟩)) rfl rfl rfl (by kernel_rfl) (by kernel_rfl) (by kernel_rfl) (fun _ _ _ h => h) (fun wx hx => exec_field rfl (opField1 _ wx) rfl) hS ?_
  simp only [Act.put, List.setIfInBounds_toArray, List.set_cons_zero, List.set_cons_succ]
  refine take_run 16 (some 134) (.int .i64 dev) rfl rfl rfl (by kernel_rfl) (by kernel_rfl) (by kernel_rfl) (fun _ _ _ h => h) (fun wx hx => exec_load rfl (load_int (opC_cells hx).1) rfl) hS ?_
  simp only [Act.put, List.setIfInBounds_toArray, List.set_cons_zero, List.set_cons_succ]
  refine take_run 17 (some 135) (.pointer (some ⟨OB, 2, none⟩)) rfl rfl rfl (by kernel_rfl) (by kernel_rfl) (by kernel_rfl) (fun _ _ _ h => h) (fun wx hx => exec_field rfl (opField2 _ wx) rfl) hS ?_
  simp only [Act.put, List.setIfInBounds_toArray, List.set_cons_zero, List.set_cons_succ]
  refine take_run 18 (some 136) (.int .i64 sec) rfl rfl rfl (by kernel_rfl) (by kernel_rfl) (by kernel_rfl) (fun _ _ _ h => h) (fun wx hx => exec_load rfl (load_int (opC_cells hx).2.1) rfl) hS ?_
  simp only [Act.put, List.setIfInBounds_toArray, List.set_cons_zero, List.set_cons_succ]
  have HA := hide (bwrite_any H3.out.x.k (HSQ.out.small (by have := HJ.out; omega)) (HWL.out.mono (by have := HJ.out; omega)) dev sec (.slice aou d.length capu) d (HU.out.below hdr).bytes (fun _ k hk hf => (HUF.out k hk).1 hf))
  refine only_call 6 (some 124) rfl rfl rfl (by kernel_rfl) (exec_call4 rfl enterBWrite rfl rfl rfl rfl rfl) (HA.out.mono ?_)
  rintro e w2 ⟨x, rfl, hx, hk2, ht2⟩
  have hob2 : w2.heap[OB]? = some (.cells (opC 5 dev sec n aod dn capd aop pn capp) 31 (0, 0)) := by rw [ht2.block _ (heap_lt hS) OBA0.out]; exact hS
  refine ⟨_, rfl, hob2, ?_⟩
  simp only [Act.put, List.setIfInBounds_toArray, List.set_cons_zero, List.set_cons_succ]
  have h4 := H3.out.prog hk2 ht2
  have HB := hide (rbwrite_any h4.y (HSR.out.small (by have := HJ.out; omega)) (Sl.WlB HSE.out (HWL.out.mono (by have := HJ.out; omega))) dev sec (.slice aod dn capd) d (HD.out.below h4.x.bel) (fun hp k hk hf => by have h1 := HD.out.block hp k hk; have h2 := (h4.yf k hf).1; omega))
  refine only_call 14 (some 132) rfl rfl rfl (by kernel_rfl) (exec_call4 rfl enterRBWrite rfl rfl rfl rfl rfl) (HB.out.mono ?_)
  rintro e w3 ⟨rfl, hk3, ht3⟩
  have hob3 : w3.heap[OB]? = some (.cells (opC 5 dev sec n aod dn capd aop pn capp) 31 (0, 0)) := by rw [ht3.block _ (heap_lt hob2) OBB0.out]; exact hob2
  refine ⟨_, rfl, hob3, ?_⟩
  simp only [Act.put, List.setIfInBounds_toArray, List.set_cons_zero, List.set_cons_succ]
  have h5 := h4.ref hk3 ht3
  have hx3 : FErr w3 x (bwC D q dev sec d) "write".toUTF8 dev sec := hx.e.keep (fun k o he ho => by
    have hn := hx.new k he
    rw [ht3.block k (heap_lt ho) (fun hf => by have h1 := (H3.out.yf k hf).2; omega)]; exact ho)
  rw [(Sl.bw HSE.out HPW.out dev sec d).1] at hx3
  have HT := hide (told_any hx3 (HLD.out.below h5.x.bel))
  refine only_call 19 (some 137) rfl rfl rfl (by kernel_rfl) (exec_call5 rfl enterTold rfl rfl rfl rfl rfl rfl) (HT.out.mono ?_)
  rintro e w4 ⟨rfl, hb4⟩
  have hob4 : w4.heap[OB]? = some (.cells (opC 5 dev sec n aod dn capd aop pn capp) 31 (0, 0)) := by rw [hb4.block _ (heap_lt hob3)]; exact hob3
  refine ⟨_, rfl, hob4, ?_⟩
  simp only [Act.put, List.setIfInBounds_toArray, List.set_cons_zero, List.set_cons_succ]
  refine take_run 20 (some 6) (.bool true) rfl rfl rfl (by kernel_rfl) (by kernel_rfl) (by kernel_rfl) (fun _ _ _ h => h) (fun wx hx => exec_assign rfl rfl) hob4 ?_
  simp only [Act.put, List.setIfInBounds_toArray, List.set_cons_zero, List.set_cons_succ]
  refine wpAnyH_done (by kernel_rfl) ?_ _
  have HEND : Hid (Sta w0 w4 a b (j + 1)) := ⟨_, _, _, _, _, _, h5.below hb4, (Sl.bw HSE.out HPW.out dev sec d).2.1, (Sl.bw HSE.out HPW.out dev sec d).2.2, (HWL.out.bw q dev sec d).mono (by omega), (HSQ.out.bw (D := D) dev sec d).mono (by omega), (HSR.out.bw (D := E) dev sec d).mono (by omega)⟩
  clear h5 h4 hk3 ht3 hob3 hob2 hob4 hk2 ht2 hS HA HB HT hx hx3 hb4 hdr H3 H2 HU HUF HOB k0
  go_wp2_with fail
  go_ret
  exact ⟨rfl, HEND.out⟩
end Go.Proofs.YtliboiajhhnajaaGreatDoor

/- The statements' step, Flush. -/
namespace Go.Proofs.YtliboiajhhnajaaGreatDoor
open Go.RowKit Go.Extern

set_option maxRecDepth 100000 in
set_option maxHeartbeats 4000000 in
theorem step6_any {w0 w : World} {a b j : Nat} (h : Sta w0 w a b j) (hj : j ≤ 150) (hL : Laid w0) (dev sec n : Int) (hsec : I64 sec) (hn : I64 n) (aod : Option Addr) (dn capd : Nat) (aop : Option Addr) (pn capp : Nat) (d : List Nat) (hd : Bytes w0 (.slice aod dn capd) d) (hdl : d.length ≤ 1000) (ps : List Int) (hps : Ints w0 (.slice aop pn capp) ps) (hpl : ps.length ≤ 300) :
    Calls Tryz.prog 8 #[.pointer (some ⟨a, 0, none⟩), .pointer (some ⟨b, 0, none⟩), opV 6 dev sec n aod dn capd aop pn capp] w (StepR w0 a b j) := by
  obtain ⟨Fa, Fb, D, E, q, r, h, hse, hpw, hwl, hsq, hsr⟩ := h
  have e0 : opC 6 dev sec n aod dn capd aop pn capp = #[.int .i64 6, .int .i64 dev, .int .i64 sec, .int .i64 n, .slice aod dn capd, .slice aop pn capp] := rfl
  have HSE := hide hse
  have HPW := hide hpw
  have HWL := hide hwl
  have HSQ := hide hsq
  have HSR := hide hsr
  have HJ := hide hj
  have HLD := hide hL
  have HD := hide hd
  have HDL := hide hdl
  have HPS := hide hps
  have HPL := hide hpl
  have HSEC := hide hsec
  have HNN := hide hn
  have HAL : Hid (Below w.heap.size w (w.alloc (.cells (opC 6 dev sec n aod dn capd aop pn capp) 31))) := (Below.refl _ _).alloc (Nat.le_refl _) _
  have HOB0 : Hid ((w.alloc (.cells (opC 6 dev sec n aod dn capd aop pn capp) 31)).heap[w.heap.size]? = some (.cells (opC 6 dev sec n aod dn capd aop pn capp) 31 (0, 0))) := heap_alloc_new w _
  have OBA0 : Hid (¬ Fa w.heap.size) := fun hx => by have := (h.x.f _ hx).2; omega
  have OBB0 : Hid (¬ Fb w.heap.size) := fun hx => by have := (h.yf _ hx).2; omega
  have H1 := hide (h.below HAL.out)
  clear h hse hpw hwl hsq hsr hj hL hd hdl hps hpl hsec hn
  unfold opV
  go_enter Tryz.func8, Tryz.ntmps8
  go_wp2_with fail
  rw [← e0]
  obtain ⟨wo, hwo⟩ : ∃ wo, wo = w.alloc (.cells (opC 6 dev sec n aod dn capd aop pn capp) 31) := ⟨_, rfl⟩
  rw [← hwo] at HAL HOB0 H1
  rw [← hwo]
  obtain ⟨OB, hOB⟩ : ∃ OB, OB = w.heap.size := ⟨_, rfl⟩
  rw [← hOB] at HOB0 OBA0 OBB0
  rw [← hOB]
  clear hwo hOB
  have HCP := hide (copy_any d (.slice aod dn capd) wo (HD.out.below H1.out.x.bel))
  refine HCP.out.mono ?_
  rintro e w1 ⟨u, rfl, hu, hbc⟩
  have H2 := hide (H1.out.below hbc)
  have HOB : Hid (w1.heap[OB]? = some (.cells (opC 6 dev sec n aod dn capd aop pn capp) 31 (0, 0))) := by show _ = _; rw [hbc.block _ (heap_lt HOB0.out)]; exact HOB0.out
  have HU := hide hu
  have HUF : Hid (∀ k, u.ownBlock = some k → ¬ Fa k ∧ ¬ Fb k ∧ k < w1.heap.size) := fun k hk => ⟨fun hx => by have h1 := (hu.lt k hk).1; have := (H1.out.x.f k hx).2; omega, fun hx => by have h1 := (hu.lt k hk).1; have := (H1.out.yf k hx).2; omega, (hu.lt k hk).2⟩
  have HSZ : Hid (OB < w1.heap.size) := heap_lt HOB.out
  have k0 : w1.cell? ⟨OB, 0, none⟩ = some (.int .i64 6) := by rw [cell_of_row w1 OB _ _ _ _ HOB.out]; rfl
  obtain ⟨aou, capu, rfl⟩ := hu.form
  clear hu hbc HCP H1 HOB0 HAL e0
  have k5 : w1.cell? ⟨OB, 5, none⟩ = some (.slice aop pn capp) := (opC_cells HOB.out).2.2.2.2
  have HEQ := hide (Sl.flAll ps HSE.out HPW.out)
  have HRF := hide (rbflush_any H2.out.y HSR.out (Sl.WlB HSE.out (HWL.out.mono (by have := HJ.out; omega))) (Sl.SmB HSE.out H2.out.x.k.smB) (.slice aop pn capp) ps (HPS.out.below H2.out.x.bel) (fun hp k hk => by
    have h1 := HPS.out.block hp k hk
    exact ⟨fun hf => by have := (H2.out.yf k hf).1; omega, Nat.lt_of_lt_of_le h1 H2.out.x.bel.size⟩) (by have := HJ.out; have := HPL.out; omega) (by have := HPL.out; omega))
  go_wp2_with fail
  refine HRF.out.mono ?_
  rintro e w2 ⟨rfl, hk2, ht2⟩
  have h3 := H2.out.ref hk2 ht2
  have HOB2 : Hid (w2.heap[OB]? = some (.cells (opC 6 dev sec n aod dn capd aop pn capp) 31 (0, 0))) := by show _ = _; rw [ht2.block _ (heap_lt HOB.out) OBB0.out]; exact HOB.out
  have j5 := (opC_cells HOB2.out).2.2.2.2
  have j5' : (w2.alloc (.cells #[] 3)).cell? ⟨OB, 5, none⟩ = some (.slice aop pn capp) := by rw [((Below.refl w2.heap.size w2).alloc (Nat.le_refl _) _).cell (cell_lt j5)]; exact j5
  obtain ⟨v3, w3, hr3, hi3, hb3, hn3, ao3, n3, c3, rfl⟩ := append_picks2 w2 (.slice aop pn capp) ps (HPS.out.below h3.x.bel) (by have := HPL.out; omega)
  have h4 := h3.below hb3
  have HPF := hide (bflush_any h4.x.k HSQ.out (HWL.out.mono (by have := HJ.out; omega)) (.slice ao3 n3 c3) ps hi3 (fun _ k hk hf => by have := (hn3 k hk).1; have := (h3.x.f k hf).2; omega) (by have := HJ.out; have := HPL.out; omega) (by have := HPL.out; omega))
  have H4 := hide h4
  have HOBS : Hid (OB < w2.heap.size) := heap_lt HOB2.out
  clear hk2 ht2 h3 h4 hi3 hb3 hn3 HRF k0 k5
  obtain ⟨rc, ra, hrr⟩ : ∃ rc ra, (flAll E r ps).2.2 = (rc, ra) := ⟨_, _, rfl⟩
  have hrr1 : (flAll E r ps).2.2.1 = rc := by rw [hrr]
  have hrr2 : (flAll E r ps).2.2.2 = ra := by rw [hrr]
  have HRR := hide hrr
  rw [hrr1, hrr2]
  clear hrr1 hrr2 hrr
  go_wp2_with (first | ((with_reducible refine wpList_appendI rfl rfl hr3 ?_ ?_ ?_ ?_); rfl; rfl; rfl))
  refine HPF.out.mono ?_
  rintro e w4 ⟨x, rfl, hx, hk4, ht4⟩
  have h5 := H4.out.prog hk4 ht4
  have hx4 := hx.e
  rw [HEQ.out.2.2, HRR.out] at hx4
  have HT := hide (told_any hx4 (HLD.out.below h5.x.bel))
  have HEND0 : Hid (Sta w0 w4 a b (j + 1)) := ⟨_, _, _, _, _, _, h5, HEQ.out.1, HEQ.out.2.1, (HWL.out.flAll ps).mono (by omega), (HSQ.out.flAll (D := D) ps).mono (by have := HPL.out; omega), (HSR.out.flAll (D := E) ps).mono (by have := HPL.out; omega)⟩
  clear hx hk4 ht4 h5 HPF
  have hxf : x = .nilIface ∨ ∃ g, x = .iface 98 (.pointer (some ⟨g, 0, none⟩)) := by
    by_cases h0 : rc = 0
    · exact .inl (by rw [h0] at hx4; exact hx4.zero)
    · obtain ⟨bb, hbb, -⟩ := hx4.at_ h0
      exact .inr ⟨bb, hbb⟩
  clear hx4
  rcases hxf with rfl | ⟨gx, rfl⟩
  · go_wp2_with fail
    refine HT.out.mono ?_
    rintro e w5 ⟨rfl, hb5⟩
    have HEND := hide (HEND0.out.below hb5)
    clear hb5 HT
    go_wp2
    go_ret
    exact ⟨rfl, HEND.out⟩
  · go_wp2_with fail
    refine HT.out.mono ?_
    rintro e w5 ⟨rfl, hb5⟩
    have HEND := hide (HEND0.out.below hb5)
    clear hb5 HT
    go_wp2
    go_ret
    exact ⟨rfl, HEND.out⟩
end Go.Proofs.YtliboiajhhnajaaGreatDoor
