import Derived.Test.YtliboiajhhnajaaGreatDoorM34
/- The statements' step, Add. -/
namespace Go.Proofs.YtliboiajhhnajaaGreatDoor
open Go.RowKit Go.Extern

set_option maxRecDepth 100000 in
set_option maxHeartbeats 4000000 in
theorem step1_any {w0 w : World} {a b j : Nat} (h : Sta w0 w a b j) (hj : j ≤ 150) (hL : Laid w0) (dev sec n : Int) (hsec : I64 sec) (hn : I64 n) (aod : Option Addr) (dn capd : Nat) (aop : Option Addr) (pn capp : Nat) (d : List Nat) (hd : Bytes w0 (.slice aod dn capd) d) (hdl : d.length ≤ 1000) (ps : List Int) (hps : Ints w0 (.slice aop pn capp) ps) (hpl : ps.length ≤ 300) :
    Calls Tryz.prog 8 #[.pointer (some ⟨a, 0, none⟩), .pointer (some ⟨b, 0, none⟩), opV 1 dev sec n aod dn capd aop pn capp] w (StepR w0 a b j) := by
  obtain ⟨Fa, Fb, D, E, q, r, h, hse, hpw, hwl, hsq, hsr⟩ := h
  have e0 : opC 1 dev sec n aod dn capd aop pn capp = #[.int .i64 1, .int .i64 dev, .int .i64 sec, .int .i64 n, .slice aod dn capd, .slice aop pn capp] := rfl
  have HSE := hide hse
  have HPW := hide hpw
  have HWL := hide hwl
  have HSQ := hide hsq
  have HSR := hide hsr
  have HJ := hide hj
  have HLD := hide hL
  have HD := hide hd
  have HDL := hide hdl
  have HPS := hide hps
  have HPL := hide hpl
  have HSEC := hide hsec
  have HNN := hide hn
  have HAL : Hid (Below w.heap.size w (w.alloc (.cells (opC 1 dev sec n aod dn capd aop pn capp) 31))) := (Below.refl _ _).alloc (Nat.le_refl _) _
  have HOB0 : Hid ((w.alloc (.cells (opC 1 dev sec n aod dn capd aop pn capp) 31)).heap[w.heap.size]? = some (.cells (opC 1 dev sec n aod dn capd aop pn capp) 31 (0, 0))) := heap_alloc_new w _
  have OBA0 : Hid (¬ Fa w.heap.size) := fun hx => by have := (h.x.f _ hx).2; omega
  have OBB0 : Hid (¬ Fb w.heap.size) := fun hx => by have := (h.yf _ hx).2; omega
  have H1 := hide (h.below HAL.out)
  clear h hse hpw hwl hsq hsr hj hL hd hdl hps hpl hsec hn
  unfold opV
  go_enter Tryz.func8, Tryz.ntmps8
  go_wp2_with fail
  rw [← e0]
  obtain ⟨wo, hwo⟩ : ∃ wo, wo = w.alloc (.cells (opC 1 dev sec n aod dn capd aop pn capp) 31) := ⟨_, rfl⟩
  rw [← hwo] at HAL HOB0 H1
  rw [← hwo]
  obtain ⟨OB, hOB⟩ : ∃ OB, OB = w.heap.size := ⟨_, rfl⟩
  rw [← hOB] at HOB0 OBA0 OBB0
  rw [← hOB]
  clear hwo hOB
  have HCP := hide (copy_any d (.slice aod dn capd) wo (HD.out.below H1.out.x.bel))
  refine HCP.out.mono ?_
  rintro e w1 ⟨u, rfl, hu, hbc⟩
  have H2 := hide (H1.out.below hbc)
  have HOB : Hid (w1.heap[OB]? = some (.cells (opC 1 dev sec n aod dn capd aop pn capp) 31 (0, 0))) := by show _ = _; rw [hbc.block _ (heap_lt HOB0.out)]; exact HOB0.out
  have HU := hide hu
  have HUF : Hid (∀ k, u.ownBlock = some k → ¬ Fa k ∧ ¬ Fb k ∧ k < w1.heap.size) := fun k hk => ⟨fun hx => by have h1 := (hu.lt k hk).1; have := (H1.out.x.f k hx).2; omega, fun hx => by have h1 := (hu.lt k hk).1; have := (H1.out.yf k hx).2; omega, (hu.lt k hk).2⟩
  have HSZ : Hid (OB < w1.heap.size) := heap_lt HOB.out
  have k0 : w1.cell? ⟨OB, 0, none⟩ = some (.int .i64 1) := by rw [cell_of_row w1 OB _ _ _ _ HOB.out]; rfl
  obtain ⟨aou, capu, rfl⟩ := hu.form
  clear hu hbc HCP H1 HOB0 HAL e0
  obtain ⟨aoE, capE, rb0⟩ := H2.out.y.c0
  have k3 : w1.cell? ⟨OB, 3, none⟩ = some (.int .i64 n) := (opC_cells HOB.out).2.2.1
  have HLEN := hide (Sl.len HSE.out)
  have HAC := hide (Sl.addC HSE.out HPW.out n)
  have HADD := hide (badd_any H2.out.x.k n)
  have hE8 : (E.length : Int) < 100 := by have := H2.out.x.k.few; have := HLEN.out; omega
  go_wp2_with fail
  refine HADD.out.mono ?_
  rintro e w2 ⟨ht2, he⟩
  have HOB2 : Hid (w2.heap[OB]? = some (.cells (opC 1 dev sec n aod dn capd aop pn capp) 31 (0, 0))) := by show _ = _; rw [ht2.block _ (heap_lt HOB.out) OBA0.out]; exact HOB.out
  have j3 : w2.cell? ⟨OB, 3, none⟩ = some (.int .i64 n) := (opC_cells HOB2.out).2.2.1
  rcases he with ⟨hc, x, rfl, hx, hk2⟩ | ⟨hc, rfl, p, hk2⟩
  · have h3 := H2.out.prog hk2 ht2
    have H3 := hide h3
    have HX := hide hx
    have HRA := hide (rbadd_any h3.y n)
    obtain ⟨fb, hfx, -⟩ := hx.at_ hc
    have HC := hide hc
    have HYF := hide H2.out.yf
    subst hfx
    clear hk2 ht2 h3 hx hc HADD k0 k3 rb0
    go_wp2_with fail
    refine HRA.out.mono ?_
    rintro e w3 ⟨ht3, he⟩
    have he2 : e = .returned (.tuple #[.int .i64 0, .int .i64 (addC E r n)]) ∧ RBk w3 (ext Fb w2 w3) b E r := by
      rcases he with ⟨-, h⟩ | ⟨h0, -⟩
      · exact h
      · exact absurd (HAC.out.trans h0) HC.out
    obtain ⟨rfl, hk3⟩ := he2
    have h4 := H3.out.ref hk3 ht3
    have hx3 : FErr w3 _ (addC D q n) "add".toUTF8 (D.length : Int) 0 := HX.out.e.keep (fun k o he ho => by
      have hn := HX.out.new k he
      rw [ht3.block k (heap_lt ho) (fun hf => by have h1 := (HYF.out k hf).2; omega)]; exact ho)
    rw [HAC.out, HLEN.out] at hx3
    have HT := hide (told_any hx3 (HLD.out.below h4.x.bel))
    have H4 := hide h4
    clear hk3 ht3 he h4 hx3 HRA
    generalize addC E r n = ac at *
    go_wp2_with fail
    refine HT.out.mono ?_
    rintro e w4 ⟨rfl, hb4⟩
    have HEND : Hid (Sta w0 w4 a b (j + 1)) := ⟨_, _, _, _, _, _, H4.out.below hb4, HSE.out, HPW.out, HWL.out.mono (by omega), HSQ.out.mono (by omega), HSR.out.mono (by omega)⟩
    clear hb4 HT
    go_wp2
    go_ret
    exact ⟨rfl, HEND.out⟩
  · have h3 := H2.out.prog hk2 ht2
    have H3 := hide h3
    have HRA := hide (rbadd_any h3.y n)
    have HC := hide hc
    rw [HLEN.out]
    clear hk2 ht2 h3 hc HADD k0 k3 rb0
    go_wp2_with fail
    refine HRA.out.mono ?_
    rintro e w3 ⟨ht3, he⟩
    have he2 : e = .returned (.tuple #[.int .i64 (E.length : Int), .int .i64 0]) ∧ ∃ p, RBk w3 (ext Fb w2 w3) b (E ++ [some (p, fresh n.toNat)]) r := by
      rcases he with ⟨h0, -⟩ | ⟨-, h⟩
      · exact absurd (HAC.out.symm.trans HC.out) h0
      · exact h
    obtain ⟨rfl, p', hk3⟩ := he2
    have h4 := H3.out.ref hk3 ht3
    have HT := hide (told_any (w := w3) (op := "add".toUTF8) (d := (E.length : Int)) (p := 0) FErr.nil0 (HLD.out.below h4.x.bel))
    have H4 := hide h4
    have eqn : ((E.length : Int) == (E.length : Int)) = true := by simp
    clear hk3 ht3 he h4 HRA
    go_wp2_with fail
    refine HT.out.mono ?_
    rintro e w4 ⟨rfl, hb4⟩
    have HEND : Hid (Sta w0 w4 a b (j + 1)) := ⟨_, _, _, _, _, _, H4.out.below hb4, Sl.add HSE.out p p' _, HPW.out, (HWL.out.add _ _).mono (by omega), HSQ.out.mono (by omega), HSR.out.mono (by omega)⟩
    clear hb4 HT
    go_wp2
    go_ret
    exact ⟨rfl, HEND.out⟩
end Go.Proofs.YtliboiajhhnajaaGreatDoor

/- The statements' step, Grow. -/
namespace Go.Proofs.YtliboiajhhnajaaGreatDoor
open Go.RowKit Go.Extern

set_option maxRecDepth 100000 in
set_option maxHeartbeats 4000000 in
theorem step2_any {w0 w : World} {a b j : Nat} (h : Sta w0 w a b j) (hj : j ≤ 150) (hL : Laid w0) (dev sec n : Int) (hsec : I64 sec) (hn : I64 n) (aod : Option Addr) (dn capd : Nat) (aop : Option Addr) (pn capp : Nat) (d : List Nat) (hd : Bytes w0 (.slice aod dn capd) d) (hdl : d.length ≤ 1000) (ps : List Int) (hps : Ints w0 (.slice aop pn capp) ps) (hpl : ps.length ≤ 300) :
    Calls Tryz.prog 8 #[.pointer (some ⟨a, 0, none⟩), .pointer (some ⟨b, 0, none⟩), opV 2 dev sec n aod dn capd aop pn capp] w (StepR w0 a b j) := by
  obtain ⟨Fa, Fb, D, E, q, r, h, hse, hpw, hwl, hsq, hsr⟩ := h
  have e0 : opC 2 dev sec n aod dn capd aop pn capp = #[.int .i64 2, .int .i64 dev, .int .i64 sec, .int .i64 n, .slice aod dn capd, .slice aop pn capp] := rfl
  have HSE := hide hse
  have HPW := hide hpw
  have HWL := hide hwl
  have HSQ := hide hsq
  have HSR := hide hsr
  have HJ := hide hj
  have HLD := hide hL
  have HD := hide hd
  have HDL := hide hdl
  have HPS := hide hps
  have HPL := hide hpl
  have HSEC := hide hsec
  have HNN := hide hn
  have HAL : Hid (Below w.heap.size w (w.alloc (.cells (opC 2 dev sec n aod dn capd aop pn capp) 31))) := (Below.refl _ _).alloc (Nat.le_refl _) _
  have HOB0 : Hid ((w.alloc (.cells (opC 2 dev sec n aod dn capd aop pn capp) 31)).heap[w.heap.size]? = some (.cells (opC 2 dev sec n aod dn capd aop pn capp) 31 (0, 0))) := heap_alloc_new w _
  have OBA0 : Hid (¬ Fa w.heap.size) := fun hx => by have := (h.x.f _ hx).2; omega
  have OBB0 : Hid (¬ Fb w.heap.size) := fun hx => by have := (h.yf _ hx).2; omega
  have H1 := hide (h.below HAL.out)
  clear h hse hpw hwl hsq hsr hj hL hd hdl hps hpl hsec hn
  unfold opV
  go_enter Tryz.func8, Tryz.ntmps8
  go_wp2_with fail
  rw [← e0]
  obtain ⟨wo, hwo⟩ : ∃ wo, wo = w.alloc (.cells (opC 2 dev sec n aod dn capd aop pn capp) 31) := ⟨_, rfl⟩
  rw [← hwo] at HAL HOB0 H1
  rw [← hwo]
  obtain ⟨OB, hOB⟩ : ∃ OB, OB = w.heap.size := ⟨_, rfl⟩
  rw [← hOB] at HOB0 OBA0 OBB0
  rw [← hOB]
  clear hwo hOB
  have HCP := hide (copy_any d (.slice aod dn capd) wo (HD.out.below H1.out.x.bel))
  refine HCP.out.mono ?_
  rintro e w1 ⟨u, rfl, hu, hbc⟩
  have H2 := hide (H1.out.below hbc)
  have HOB : Hid (w1.heap[OB]? = some (.cells (opC 2 dev sec n aod dn capd aop pn capp) 31 (0, 0))) := by show _ = _; rw [hbc.block _ (heap_lt HOB0.out)]; exact HOB0.out
  have HU := hide hu
  have HUF : Hid (∀ k, u.ownBlock = some k → ¬ Fa k ∧ ¬ Fb k ∧ k < w1.heap.size) := fun k hk => ⟨fun hx => by have h1 := (hu.lt k hk).1; have := (H1.out.x.f k hx).2; omega, fun hx => by have h1 := (hu.lt k hk).1; have := (H1.out.yf k hx).2; omega, (hu.lt k hk).2⟩
  have HSZ : Hid (OB < w1.heap.size) := heap_lt HOB.out
  have k0 : w1.cell? ⟨OB, 0, none⟩ = some (.int .i64 2) := by rw [cell_of_row w1 OB _ _ _ _ HOB.out]; rfl
  obtain ⟨aou, capu, rfl⟩ := hu.form
  clear hu hbc HCP H1 HOB0 HAL e0
  go_wp2_with fail
  have hdr : Below w1.heap.size w1 w1.drew := (Below.refl _ _).drew
  have H3 := hide (H2.out.below hdr)
  refine wp_region_held_drew (S := fun wx => wx.heap[OB]? = some (.cells (opC 2 dev sec n aod dn capd aop pn capp) 31 (0, 0))) (by kernel_rfl) HOB.out (fun hS => ?_)
  refine take_run 0 (some 56) (.pointer (some ⟨a, 0, none⟩)) rfl rfl rfl (by kernel_rfl) (by kernel_rfl) (by kernel_rfl) (fun _ _ _ h => h) (fun wx hx => exec_move rfl rfl) hS ?_
  simp only [Act.put, List.setIfInBounds_toArray, List.set_cons_zero, List.set_cons_succ]
  refine take_run 1 (some 57) (.pointer (some ⟨OB, 1, none⟩)) rfl rfl rfl (by kernel_rfl) (by kernel_rfl) (by kernel_rfl) (fun _ _ _ h => h) (fun wx hx => exec_field rfl (opField1 _ wx) rfl) hS ?_
  simp only [Act.put, List.setIfInBounds_toArray, List.set_cons_zero, List.set_cons_succ]
  refine take_run 2 (some 58) (.int .i64 dev) rfl rfl rfl (by kernel_rfl) (by kernel_rfl) (by kernel_rfl) (fun _ _ _ h => h) (fun wx hx => exec_load rfl (load_int (opC_cells hx).1) rfl) hS ?_
  simp only [Act.put, List.setIfInBounds_toArray, List.set_cons_zero, List.set_cons_succ]
  refine take_run 3 (some 59) (.pointer (some ⟨OB, 3, none⟩)) rfl rfl rfl (by kernel_rfl) (by kernel_rfl) (by kernel_rfl) (fun _ _ _ h => h) (fun wx hx => exec_field rfl (opField3 _ wx) rfl) hS ?_
  simp only [Act.put, List.setIfInBounds_toArray, List.set_cons_zero, List.set_cons_succ]
  refine take_run 4 (some 60) (.int .i64 n) rfl rfl rfl (by kernel_rfl) (by kernel_rfl) (by kernel_rfl) (fun _ _ _ h => h) (fun wx hx => exec_load rfl (load_int (opC_cells hx).2.2.1) rfl) hS ?_
  simp only [Act.put, List.setIfInBounds_toArray, List.set_cons_zero, List.set_cons_succ]
  refine take_run 6 (some 62) (.pointer (some ⟨b, 0, none⟩)) rfl rfl rfl (by kernel_rfl) (by kernel_rfl) (by kernel_rfl) (fun _ _ _ h => h) (fun wx hx => exec_move rfl rfl) hS ?_
  simp only [Act.put, List.setIfInBounds_toArray, List.set_cons_zero, List.set_cons_succ]
  refine take_run 7 (some 63) (.pointer (some ⟨OB, 1, none⟩)) rfl rfl rfl (by kernel_rfl) (by kernel_rfl) (by kernel_rfl) (fun _ _ _ h => h) (fun wx hx => exec_field rfl (opField1 _ wx) rfl) hS ?_
  simp only [Act.put, List.setIfInBounds_toArray, List.set_cons_zero, List.set_cons_succ]
  refine take_run 8 (some 64) (.int .i64 dev) rfl rfl rfl (by kernel_rfl) (by kernel_rfl) (by kernel_rfl) (fun _ _ _ h => h) (fun wx hx => exec_load rfl (load_int (opC_cells hx).1) rfl) hS ?_
  simp only [Act.put, List.setIfInBounds_toArray, List.set_cons_zero, List.set_cons_succ]
  refine take_run 9 (some 65) (.pointer (some ⟨OB, 3, none⟩)) rfl rfl rfl (by kernel_rfl) (by kernel_rfl) (by kernel_rfl) (fun _ _ _ h => h) (fun wx hx => exec_field rfl (opField3 _ wx) rfl) hS ?_
  simp only [Act.put, List.setIfInBounds_toArray, List.set_cons_zero, List.set_cons_succ]
  refine take_run 10 (some 66) (.int .i64 n) rfl rfl rfl (by kernel_rfl) (by kernel_rfl) (by kernel_rfl) (fun _ _ _ h => h) (fun wx hx => exec_load rfl (load_int (opC_cells hx).2.2.1) rfl) hS ?_
  simp only [Act.put, List.setIfInBounds_toArray, List.set_cons_zero, List.set_cons_succ]
  refine take_run 12 (some 68) (.pointer (some ⟨OB, 1, none⟩)) rfl rfl rfl (by kernel_rfl) (by kernel_rfl) (by kernel_rfl) (fun _ _ _ h => h) (fun wx hx => exec_field rfl (opField1 _ wx) rfl) hS ?_
  simp only [Act.put, List.setIfInBounds_toArray, List.set_cons_zero, List.set_cons_succ]
  refine take_run 13 (some 69) (.int .i64 dev) rfl rfl rfl (by kernel_rfl) (by kernel_rfl) (by kernel_rfl) (fun _ _ _ h => h) (fun wx hx => exec_load rfl (load_int (opC_cells hx).1) rfl) hS ?_
  simp only [Act.put, List.setIfInBounds_toArray, List.set_cons_zero, List.set_cons_succ]
  have HA := hide (bgrow_any H3.out.x.k dev n)
  refine only_call 5 (some 61) rfl rfl rfl (by kernel_rfl) (exec_call3 rfl enterBGrow rfl rfl rfl rfl) (HA.out.mono ?_)
  rintro e w2 ⟨x, rfl, hx, hk2, ht2⟩
  have hob2 : w2.heap[OB]? = some (.cells (opC 2 dev sec n aod dn capd aop pn capp) 31 (0, 0)) := by rw [ht2.block _ (heap_lt hS) OBA0.out]; exact hS
  refine ⟨_, rfl, hob2, ?_⟩
  simp only [Act.put, List.setIfInBounds_toArray, List.set_cons_zero, List.set_cons_succ]
  have h4 := H3.out.prog hk2 ht2
  have HB := hide (rbgrow_any h4.y (Sl.SmB HSE.out H3.out.x.k.smB) dev n)
  refine only_call 11 (some 67) rfl rfl rfl (by kernel_rfl) (exec_call3 rfl enterRBGrow rfl rfl rfl rfl) (HB.out.mono ?_)
  rintro e w3 ⟨rfl, hk3, ht3⟩
  have hob3 : w3.heap[OB]? = some (.cells (opC 2 dev sec n aod dn capd aop pn capp) 31 (0, 0)) := by rw [ht3.block _ (heap_lt hob2) OBB0.out]; exact hob2
  refine ⟨_, rfl, hob3, ?_⟩
  simp only [Act.put, List.setIfInBounds_toArray, List.set_cons_zero, List.set_cons_succ]
  have h5 := h4.ref hk3 ht3
  have hx3 : FErr w3 x (bgC D q dev n) "grow".toUTF8 dev 0 := hx.e.keep (fun k o he ho => by
    have hn := hx.new k he
    rw [ht3.block k (heap_lt ho) (fun hf => by have h1 := (H3.out.yf k hf).2; omega)]; exact ho)
  rw [(Sl.grow HSE.out HPW.out dev n).1] at hx3
  have HT := hide (told_any hx3 (HLD.out.below h5.x.bel))
  refine only_call 14 (some 70) rfl rfl rfl (by kernel_rfl) (exec_call5 rfl enterTold rfl rfl rfl rfl rfl rfl) (HT.out.mono ?_)
  rintro e w4 ⟨rfl, hb4⟩
  have hob4 : w4.heap[OB]? = some (.cells (opC 2 dev sec n aod dn capd aop pn capp) 31 (0, 0)) := by rw [hb4.block _ (heap_lt hob3)]; exact hob3
  refine ⟨_, rfl, hob4, ?_⟩
  simp only [Act.put, List.setIfInBounds_toArray, List.set_cons_zero, List.set_cons_succ]
  refine take_run 15 (some 6) (.bool true) rfl rfl rfl (by kernel_rfl) (by kernel_rfl) (by kernel_rfl) (fun _ _ _ h => h) (fun wx hx => exec_assign rfl rfl) hob4 ?_
  simp only [Act.put, List.setIfInBounds_toArray, List.set_cons_zero, List.set_cons_succ]
  refine wpAnyH_done (by kernel_rfl) ?_ _
  have HEND : Hid (Sta w0 w4 a b (j + 1)) := ⟨_, _, _, _, _, _, h5.below hb4, (Sl.grow HSE.out HPW.out dev n).2, HPW.out, (HWL.out.grow q dev n).mono (by omega), (HSQ.out).mono (by omega), (HSR.out).mono (by omega)⟩
  clear h5 h4 hk3 ht3 hob3 hob2 hob4 hk2 ht2 hS HA HB HT hx hx3 hb4 hdr H3 H2 HU HUF HOB k0
  go_wp2_with fail
  go_ret
  exact ⟨rfl, HEND.out⟩
end Go.Proofs.YtliboiajhhnajaaGreatDoor

/- The statements' step, Detach. -/
namespace Go.Proofs.YtliboiajhhnajaaGreatDoor
open Go.RowKit Go.Extern

set_option maxRecDepth 100000 in
set_option maxHeartbeats 4000000 in
theorem step3_any {w0 w : World} {a b j : Nat} (h : Sta w0 w a b j) (hj : j ≤ 150) (hL : Laid w0) (dev sec n : Int) (hsec : I64 sec) (hn : I64 n) (aod : Option Addr) (dn capd : Nat) (aop : Option Addr) (pn capp : Nat) (d : List Nat) (hd : Bytes w0 (.slice aod dn capd) d) (hdl : d.length ≤ 1000) (ps : List Int) (hps : Ints w0 (.slice aop pn capp) ps) (hpl : ps.length ≤ 300) :
    Calls Tryz.prog 8 #[.pointer (some ⟨a, 0, none⟩), .pointer (some ⟨b, 0, none⟩), opV 3 dev sec n aod dn capd aop pn capp] w (StepR w0 a b j) := by
  obtain ⟨Fa, Fb, D, E, q, r, h, hse, hpw, hwl, hsq, hsr⟩ := h
  have e0 : opC 3 dev sec n aod dn capd aop pn capp = #[.int .i64 3, .int .i64 dev, .int .i64 sec, .int .i64 n, .slice aod dn capd, .slice aop pn capp] := rfl
  have HSE := hide hse
  have HPW := hide hpw
  have HWL := hide hwl
  have HSQ := hide hsq
  have HSR := hide hsr
  have HJ := hide hj
  have HLD := hide hL
  have HD := hide hd
  have HDL := hide hdl
  have HPS := hide hps
  have HPL := hide hpl
  have HSEC := hide hsec
  have HNN := hide hn
  have HAL : Hid (Below w.heap.size w (w.alloc (.cells (opC 3 dev sec n aod dn capd aop pn capp) 31))) := (Below.refl _ _).alloc (Nat.le_refl _) _
  have HOB0 : Hid ((w.alloc (.cells (opC 3 dev sec n aod dn capd aop pn capp) 31)).heap[w.heap.size]? = some (.cells (opC 3 dev sec n aod dn capd aop pn capp) 31 (0, 0))) := heap_alloc_new w _
  have OBA0 : Hid (¬ Fa w.heap.size) := fun hx => by have := (h.x.f _ hx).2; omega
  have OBB0 : Hid (¬ Fb w.heap.size) := fun hx => by have := (h.yf _ hx).2; omega
  have H1 := hide (h.below HAL.out)
  clear h hse hpw hwl hsq hsr hj hL hd hdl hps hpl hsec hn
  unfold opV
  go_enter Tryz.func8, Tryz.ntmps8
  go_wp2_with fail
  rw [← e0]
  obtain ⟨wo, hwo⟩ : ∃ wo, wo = w.alloc (.cells (opC 3 dev sec n aod dn capd aop pn capp) 31) := ⟨_, rfl⟩
  rw [← hwo] at HAL HOB0 H1
  rw [← hwo]
  obtain ⟨OB, hOB⟩ : ∃ OB, OB = w.heap.size := ⟨_, rfl⟩
  rw [← hOB] at HOB0 OBA0 OBB0
  rw [← hOB]
  clear hwo hOB
  have HCP := hide (copy_any d (.slice aod dn capd) wo (HD.out.below H1.out.x.bel))
  refine HCP.out.mono ?_
  rintro e w1 ⟨u, rfl, hu, hbc⟩
  have H2 := hide (H1.out.below hbc)
  have HOB : Hid (w1.heap[OB]? = some (.cells (opC 3 dev sec n aod dn capd aop pn capp) 31 (0, 0))) := by show _ = _; rw [hbc.block _ (heap_lt HOB0.out)]; exact HOB0.out
  have HU := hide hu
  have HUF : Hid (∀ k, u.ownBlock = some k → ¬ Fa k ∧ ¬ Fb k ∧ k < w1.heap.size) := fun k hk => ⟨fun hx => by have h1 := (hu.lt k hk).1; have := (H1.out.x.f k hx).2; omega, fun hx => by have h1 := (hu.lt k hk).1; have := (H1.out.yf k hx).2; omega, (hu.lt k hk).2⟩
  have HSZ : Hid (OB < w1.heap.size) := heap_lt HOB.out
  have k0 : w1.cell? ⟨OB, 0, none⟩ = some (.int .i64 3) := by rw [cell_of_row w1 OB _ _ _ _ HOB.out]; rfl
  obtain ⟨aou, capu, rfl⟩ := hu.form
  clear hu hbc HCP H1 HOB0 HAL e0
  go_wp2_with fail
  have hdr : Below w1.heap.size w1 w1.drew := (Below.refl _ _).drew
  have H3 := hide (H2.out.below hdr)
  refine wp_region_held_drew (S := fun wx => wx.heap[OB]? = some (.cells (opC 3 dev sec n aod dn capd aop pn capp) 31 (0, 0))) (by kernel_rfl) HOB.out (fun hS => ?_)
  refine take_run 0 (some 73) (.pointer (some ⟨a, 0, none⟩)) rfl rfl rfl (by kernel_rfl) (by kernel_rfl) (by kernel_rfl) (fun _ _ _ h => h) (fun wx hx => exec_move rfl rfl) hS ?_
  simp only [Act.put, List.setIfInBounds_toArray, List.set_cons_zero, List.set_cons_succ]
  refine take_run 1 (some 74) (.pointer (some ⟨OB, 1, none⟩)) rfl rfl rfl (by kernel_rfl) (by kernel_rfl) (by kernel_rfl) (fun _ _ _ h => h) (fun wx hx => exec_field rfl (opField1 _ wx) rfl) hS ?_
  simp only [Act.put, List.setIfInBounds_toArray, List.set_cons_zero, List.set_cons_succ]
  refine take_run 2 (some 75) (.int .i64 dev) rfl rfl rfl (by kernel_rfl) (by kernel_rfl) (by kernel_rfl) (fun _ _ _ h => h) (fun wx hx => exec_load rfl (load_int (opC_cells hx).1) rfl) hS ?_
  simp only [Act.put, List.setIfInBounds_toArray, List.set_cons_zero, List.set_cons_succ]
  refine take_run 4 (some 77) (.pointer (some ⟨b, 0, none⟩)) rfl rfl rfl (by kernel_rfl) (by kernel_rfl) (by kernel_rfl) (fun _ _ _ h => h) (fun wx hx => exec_move rfl rfl) hS ?_
  simp only [Act.put, List.setIfInBounds_toArray, List.set_cons_zero, List.set_cons_succ]
  refine take_run 5 (some 78) (.pointer (some ⟨OB, 1, none⟩)) rfl rfl rfl (by kernel_rfl) (by kernel_rfl) (by kernel_rfl) (fun _ _ _ h => h) (fun wx hx => exec_field rfl (opField1 _ wx) rfl) hS ?_
  simp only [Act.put, List.setIfInBounds_toArray, List.set_cons_zero, List.set_cons_succ]
  refine take_run 6 (some 79) (.int .i64 dev) rfl rfl rfl (by kernel_rfl) (by kernel_rfl) (by kernel_rfl) (fun _ _ _ h => h) (fun wx hx => exec_load rfl (load_int (opC_cells hx).1) rfl) hS ?_
  simp only [Act.put, List.setIfInBounds_toArray, List.set_cons_zero, List.set_cons_succ]
  refine take_run 8 (some 81) (.pointer (some ⟨OB, 1, none⟩)) rfl rfl rfl (by kernel_rfl) (by kernel_rfl) (by kernel_rfl) (fun _ _ _ h => h) (fun wx hx => exec_field rfl (opField1 _ wx) rfl) hS ?_
  simp only [Act.put, List.setIfInBounds_toArray, List.set_cons_zero, List.set_cons_succ]
  refine take_run 9 (some 82) (.int .i64 dev) rfl rfl rfl (by kernel_rfl) (by kernel_rfl) (by kernel_rfl) (fun _ _ _ h => h) (fun wx hx => exec_load rfl (load_int (opC_cells hx).1) rfl) hS ?_
  simp only [Act.put, List.setIfInBounds_toArray, List.set_cons_zero, List.set_cons_succ]
  have HA := hide (bdetach_any H3.out.x.k dev)
  refine only_call 3 (some 76) rfl rfl rfl (by kernel_rfl) (exec_call2 rfl enterBDetach rfl rfl rfl) (HA.out.mono ?_)
  rintro e w2 ⟨x, rfl, hx, hk2, ht2⟩
  have hob2 : w2.heap[OB]? = some (.cells (opC 3 dev sec n aod dn capd aop pn capp) 31 (0, 0)) := by rw [ht2.block _ (heap_lt hS) OBA0.out]; exact hS
  refine ⟨_, rfl, hob2, ?_⟩
  simp only [Act.put, List.setIfInBounds_toArray, List.set_cons_zero, List.set_cons_succ]
  have h4 := H3.out.prog hk2 ht2
  have HB := hide (rbdetach_any h4.y dev)
  refine only_call 7 (some 80) rfl rfl rfl (by kernel_rfl) (exec_call2 rfl enterRBDetach rfl rfl rfl) (HB.out.mono ?_)
  rintro e w3 ⟨rfl, hk3, ht3⟩
  have hob3 : w3.heap[OB]? = some (.cells (opC 3 dev sec n aod dn capd aop pn capp) 31 (0, 0)) := by rw [ht3.block _ (heap_lt hob2) OBB0.out]; exact hob2
  refine ⟨_, rfl, hob3, ?_⟩
  simp only [Act.put, List.setIfInBounds_toArray, List.set_cons_zero, List.set_cons_succ]
  have h5 := h4.ref hk3 ht3
  have hx3 : FErr w3 x (lookP D q dev) "detach".toUTF8 dev 0 := hx.e.keep (fun k o he ho => by
    have hn := hx.new k he
    rw [ht3.block k (heap_lt ho) (fun hf => by have h1 := (H3.out.yf k hf).2; omega)]; exact ho)
  rw [Sl.lookP HSE.out HPW.out dev] at hx3
  have HT := hide (told_any hx3 (HLD.out.below h5.x.bel))
  refine only_call 10 (some 83) rfl rfl rfl (by kernel_rfl) (exec_call5 rfl enterTold rfl rfl rfl rfl rfl rfl) (HT.out.mono ?_)
  rintro e w4 ⟨rfl, hb4⟩
  have hob4 : w4.heap[OB]? = some (.cells (opC 3 dev sec n aod dn capd aop pn capp) 31 (0, 0)) := by rw [hb4.block _ (heap_lt hob3)]; exact hob3
  refine ⟨_, rfl, hob4, ?_⟩
  simp only [Act.put, List.setIfInBounds_toArray, List.set_cons_zero, List.set_cons_succ]
  refine take_run 11 (some 6) (.bool true) rfl rfl rfl (by kernel_rfl) (by kernel_rfl) (by kernel_rfl) (fun _ _ _ h => h) (fun wx hx => exec_assign rfl rfl) hob4 ?_
  simp only [Act.put, List.setIfInBounds_toArray, List.set_cons_zero, List.set_cons_succ]
  refine wpAnyH_done (by kernel_rfl) ?_ _
  have HEND : Hid (Sta w0 w4 a b (j + 1)) := ⟨_, _, _, _, _, _, h5.below hb4, Sl.detach HSE.out HPW.out dev, HPW.out, (HWL.out.detach q dev).mono (by omega), (HSQ.out).mono (by omega), (HSR.out).mono (by omega)⟩
  clear h5 h4 hk3 ht3 hob3 hob2 hob4 hk2 ht2 hS HA HB HT hx hx3 hb4 hdr H3 H2 HU HUF HOB k0
  go_wp2_with fail
  go_ret
  exact ⟨rfl, HEND.out⟩
end Go.Proofs.YtliboiajhhnajaaGreatDoor
