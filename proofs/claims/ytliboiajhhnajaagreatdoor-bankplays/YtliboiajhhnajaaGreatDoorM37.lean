import Derived.Test.YtliboiajhhnajaaGreatDoorM34
/- The statements' step, Arm. -/
namespace Go.Proofs.YtliboiajhhnajaaGreatDoor
open Go.RowKit Go.Extern

set_option maxRecDepth 100000 in
set_option maxHeartbeats 4000000 in
theorem step7_any {w0 w : World} {a b j : Nat} (h : Sta w0 w a b j) (hj : j ≤ 150) (hL : Laid w0) (dev sec n : Int) (hsec : I64 sec) (hn : I64 n) (aod : Option Addr) (dn capd : Nat) (aop : Option Addr) (pn capp : Nat) (d : List Nat) (hd : Bytes w0 (.slice aod dn capd) d) (hdl : d.length ≤ 1000) (ps : List Int) (hps : Ints w0 (.slice aop pn capp) ps) (hpl : ps.length ≤ 300) :
    Calls Tryz.prog 8 #[.pointer (some ⟨a, 0, none⟩), .pointer (some ⟨b, 0, none⟩), opV 7 dev sec n aod dn capd aop pn capp] w (StepR w0 a b j) := by
  obtain ⟨Fa, Fb, D, E, q, r, h, hse, hpw, hwl, hsq, hsr⟩ := h
  have e0 : opC 7 dev sec n aod dn capd aop pn capp = #[.int .i64 7, .int .i64 dev, .int .i64 sec, .int .i64 n, .slice aod dn capd, .slice aop pn capp] := rfl
  have HSE := hide hse
  have HPW := hide hpw
  have HWL := hide hwl
  have HSQ := hide hsq
  have HSR := hide hsr
  have HJ := hide hj
  have HLD := hide hL
  have HD := hide hd
  have HDL := hide hdl
  have HPS := hide hps
  have HPL := hide hpl
  have HSEC := hide hsec
  have HNN := hide hn
  have HAL : Hid (Below w.heap.size w (w.alloc (.cells (opC 7 dev sec n aod dn capd aop pn capp) 31))) := (Below.refl _ _).alloc (Nat.le_refl _) _
  have HOB0 : Hid ((w.alloc (.cells (opC 7 dev sec n aod dn capd aop pn capp) 31)).heap[w.heap.size]? = some (.cells (opC 7 dev sec n aod dn capd aop pn capp) 31 (0, 0))) := heap_alloc_new w _
  have OBA0 : Hid (¬ Fa w.heap.size) := fun hx => by have := (h.x.f _ hx).2; omega
  have OBB0 : Hid (¬ Fb w.heap.size) := fun hx => by have := (h.yf _ hx).2; omega
  have H1 := hide (h.below HAL.out)
  clear h hse hpw hwl hsq hsr hj hL hd hdl hps hpl hsec hn
  unfold opV
  go_enter Tryz.func8, Tryz.ntmps8
  go_wp2_with fail
  rw [← e0]
  obtain ⟨wo, hwo⟩ : ∃ wo, wo = w.alloc (.cells (opC 7 dev sec n aod dn capd aop pn capp) 31) := ⟨_, rfl⟩
  rw [← hwo] at HAL HOB0 H1
  rw [← hwo]
  obtain ⟨OB, hOB⟩ : ∃ OB, OB = w.heap.size := ⟨_, rfl⟩
  rw [← hOB] at HOB0 OBA0 OBB0
  rw [← hOB]
  clear hwo hOB
  have HCP := hide (copy_any d (.slice aod dn capd) wo (HD.out.below H1.out.x.bel))
  refine HCP.out.mono ?_
  rintro e w1 ⟨u, rfl, hu, hbc⟩
  have H2 := hide (H1.out.below hbc)
  have HOB : Hid (w1.heap[OB]? = some (.cells (opC 7 dev sec n aod dn capd aop pn capp) 31 (0, 0))) := by show _ = _; rw [hbc.block _ (heap_lt HOB0.out)]; exact HOB0.out
  have HU := hide hu
  have HUF : Hid (∀ k, u.ownBlock = some k → ¬ Fa k ∧ ¬ Fb k ∧ k < w1.heap.size) := fun k hk => ⟨fun hx => by have h1 := (hu.lt k hk).1; have := (H1.out.x.f k hx).2; omega, fun hx => by have h1 := (hu.lt k hk).1; have := (H1.out.yf k hx).2; omega, (hu.lt k hk).2⟩
  have HSZ : Hid (OB < w1.heap.size) := heap_lt HOB.out
  have k0 : w1.cell? ⟨OB, 0, none⟩ = some (.int .i64 7) := by rw [cell_of_row w1 OB _ _ _ _ HOB.out]; rfl
  obtain ⟨aou, capu, rfl⟩ := hu.form
  clear hu hbc HCP H1 HOB0 HAL e0
  have k3 : w1.cell? ⟨OB, 3, none⟩ = some (.int .i64 n) := (opC_cells HOB.out).2.2.1
  obtain ⟨v, G, hy⟩ := H2.out.y
  have c1 := hy.c1
  have f1 := hy.frozen 1
  obtain ⟨mx, hmx⟩ : ∃ mx, mx = max n (-1) := ⟨_, rfl⟩
  have hmx' : max n (-1) = mx := hmx.symm
  have hy2 : RBk (w1.setCell ⟨b, 1, none⟩ (.int .i64 mx)) (ext Fb w1 (w1.setCell ⟨b, 1, none⟩ (.int .i64 mx))) b E { r with left := mx } := ⟨_, _, (hy.setLeft mx).mono (fun _ hk => .inl hk)⟩
  have ht : Turn Fb w1 (w1.setCell ⟨b, 1, none⟩ (.int .i64 mx)) := set_turn (F := Fb) _ _ _ hy.inB
  have H3 := hide (H2.out.ref hy2 ht)
  have j3 : (w1.setCell ⟨b, 1, none⟩ (.int .i64 mx)).cell? ⟨OB, 3, none⟩ = some (.int .i64 n) := by rw [World.cell?_of_block (w := w1) (ht.block OB (heap_lt HOB.out) OBB0.out)]; exact k3
  have HARM := hide (arm_any H3.out.x.k n)
  have HMX := hide hmx
  obtain ⟨w2, hw2⟩ : ∃ w2, w2 = w1.setCell ⟨b, 1, none⟩ (.int .i64 mx) := ⟨_, rfl⟩
  clear hy hy2 ht hmx
  go_wp2_with fail
  refine HARM.out.mono ?_
  rintro e w3 ⟨rfl, hk3, ht3⟩
  have HEND : Hid (Sta w0 w3 a b (j + 1)) := by
    refine ⟨_, _, _, _, _, _, H3.out.prog (hk3.mono (fun _ hk => .inl hk)) ht3, HSE.out, ⟨HPW.out.1, HPW.out.2.1, ?_⟩, HWL.out.mono (by omega), ⟨HNN.out, HSQ.out.2.1, by have := HSQ.out.2.2; simp only; omega⟩, ⟨?_, HSR.out.2.1, by have := HSR.out.2.2; simp only; omega⟩⟩
    · simp only
      have := HMX.out
      by_cases hn0 : n < -1
      · exact .inr ⟨by omega, by omega⟩
      · exact .inl (by omega)
    · have := HMX.out
      have h2 := HNN.out
      unfold I64 at *
      simp only
      omega
  clear hk3 ht3 HARM hw2
  go_wp2
  go_ret
  exact ⟨rfl, HEND.out⟩
end Go.Proofs.YtliboiajhhnajaaGreatDoor

/- The statements' step, Crash. -/
namespace Go.Proofs.YtliboiajhhnajaaGreatDoor
open Go.RowKit Go.Extern

set_option maxRecDepth 100000 in
set_option maxHeartbeats 4000000 in
theorem step8_any {w0 w : World} {a b j : Nat} (h : Sta w0 w a b j) (hj : j ≤ 150) (hL : Laid w0) (dev sec n : Int) (hsec : I64 sec) (hn : I64 n) (aod : Option Addr) (dn capd : Nat) (aop : Option Addr) (pn capp : Nat) (d : List Nat) (hd : Bytes w0 (.slice aod dn capd) d) (hdl : d.length ≤ 1000) (ps : List Int) (hps : Ints w0 (.slice aop pn capp) ps) (hpl : ps.length ≤ 300) :
    Calls Tryz.prog 8 #[.pointer (some ⟨a, 0, none⟩), .pointer (some ⟨b, 0, none⟩), opV 8 dev sec n aod dn capd aop pn capp] w (StepR w0 a b j) := by
  obtain ⟨Fa, Fb, D, E, q, r, h, hse, hpw, hwl, hsq, hsr⟩ := h
  have e0 : opC 8 dev sec n aod dn capd aop pn capp = #[.int .i64 8, .int .i64 dev, .int .i64 sec, .int .i64 n, .slice aod dn capd, .slice aop pn capp] := rfl
  have HSE := hide hse
  have HPW := hide hpw
  have HWL := hide hwl
  have HSQ := hide hsq
  have HSR := hide hsr
  have HJ := hide hj
  have HLD := hide hL
  have HD := hide hd
  have HDL := hide hdl
  have HPS := hide hps
  have HPL := hide hpl
  have HSEC := hide hsec
  have HNN := hide hn
  have HAL : Hid (Below w.heap.size w (w.alloc (.cells (opC 8 dev sec n aod dn capd aop pn capp) 31))) := (Below.refl _ _).alloc (Nat.le_refl _) _
  have HOB0 : Hid ((w.alloc (.cells (opC 8 dev sec n aod dn capd aop pn capp) 31)).heap[w.heap.size]? = some (.cells (opC 8 dev sec n aod dn capd aop pn capp) 31 (0, 0))) := heap_alloc_new w _
  have OBA0 : Hid (¬ Fa w.heap.size) := fun hx => by have := (h.x.f _ hx).2; omega
  have OBB0 : Hid (¬ Fb w.heap.size) := fun hx => by have := (h.yf _ hx).2; omega
  have H1 := hide (h.below HAL.out)
  clear h hse hpw hwl hsq hsr hj hL hd hdl hps hpl hsec hn
  unfold opV
  go_enter Tryz.func8, Tryz.ntmps8
  go_wp2_with fail
  rw [← e0]
  obtain ⟨wo, hwo⟩ : ∃ wo, wo = w.alloc (.cells (opC 8 dev sec n aod dn capd aop pn capp) 31) := ⟨_, rfl⟩
  rw [← hwo] at HAL HOB0 H1
  rw [← hwo]
  obtain ⟨OB, hOB⟩ : ∃ OB, OB = w.heap.size := ⟨_, rfl⟩
  rw [← hOB] at HOB0 OBA0 OBB0
  rw [← hOB]
  clear hwo hOB
  have HCP := hide (copy_any d (.slice aod dn capd) wo (HD.out.below H1.out.x.bel))
  refine HCP.out.mono ?_
  rintro e w1 ⟨u, rfl, hu, hbc⟩
  have H2 := hide (H1.out.below hbc)
  have HOB : Hid (w1.heap[OB]? = some (.cells (opC 8 dev sec n aod dn capd aop pn capp) 31 (0, 0))) := by show _ = _; rw [hbc.block _ (heap_lt HOB0.out)]; exact HOB0.out
  have HU := hide hu
  have HUF : Hid (∀ k, u.ownBlock = some k → ¬ Fa k ∧ ¬ Fb k ∧ k < w1.heap.size) := fun k hk => ⟨fun hx => by have h1 := (hu.lt k hk).1; have := (H1.out.x.f k hx).2; omega, fun hx => by have h1 := (hu.lt k hk).1; have := (H1.out.yf k hx).2; omega, (hu.lt k hk).2⟩
  have HSZ : Hid (OB < w1.heap.size) := heap_lt HOB.out
  have k0 : w1.cell? ⟨OB, 0, none⟩ = some (.int .i64 8) := by rw [cell_of_row w1 OB _ _ _ _ HOB.out]; rfl
  obtain ⟨aou, capu, rfl⟩ := hu.form
  clear hu hbc HCP H1 HOB0 HAL e0
  have k5 : w1.cell? ⟨OB, 5, none⟩ = some (.slice aop pn capp) := (opC_cells HOB.out).2.2.2.2
  have HRF := hide (rbcrash_any H2.out.y (Sl.SmB HSE.out H2.out.x.k.smB) (Sl.WlB HSE.out (HWL.out.mono (by have := HJ.out; omega))) (.slice aop pn capp) ps (HPS.out.below H2.out.x.bel) (fun hp k hk => by
    have h1 := HPS.out.block hp k hk
    exact ⟨fun hf => by have := (H2.out.yf k hf).1; omega, Nat.lt_of_lt_of_le h1 H2.out.x.bel.size⟩) (by have := HPL.out; omega))
  go_wp2_with fail
  refine HRF.out.mono ?_
  rintro e w2 ⟨rfl, hk2, ht2⟩
  have h3 := H2.out.ref hk2 ht2
  have HOB2 : Hid (w2.heap[OB]? = some (.cells (opC 8 dev sec n aod dn capd aop pn capp) 31 (0, 0))) := by show _ = _; rw [ht2.block _ (heap_lt HOB.out) OBB0.out]; exact HOB.out
  have j5 := (opC_cells HOB2.out).2.2.2.2
  have j5' : (w2.alloc (.cells #[] 3)).cell? ⟨OB, 5, none⟩ = some (.slice aop pn capp) := by rw [((Below.refl w2.heap.size w2).alloc (Nat.le_refl _) _).cell (cell_lt j5)]; exact j5
  obtain ⟨v3, w3, hr3, hi3, hb3, hn3, ao3, n3, c3, rfl⟩ := append_picks2 w2 (.slice aop pn capp) ps (HPS.out.below h3.x.bel) (by have := HPL.out; omega)
  have h4 := h3.below hb3
  have HPF := hide (bcrash_any h4.x.k (HWL.out.mono (by have := HJ.out; omega)) (.slice ao3 n3 c3) ps hi3 (fun k hk => ⟨fun hf => by have := (hn3 k hk).1; have := (h3.x.f k hf).2; omega, (hn3 k hk).2⟩))
  have H4 := hide h4
  clear hk2 ht2 h3 h4 hi3 hb3 hn3 HRF k0 k5
  go_wp2_with (first | ((with_reducible refine wpList_appendI rfl rfl hr3 ?_ ?_ ?_ ?_); rfl; rfl; rfl))
  refine HPF.out.mono ?_
  rintro e w4 ⟨rfl, hk4, ht4⟩
  have HEND : Hid (Sta w0 w4 a b (j + 1)) := ⟨_, _, _, _, _, _, H4.out.prog hk4 ht4, Sl.crD D E ps HSE.out, ⟨rfl, HPW.out.2.1, .inl rfl⟩, WlB.crD0 _ _, ⟨by unfold I64; simp, HSQ.out.2.1, by have := HSQ.out.2.2; simp only; omega⟩, ⟨by unfold I64; simp, HSR.out.2.1, by have := HSR.out.2.2; simp only; omega⟩⟩
  clear hk4 ht4 HPF
  go_wp2
  go_ret
  exact ⟨rfl, HEND.out⟩
end Go.Proofs.YtliboiajhhnajaaGreatDoor

/- The statements' step, Bad. -/
namespace Go.Proofs.YtliboiajhhnajaaGreatDoor
open Go.RowKit Go.Extern

set_option maxRecDepth 100000 in
set_option maxHeartbeats 4000000 in
theorem step9_any {w0 w : World} {a b j : Nat} (h : Sta w0 w a b j) (hj : j ≤ 150) (hL : Laid w0) (dev sec n : Int) (hsec : I64 sec) (hn : I64 n) (aod : Option Addr) (dn capd : Nat) (aop : Option Addr) (pn capp : Nat) (d : List Nat) (hd : Bytes w0 (.slice aod dn capd) d) (hdl : d.length ≤ 1000) (ps : List Int) (hps : Ints w0 (.slice aop pn capp) ps) (hpl : ps.length ≤ 300) :
    Calls Tryz.prog 8 #[.pointer (some ⟨a, 0, none⟩), .pointer (some ⟨b, 0, none⟩), opV 9 dev sec n aod dn capd aop pn capp] w (StepR w0 a b j) := by
  obtain ⟨Fa, Fb, D, E, q, r, h, hse, hpw, hwl, hsq, hsr⟩ := h
  have e0 : opC 9 dev sec n aod dn capd aop pn capp = #[.int .i64 9, .int .i64 dev, .int .i64 sec, .int .i64 n, .slice aod dn capd, .slice aop pn capp] := rfl
  have HSE := hide hse
  have HPW := hide hpw
  have HWL := hide hwl
  have HSQ := hide hsq
  have HSR := hide hsr
  have HJ := hide hj
  have HLD := hide hL
  have HD := hide hd
  have HDL := hide hdl
  have HPS := hide hps
  have HPL := hide hpl
  have HSEC := hide hsec
  have HNN := hide hn
  have HAL : Hid (Below w.heap.size w (w.alloc (.cells (opC 9 dev sec n aod dn capd aop pn capp) 31))) := (Below.refl _ _).alloc (Nat.le_refl _) _
  have HOB0 : Hid ((w.alloc (.cells (opC 9 dev sec n aod dn capd aop pn capp) 31)).heap[w.heap.size]? = some (.cells (opC 9 dev sec n aod dn capd aop pn capp) 31 (0, 0))) := heap_alloc_new w _
  have OBA0 : Hid (¬ Fa w.heap.size) := fun hx => by have := (h.x.f _ hx).2; omega
  have OBB0 : Hid (¬ Fb w.heap.size) := fun hx => by have := (h.yf _ hx).2; omega
  have H1 := hide (h.below HAL.out)
  clear h hse hpw hwl hsq hsr hj hL hd hdl hps hpl hsec hn
  unfold opV
  go_enter Tryz.func8, Tryz.ntmps8
  go_wp2_with fail
  rw [← e0]
  obtain ⟨wo, hwo⟩ : ∃ wo, wo = w.alloc (.cells (opC 9 dev sec n aod dn capd aop pn capp) 31) := ⟨_, rfl⟩
  rw [← hwo] at HAL HOB0 H1
  rw [← hwo]
  obtain ⟨OB, hOB⟩ : ∃ OB, OB = w.heap.size := ⟨_, rfl⟩
  rw [← hOB] at HOB0 OBA0 OBB0
  rw [← hOB]
  clear hwo hOB
  have HCP := hide (copy_any d (.slice aod dn capd) wo (HD.out.below H1.out.x.bel))
  refine HCP.out.mono ?_
  rintro e w1 ⟨u, rfl, hu, hbc⟩
  have H2 := hide (H1.out.below hbc)
  have HOB : Hid (w1.heap[OB]? = some (.cells (opC 9 dev sec n aod dn capd aop pn capp) 31 (0, 0))) := by show _ = _; rw [hbc.block _ (heap_lt HOB0.out)]; exact HOB0.out
  have HU := hide hu
  have HUF : Hid (∀ k, u.ownBlock = some k → ¬ Fa k ∧ ¬ Fb k ∧ k < w1.heap.size) := fun k hk => ⟨fun hx => by have h1 := (hu.lt k hk).1; have := (H1.out.x.f k hx).2; omega, fun hx => by have h1 := (hu.lt k hk).1; have := (H1.out.yf k hx).2; omega, (hu.lt k hk).2⟩
  have HSZ : Hid (OB < w1.heap.size) := heap_lt HOB.out
  have k0 : w1.cell? ⟨OB, 0, none⟩ = some (.int .i64 9) := by rw [cell_of_row w1 OB _ _ _ _ HOB.out]; rfl
  obtain ⟨aou, capu, rfl⟩ := hu.form
  clear hu hbc HCP H1 HOB0 HAL e0
  obtain ⟨ob, hob⟩ : ∃ ob, decide ((0 : Int) < n) = ob := ⟨_, rfl⟩
  go_wp2_with fail
  have hdr : Below w1.heap.size w1 w1.drew := (Below.refl _ _).drew
  have H3 := hide (H2.out.below hdr)
  refine wp_region_held_drew (S := fun wx => wx.heap[OB]? = some (.cells (opC 9 dev sec n aod dn capd aop pn capp) 31 (0, 0))) (by kernel_rfl) HOB.out (fun hS => ?_)
  refine take_run 0 (some 182) (.pointer (some ⟨a, 0, none⟩)) rfl rfl rfl (by kernel_rfl) (by kernel_rfl) (by kernel_rfl) (fun _ _ _ h => h) (fun wx hx => exec_move rfl rfl) hS ?_
  simp only [Act.put, List.setIfInBounds_toArray, List.set_cons_zero, List.set_cons_succ]
  refine take_run 1 (some 183) (.pointer (some ⟨OB, 1, none⟩)) rfl rfl rfl (by kernel_rfl) (by kernel_rfl) (by kernel_rfl) (fun _ _ _ h => h) (fun wx hx => exec_field rfl (opField1 _ wx) rfl) hS ?_
  simp only [Act.put, List.setIfInBounds_toArray, List.set_cons_zero, List.set_cons_succ]
  refine take_run 2 (some 184) (.int .i64 dev) rfl rfl rfl (by kernel_rfl) (by kernel_rfl) (by kernel_rfl) (fun _ _ _ h => h) (fun wx hx => exec_load rfl (load_int (opC_cells hx).1) rfl) hS ?_
  simp only [Act.put, List.setIfInBounds_toArray, List.set_cons_zero, List.set_cons_succ]
  refine take_run 3 (some 185) (.pointer (some ⟨OB, 2, none⟩)) rfl rfl rfl (by kernel_rfl) (by kernel_rfl) (by kernel_rfl) (fun _ _ _ h => h) (fun wx hx => exec_field rfl (opField2 _ wx) rfl) hS ?_
  simp only [Act.put, List.setIfInBounds_toArray, List.set_cons_zero, List.set_cons_succ]
  refine take_run 4 (some 186) (.int .i64 sec) rfl rfl rfl (by kernel_rfl) (by kernel_rfl) (by kernel_rfl) (fun _ _ _ h => h) (fun wx hx => exec_load rfl (load_int (opC_cells hx).2.1) rfl) hS ?_
  simp only [Act.put, List.setIfInBounds_toArray, List.set_cons_zero, List.set_cons_succ]
  refine take_run 5 (some 187) (.pointer (some ⟨OB, 3, none⟩)) rfl rfl rfl (by kernel_rfl) (by kernel_rfl) (by kernel_rfl) (fun _ _ _ h => h) (fun wx hx => exec_field rfl (opField3 _ wx) rfl) hS ?_
  simp only [Act.put, List.setIfInBounds_toArray, List.set_cons_zero, List.set_cons_succ]
  refine take_run 6 (some 188) (.int .i64 n) rfl rfl rfl (by kernel_rfl) (by kernel_rfl) (by kernel_rfl) (fun _ _ _ h => h) (fun wx hx => exec_load rfl (load_int (opC_cells hx).2.2.1) rfl) hS ?_
  simp only [Act.put, List.setIfInBounds_toArray, List.set_cons_zero, List.set_cons_succ]
  refine take_run 7 (some 189) (.bool ob) rfl rfl rfl (by kernel_rfl) (by kernel_rfl) (by kernel_rfl) (fun _ _ _ h => h) (fun wx hx => exec_gtr0 rfl rfl rfl hob) hS ?_
  simp only [Act.put, List.setIfInBounds_toArray, List.set_cons_zero, List.set_cons_succ]
  refine take_run 9 (some 191) (.pointer (some ⟨b, 0, none⟩)) rfl rfl rfl (by kernel_rfl) (by kernel_rfl) (by kernel_rfl) (fun _ _ _ h => h) (fun wx hx => exec_move rfl rfl) hS ?_
  simp only [Act.put, List.setIfInBounds_toArray, List.set_cons_zero, List.set_cons_succ]
  refine take_run 10 (some 192) (.pointer (some ⟨OB, 1, none⟩)) rfl rfl rfl (by kernel_rfl) (by kernel_rfl) (by kernel_rfl) (fun _ _ _ h => h) (fun wx hx => exec_field rfl (opField1 _ wx) rfl) hS ?_
  simp only [Act.put, List.setIfInBounds_toArray, List.set_cons_zero, List.set_cons_succ]
  refine take_run 11 (some 193) (.int .i64 dev) rfl rfl rfl (by kernel_rfl) (by kernel_rfl) (by kernel_rfl) (fun _ _ _ h => h) (fun wx hx => exec_load rfl (load_int (opC_cells hx).1) rfl) hS ?_
  simp only [Act.put, List.setIfInBounds_toArray, List.set_cons_zero, List.set_cons_succ]
  refine take_run 12 (some 194) (.pointer (some ⟨OB, 2, none⟩)) rfl rfl rfl (by kernel_rfl) (by kernel_rfl) (by kernel_rfl) (fun _ _ _ h => h) (fun wx hx => exec_field rfl (opField2 _ wx) rfl) hS ?_
  simp only [Act.put, List.setIfInBounds_toArray, List.set_cons_zero, List.set_cons_succ]
  refine take_run 13 (some 195) (.int .i64 sec) rfl rfl rfl (by kernel_rfl) (by kernel_rfl) (by kernel_rfl) (fun _ _ _ h => h) (fun wx hx => exec_load rfl (load_int (opC_cells hx).2.1) rfl) hS ?_
  simp only [Act.put, List.setIfInBounds_toArray, List.set_cons_zero, List.set_cons_succ]
  refine take_run 14 (some 196) (.pointer (some ⟨OB, 3, none⟩)) rfl rfl rfl (by kernel_rfl) (by kernel_rfl) (by kernel_rfl) (fun _ _ _ h => h) (fun wx hx => exec_field rfl (opField3 _ wx) rfl) hS ?_
  simp only [Act.put, List.setIfInBounds_toArray, List.set_cons_zero, List.set_cons_succ]
  refine take_run 15 (some 197) (.int .i64 n) rfl rfl rfl (by kernel_rfl) (by kernel_rfl) (by kernel_rfl) (fun _ _ _ h => h) (fun wx hx => exec_load rfl (load_int (opC_cells hx).2.2.1) rfl) hS ?_
  simp only [Act.put, List.setIfInBounds_toArray, List.set_cons_zero, List.set_cons_succ]
  refine take_run 16 (some 198) (.bool ob) rfl rfl rfl (by kernel_rfl) (by kernel_rfl) (by kernel_rfl) (fun _ _ _ h => h) (fun wx hx => exec_gtr0 rfl rfl rfl hob) hS ?_
  simp only [Act.put, List.setIfInBounds_toArray, List.set_cons_zero, List.set_cons_succ]
  refine take_run 18 (some 200) (.pointer (some ⟨OB, 1, none⟩)) rfl rfl rfl (by kernel_rfl) (by kernel_rfl) (by kernel_rfl) (fun _ _ _ h => h) (fun wx hx => exec_field rfl (opField1 _ wx) rfl) hS ?_
  simp only [Act.put, List.setIfInBounds_toArray, List.set_cons_zero, List.set_cons_succ]
  refine take_run 19 (some 201) (.int .i64 dev) rfl rfl rfl (by kernel_rfl) (by kernel_rfl) (by kernel_rfl) (fun _ _ _ h => h) (fun wx hx => exec_load rfl (load_int (opC_cells hx).1) rfl) hS ?_
  simp only [Act.put, List.setIfInBounds_toArray, List.set_cons_zero, List.set_cons_succ]
  refine take_run 20 (some 202) (.pointer (some ⟨OB, 2, none⟩)) rfl rfl rfl (by kernel_rfl) (by kernel_rfl) (by kernel_rfl) (fun _ _ _ h => h) (fun wx hx => exec_field rfl (opField2 _ wx) rfl) hS ?_
  simp only [Act.put, List.setIfInBounds_toArray, List.set_cons_zero, List.set_cons_succ]
  refine take_run 21 (some 203) (.int .i64 sec) rfl rfl rfl (by kernel_rfl) (by kernel_rfl) (by kernel_rfl) (fun _ _ _ h => h) (fun wx hx => exec_load rfl (load_int (opC_cells hx).2.1) rfl) hS ?_
  simp only [Act.put, List.setIfInBounds_toArray, List.set_cons_zero, List.set_cons_succ]
  have HA := hide (bbad_any H3.out.x.k dev sec ob)
  refine only_call 8 (some 190) rfl rfl rfl (by kernel_rfl) (exec_call4 rfl enterBBad rfl rfl rfl rfl rfl) (HA.out.mono ?_)
  rintro e w2 ⟨x, rfl, hx, hk2, ht2⟩
  have hob2 : w2.heap[OB]? = some (.cells (opC 9 dev sec n aod dn capd aop pn capp) 31 (0, 0)) := by rw [ht2.block _ (heap_lt hS) OBA0.out]; exact hS
  refine ⟨_, rfl, hob2, ?_⟩
  simp only [Act.put, List.setIfInBounds_toArray, List.set_cons_zero, List.set_cons_succ]
  have h4 := H3.out.prog hk2 ht2
  have HB := hide (rbbad_any h4.y dev sec ob)
  refine only_call 17 (some 199) rfl rfl rfl (by kernel_rfl) (exec_call4 rfl enterRBBad rfl rfl rfl rfl rfl) (HB.out.mono ?_)
  rintro e w3 ⟨rfl, hk3, ht3⟩
  have hob3 : w3.heap[OB]? = some (.cells (opC 9 dev sec n aod dn capd aop pn capp) 31 (0, 0)) := by rw [ht3.block _ (heap_lt hob2) OBB0.out]; exact hob2
  refine ⟨_, rfl, hob3, ?_⟩
  simp only [Act.put, List.setIfInBounds_toArray, List.set_cons_zero, List.set_cons_succ]
  have h5 := h4.ref hk3 ht3
  have hx3 : FErr w3 x (bbC D q dev sec ob) "bad".toUTF8 dev sec := hx.e.keep (fun k o he ho => by
    have hn := hx.new k he
    rw [ht3.block k (heap_lt ho) (fun hf => by have h1 := (H3.out.yf k hf).2; omega)]; exact ho)
  rw [(Sl.bad (q := q) (r := r) HSE.out dev sec ob).1] at hx3
  have HT := hide (told_any hx3 (HLD.out.below h5.x.bel))
  refine only_call 22 (some 204) rfl rfl rfl (by kernel_rfl) (exec_call5 rfl enterTold rfl rfl rfl rfl rfl rfl) (HT.out.mono ?_)
  rintro e w4 ⟨rfl, hb4⟩
  have hob4 : w4.heap[OB]? = some (.cells (opC 9 dev sec n aod dn capd aop pn capp) 31 (0, 0)) := by rw [hb4.block _ (heap_lt hob3)]; exact hob3
  refine ⟨_, rfl, hob4, ?_⟩
  simp only [Act.put, List.setIfInBounds_toArray, List.set_cons_zero, List.set_cons_succ]
  refine take_run 23 (some 6) (.bool true) rfl rfl rfl (by kernel_rfl) (by kernel_rfl) (by kernel_rfl) (fun _ _ _ h => h) (fun wx hx => exec_assign rfl rfl) hob4 ?_
  simp only [Act.put, List.setIfInBounds_toArray, List.set_cons_zero, List.set_cons_succ]
  refine wpAnyH_done (by kernel_rfl) ?_ _
  have HEND : Hid (Sta w0 w4 a b (j + 1)) := ⟨_, _, _, _, _, _, h5.below hb4, (Sl.bad (q := q) (r := r) HSE.out dev sec ob).2, HPW.out, (HWL.out.bad q dev sec ob).mono (by omega), (HSQ.out).mono (by omega), (HSR.out).mono (by omega)⟩
  clear h5 h4 hk3 ht3 hob3 hob2 hob4 hk2 ht2 hS HA HB HT hx hx3 hb4 hdr H3 H2 HU HUF HOB k0
  go_wp2_with fail
  go_ret
  exact ⟨rfl, HEND.out⟩
end Go.Proofs.YtliboiajhhnajaaGreatDoor
