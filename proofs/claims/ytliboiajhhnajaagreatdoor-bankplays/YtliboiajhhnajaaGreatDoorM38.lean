import Derived.Test.YtliboiajhhnajaaGreatDoorM34
import Derived.Test.YtliboiajhhnajaaGreatDoorM35
import Derived.Test.YtliboiajhhnajaaGreatDoorM36
import Derived.Test.YtliboiajhhnajaaGreatDoorM37
import Derived.Deep.DeepCutAuto
/- The statements' step, Fill. -/
namespace Go.Proofs.YtliboiajhhnajaaGreatDoor
open Go.RowKit Go.Extern

set_option maxRecDepth 100000 in
set_option maxHeartbeats 4000000 in
theorem step10_any {w0 w : World} {a b j : Nat} (h : Sta w0 w a b j) (hj : j ≤ 150) (hL : Laid w0) (dev sec n : Int) (hsec : I64 sec) (hn : I64 n) (aod : Option Addr) (dn capd : Nat) (aop : Option Addr) (pn capp : Nat) (d : List Nat) (hd : Bytes w0 (.slice aod dn capd) d) (hdl : d.length ≤ 1000) (ps : List Int) (hps : Ints w0 (.slice aop pn capp) ps) (hpl : ps.length ≤ 300) :
    Calls Tryz.prog 8 #[.pointer (some ⟨a, 0, none⟩), .pointer (some ⟨b, 0, none⟩), opV 10 dev sec n aod dn capd aop pn capp] w (StepR w0 a b j) := by
  obtain ⟨Fa, Fb, D, E, q, r, h, hse, hpw, hwl, hsq, hsr⟩ := h
  have e0 : opC 10 dev sec n aod dn capd aop pn capp = #[.int .i64 10, .int .i64 dev, .int .i64 sec, .int .i64 n, .slice aod dn capd, .slice aop pn capp] := rfl
  have HSE := hide hse
  have HPW := hide hpw
  have HWL := hide hwl
  have HSQ := hide hsq
  have HSR := hide hsr
  have HJ := hide hj
  have HLD := hide hL
  have HD := hide hd
  have HDL := hide hdl
  have HPS := hide hps
  have HPL := hide hpl
  have HSEC := hide hsec
  have HNN := hide hn
  have HAL : Hid (Below w.heap.size w (w.alloc (.cells (opC 10 dev sec n aod dn capd aop pn capp) 31))) := (Below.refl _ _).alloc (Nat.le_refl _) _
  have HOB0 : Hid ((w.alloc (.cells (opC 10 dev sec n aod dn capd aop pn capp) 31)).heap[w.heap.size]? = some (.cells (opC 10 dev sec n aod dn capd aop pn capp) 31 (0, 0))) := heap_alloc_new w _
  have OBA0 : Hid (¬ Fa w.heap.size) := fun hx => by have := (h.x.f _ hx).2; omega
  have OBB0 : Hid (¬ Fb w.heap.size) := fun hx => by have := (h.yf _ hx).2; omega
  have H1 := hide (h.below HAL.out)
  clear h hse hpw hwl hsq hsr hj hL hd hdl hps hpl hsec hn
  unfold opV
  go_enter Tryz.func8, Tryz.ntmps8
  go_wp2_with fail
  rw [← e0]
  obtain ⟨wo, hwo⟩ : ∃ wo, wo = w.alloc (.cells (opC 10 dev sec n aod dn capd aop pn capp) 31) := ⟨_, rfl⟩
  rw [← hwo] at HAL HOB0 H1
  rw [← hwo]
  obtain ⟨OB, hOB⟩ : ∃ OB, OB = w.heap.size := ⟨_, rfl⟩
  rw [← hOB] at HOB0 OBA0 OBB0
  rw [← hOB]
  clear hwo hOB
  have HCP := hide (copy_any d (.slice aod dn capd) wo (HD.out.below H1.out.x.bel))
  refine HCP.out.mono ?_
  rintro e w1 ⟨u, rfl, hu, hbc⟩
  have H2 := hide (H1.out.below hbc)
  have HOB : Hid (w1.heap[OB]? = some (.cells (opC 10 dev sec n aod dn capd aop pn capp) 31 (0, 0))) := by show _ = _; rw [hbc.block _ (heap_lt HOB0.out)]; exact HOB0.out
  have HU := hide hu
  have HUF : Hid (∀ k, u.ownBlock = some k → ¬ Fa k ∧ ¬ Fb k ∧ k < w1.heap.size) := fun k hk => ⟨fun hx => by have h1 := (hu.lt k hk).1; have := (H1.out.x.f k hx).2; omega, fun hx => by have h1 := (hu.lt k hk).1; have := (H1.out.yf k hx).2; omega, (hu.lt k hk).2⟩
  have HSZ : Hid (OB < w1.heap.size) := heap_lt HOB.out
  have k0 : w1.cell? ⟨OB, 0, none⟩ = some (.int .i64 10) := by rw [cell_of_row w1 OB _ _ _ _ HOB.out]; rfl
  obtain ⟨aou, capu, rfl⟩ := hu.form
  clear hu hbc HCP H1 HOB0 HAL e0
  go_wp2_with fail
  have hdr : Below w1.heap.size w1 w1.drew := (Below.refl _ _).drew
  have H3 := hide (H2.out.below hdr)
  refine wp_region_held_drew (S := fun wx => wx.heap[OB]? = some (.cells (opC 10 dev sec n aod dn capd aop pn capp) 31 (0, 0))) (by kernel_rfl) HOB.out (fun hS => ?_)
  refine take_run 0 (some 207) (.pointer (some ⟨a, 0, none⟩)) rfl rfl rfl (by kernel_rfl) (by kernel_rfl) (by kernel_rfl) (fun _ _ _ h => h) (fun wx hx => exec_move rfl rfl) hS ?_
  simp only [Act.put, List.setIfInBounds_toArray, List.set_cons_zero, List.set_cons_succ]
  refine take_run 1 (some 208) (.pointer (some ⟨OB, 1, none⟩)) rfl rfl rfl (by kernel_rfl) (by kernel_rfl) (by kernel_rfl) (fun _ _ _ h => h) (fun wx hx => exec_field rfl (opField1 _ wx) rfl) hS ?_
  simp only [Act.put, List.setIfInBounds_toArray, List.set_cons_zero, List.set_cons_succ]
  refine take_run 2 (some 209) (.int .i64 dev) rfl rfl rfl (by kernel_rfl) (by kernel_rfl) (by kernel_rfl) (fun _ _ _ h => h) (fun wx hx => exec_load rfl (load_int (opC_cells hx).1) rfl) hS ?_
  simp only [Act.put, List.setIfInBounds_toArray, List.set_cons_zero, List.set_cons_succ]
  refine take_run 3 (some 210) (.slice aou d.length capu) rfl rfl rfl (by kernel_rfl) (by kernel_rfl) (by kernel_rfl) (fun _ _ _ h => h) (fun wx hx => exec_move rfl rfl) hS ?_
  simp only [Act.put, List.setIfInBounds_toArray, List.set_cons_zero, List.set_cons_succ]
  refine take_run 5 (some 212) (.pointer (some ⟨b, 0, none⟩)) rfl rfl rfl (by kernel_rfl) (by kernel_rfl) (by kernel_rfl) (fun _ _ _ h => h) (fun wx hx => exec_move rfl rfl) hS ?_
  simp only [Act.put, List.setIfInBounds_toArray, List.set_cons_zero, List.set_cons_succ]
  refine take_run 6 (some 213) (.pointer (some ⟨OB, 1, none⟩)) rfl rfl rfl (by kernel_rfl) (by kernel_rfl) (by kernel_rfl) (fun _ _ _ h => h) (fun wx hx => exec_field rfl (opField1 _ wx) rfl) hS ?_
  simp only [Act.put, List.setIfInBounds_toArray, List.set_cons_zero, List.set_cons_succ]
  refine take_run 7 (some 214) (.int .i64 dev) rfl rfl rfl (by kernel_rfl) (by kernel_rfl) (by kernel_rfl) (fun _ _ _ h => h) (fun wx hx => exec_load rfl (load_int (opC_cells hx).1) rfl) hS ?_
  simp only [Act.put, List.setIfInBounds_toArray, List.set_cons_zero, List.set_cons_succ]
  refine take_run 8 (some 215) (.pointer (some ⟨OB, 4, none⟩)) rfl rfl rfl (by kernel_rfl) (by kernel_rfl) (by kernel_rfl) (fun _ _ _ h => h) (fun wx hx => exec_field rfl (opField4 _ wx) rfl) hS ?_
  simp only [Act.put, List.setIfInBounds_toArray, List.set_cons_zero, List.set_cons_succ]
  refine take_run 9 (some 216) (.slice aod dn capd) rfl rfl rfl (by kernel_rfl) (by kernel_rfl) (by kernel_rfl) (fun _ _ _ h => h) (fun wx hx => exec_load rfl (load_bytes (opC_cells hx).2.2.2.1) rfl) hS ?_
  simp only [Act.put, List.setIfInBounds_toArray, List.set_cons_zero, List.set_cons_succ]
  refine take_run 11 (some 218) (.pointer (some ⟨OB, 1, none⟩)) rfl rfl rfl (by kernel_rfl) (by kernel_rfl) (by kernel_rfl) (fun _ _ _ h => h) (fun wx hx => exec_field rfl (opField1 _ wx) rfl) hS ?_
  simp only [Act.put, List.setIfInBounds_toArray, List.set_cons_zero, List.set_cons_succ]
  refine take_run 12 (some 219) (.int .i64 dev) rfl rfl rfl (by kernel_rfl) (by kernel_rfl) (by kernel_rfl) (fun _ _ _ h => h) (fun wx hx => exec_load rfl (load_int (opC_cells hx).1) rfl) hS ?_
  simp only [Act.put, List.setIfInBounds_toArray, List.set_cons_zero, List.set_cons_succ]
  have HA := hide (bfill_any H3.out.x.k dev (.slice aou d.length capu) d (HU.out.below hdr).bytes HDL.out (fun k hk hf => (HUF.out k hk).1 hf))
  refine only_call 4 (some 211) rfl rfl rfl (by kernel_rfl) (exec_call3 rfl enterBFill rfl rfl rfl rfl) (HA.out.mono ?_)
  rintro e w2 ⟨x, rfl, hx, hk2, ht2⟩
  have hob2 : w2.heap[OB]? = some (.cells (opC 10 dev sec n aod dn capd aop pn capp) 31 (0, 0)) := by rw [ht2.block _ (heap_lt hS) OBA0.out]; exact hS
  refine ⟨_, rfl, hob2, ?_⟩
  simp only [Act.put, List.setIfInBounds_toArray, List.set_cons_zero, List.set_cons_succ]
  have h4 := H3.out.prog hk2 ht2
  have HB := hide (rbfill_any h4.y (Sl.SmB HSE.out H3.out.x.k.smB) dev (.slice aod dn capd) d (HD.out.below h4.x.bel) HDL.out)
  refine only_call 10 (some 217) rfl rfl rfl (by kernel_rfl) (exec_call3 rfl enterRBFill rfl rfl rfl rfl) (HB.out.mono ?_)
  rintro e w3 ⟨rfl, hk3, ht3⟩
  have hob3 : w3.heap[OB]? = some (.cells (opC 10 dev sec n aod dn capd aop pn capp) 31 (0, 0)) := by rw [ht3.block _ (heap_lt hob2) OBB0.out]; exact hob2
  refine ⟨_, rfl, hob3, ?_⟩
  simp only [Act.put, List.setIfInBounds_toArray, List.set_cons_zero, List.set_cons_succ]
  have h5 := h4.ref hk3 ht3
  have hx3 : FErr w3 x (bfC D q dev d) "fill".toUTF8 dev 0 := hx.e.keep (fun k o he ho => by
    have hn := hx.new k he
    rw [ht3.block k (heap_lt ho) (fun hf => by have h1 := (H3.out.yf k hf).2; omega)]; exact ho)
  rw [(Sl.fill (q := q) (r := r) HSE.out dev d).1] at hx3
  have HT := hide (told_any hx3 (HLD.out.below h5.x.bel))
  refine only_call 13 (some 220) rfl rfl rfl (by kernel_rfl) (exec_call5 rfl enterTold rfl rfl rfl rfl rfl rfl) (HT.out.mono ?_)
  rintro e w4 ⟨rfl, hb4⟩
  have hob4 : w4.heap[OB]? = some (.cells (opC 10 dev sec n aod dn capd aop pn capp) 31 (0, 0)) := by rw [hb4.block _ (heap_lt hob3)]; exact hob3
  refine ⟨_, rfl, hob4, ?_⟩
  simp only [Act.put, List.setIfInBounds_toArray, List.set_cons_zero, List.set_cons_succ]
  refine take_run 14 (some 6) (.bool true) rfl rfl rfl (by kernel_rfl) (by kernel_rfl) (by kernel_rfl) (fun _ _ _ h => h) (fun wx hx => exec_assign rfl rfl) hob4 ?_
  simp only [Act.put, List.setIfInBounds_toArray, List.set_cons_zero, List.set_cons_succ]
  refine wpAnyH_done (by kernel_rfl) ?_ _
  have HEND : Hid (Sta w0 w4 a b (j + 1)) := ⟨_, _, _, _, _, _, h5.below hb4, (Sl.fill (q := q) (r := r) HSE.out dev d).2, HPW.out, (HWL.out.fill q dev d).mono (by omega), (HSQ.out).mono (by omega), (HSR.out).mono (by omega)⟩
  clear h5 h4 hk3 ht3 hob3 hob2 hob4 hk2 ht2 hS HA HB HT hx hx3 hb4 hdr H3 H2 HU HUF HOB k0
  go_wp2_with fail
  go_ret
  exact ⟨rfl, HEND.out⟩
end Go.Proofs.YtliboiajhhnajaaGreatDoor

/- The statements' step, of any kind. -/
namespace Go.Proofs.YtliboiajhhnajaaGreatDoor
open Go.RowKit Go.Extern

set_option maxRecDepth 100000 in
set_option maxHeartbeats 4000000 in
theorem stepNo_any {w0 w : World} {a b j : Nat} (h : Sta w0 w a b j) (hj : j ≤ 150) (hL : Laid w0) (kind dev sec n : Int) (q1 : kind ≠ 1) (q2 : kind ≠ 2) (q3 : kind ≠ 3) (q4 : kind ≠ 4) (q5 : kind ≠ 5) (q6 : kind ≠ 6) (q7 : kind ≠ 7) (q8 : kind ≠ 8) (q9 : kind ≠ 9) (q10 : kind ≠ 10) (hsec : I64 sec) (hn : I64 n) (aod : Option Addr) (dn capd : Nat) (aop : Option Addr) (pn capp : Nat) (d : List Nat) (hd : Bytes w0 (.slice aod dn capd) d) (hdl : d.length ≤ 1000) (ps : List Int) (hps : Ints w0 (.slice aop pn capp) ps) (hpl : ps.length ≤ 300) :
    Calls Tryz.prog 8 #[.pointer (some ⟨a, 0, none⟩), .pointer (some ⟨b, 0, none⟩), opV kind dev sec n aod dn capd aop pn capp] w (StepR w0 a b j) := by
  obtain ⟨Fa, Fb, D, E, q, r, h, hse, hpw, hwl, hsq, hsr⟩ := h
  have e0 : opC kind dev sec n aod dn capd aop pn capp = #[.int .i64 kind, .int .i64 dev, .int .i64 sec, .int .i64 n, .slice aod dn capd, .slice aop pn capp] := rfl
  have HSE := hide hse
  have HPW := hide hpw
  have HWL := hide hwl
  have HSQ := hide hsq
  have HSR := hide hsr
  have HJ := hide hj
  have HLD := hide hL
  have HD := hide hd
  have HDL := hide hdl
  have HPS := hide hps
  have HPL := hide hpl
  have HSEC := hide hsec
  have HNN := hide hn
  have HAL : Hid (Below w.heap.size w (w.alloc (.cells (opC kind dev sec n aod dn capd aop pn capp) 31))) := (Below.refl _ _).alloc (Nat.le_refl _) _
  have HOB0 : Hid ((w.alloc (.cells (opC kind dev sec n aod dn capd aop pn capp) 31)).heap[w.heap.size]? = some (.cells (opC kind dev sec n aod dn capd aop pn capp) 31 (0, 0))) := heap_alloc_new w _
  have OBA0 : Hid (¬ Fa w.heap.size) := fun hx => by have := (h.x.f _ hx).2; omega
  have OBB0 : Hid (¬ Fb w.heap.size) := fun hx => by have := (h.yf _ hx).2; omega
  have H1 := hide (h.below HAL.out)
  clear h hse hpw hwl hsq hsr hj hL hd hdl hps hpl hsec hn
  unfold opV
  go_enter Tryz.func8, Tryz.ntmps8
  go_wp2_with fail
  rw [← e0]
  obtain ⟨wo, hwo⟩ : ∃ wo, wo = w.alloc (.cells (opC kind dev sec n aod dn capd aop pn capp) 31) := ⟨_, rfl⟩
  rw [← hwo] at HAL HOB0 H1
  rw [← hwo]
  obtain ⟨OB, hOB⟩ : ∃ OB, OB = w.heap.size := ⟨_, rfl⟩
  rw [← hOB] at HOB0 OBA0 OBB0
  rw [← hOB]
  clear hwo hOB
  have HCP := hide (copy_any d (.slice aod dn capd) wo (HD.out.below H1.out.x.bel))
  refine HCP.out.mono ?_
  rintro e w1 ⟨u, rfl, hu, hbc⟩
  have H2 := hide (H1.out.below hbc)
  have HOB : Hid (w1.heap[OB]? = some (.cells (opC kind dev sec n aod dn capd aop pn capp) 31 (0, 0))) := by show _ = _; rw [hbc.block _ (heap_lt HOB0.out)]; exact HOB0.out
  have HU := hide hu
  have HUF : Hid (∀ k, u.ownBlock = some k → ¬ Fa k ∧ ¬ Fb k ∧ k < w1.heap.size) := fun k hk => ⟨fun hx => by have h1 := (hu.lt k hk).1; have := (H1.out.x.f k hx).2; omega, fun hx => by have h1 := (hu.lt k hk).1; have := (H1.out.yf k hx).2; omega, (hu.lt k hk).2⟩
  have HSZ : Hid (OB < w1.heap.size) := heap_lt HOB.out
  have k0 : w1.cell? ⟨OB, 0, none⟩ = some (.int .i64 kind) := by rw [cell_of_row w1 OB _ _ _ _ HOB.out]; rfl
  obtain ⟨aou, capu, rfl⟩ := hu.form
  clear hu hbc HCP H1 HOB0 HAL e0
  have b1 : (kind == 1) = false := by simpa using q1
  have b2 : (kind == 2) = false := by simpa using q2
  have b3 : (kind == 3) = false := by simpa using q3
  have b4 : (kind == 4) = false := by simpa using q4
  have b5 : (kind == 5) = false := by simpa using q5
  have b6 : (kind == 6) = false := by simpa using q6
  have b7 : (kind == 7) = false := by simpa using q7
  have b8 : (kind == 8) = false := by simpa using q8
  have b9 : (kind == 9) = false := by simpa using q9
  have b10 : (kind == 10) = false := by simpa using q10
  have HEND : Hid (Sta w0 w1 a b (j + 1)) := ⟨_, _, _, _, _, _, H2.out, HSE.out, HPW.out, HWL.out.mono (by omega), HSQ.out.mono (by omega), HSR.out.mono (by omega)⟩
  clear q1 q2 q3 q4 q5 q6 q7 q8 q9 q10
  go_wp2
  go_ret
  exact ⟨rfl, HEND.out⟩
theorem step_any {w0 w : World} {a b j : Nat} (h : Sta w0 w a b j) (hj : j ≤ 150) (hL : Laid w0) (kind dev sec n : Int) (hsec : I64 sec) (hn : I64 n) (aod : Option Addr) (dn capd : Nat) (aop : Option Addr) (pn capp : Nat) (d : List Nat) (hd : Bytes w0 (.slice aod dn capd) d) (hdl : d.length ≤ 1000) (ps : List Int) (hps : Ints w0 (.slice aop pn capp) ps) (hpl : ps.length ≤ 300) :
    Calls Tryz.prog 8 #[.pointer (some ⟨a, 0, none⟩), .pointer (some ⟨b, 0, none⟩), opV kind dev sec n aod dn capd aop pn capp] w (StepR w0 a b j) := by
  by_cases q1 : kind = 1
  · subst q1
    exact step1_any h hj hL dev sec n hsec hn aod dn capd aop pn capp d hd hdl ps hps hpl
  by_cases q2 : kind = 2
  · subst q2
    exact step2_any h hj hL dev sec n hsec hn aod dn capd aop pn capp d hd hdl ps hps hpl
  by_cases q3 : kind = 3
  · subst q3
    exact step3_any h hj hL dev sec n hsec hn aod dn capd aop pn capp d hd hdl ps hps hpl
  by_cases q4 : kind = 4
  · subst q4
    refine (step4_any h hj hL dev sec n hsec hn aod dn capd aop pn capp d hd hdl ps hps hpl).mono ?_
    rintro e w' ⟨rfl, hb⟩
    exact ⟨rfl, (h.below hb).mono⟩
  by_cases q5 : kind = 5
  · subst q5
    exact step5_any h hj hL dev sec n hsec hn aod dn capd aop pn capp d hd hdl ps hps hpl
  by_cases q6 : kind = 6
  · subst q6
    exact step6_any h hj hL dev sec n hsec hn aod dn capd aop pn capp d hd hdl ps hps hpl
  by_cases q7 : kind = 7
  · subst q7
    exact step7_any h hj hL dev sec n hsec hn aod dn capd aop pn capp d hd hdl ps hps hpl
  by_cases q8 : kind = 8
  · subst q8
    exact step8_any h hj hL dev sec n hsec hn aod dn capd aop pn capp d hd hdl ps hps hpl
  by_cases q9 : kind = 9
  · subst q9
    exact step9_any h hj hL dev sec n hsec hn aod dn capd aop pn capp d hd hdl ps hps hpl
  by_cases q10 : kind = 10
  · subst q10
    exact step10_any h hj hL dev sec n hsec hn aod dn capd aop pn capp d hd hdl ps hps hpl
  exact stepNo_any h hj hL kind dev sec n q1 q2 q3 q4 q5 q6 q7 q8 q9 q10 hsec hn aod dn capd aop pn capp d hd hdl ps hps hpl
end Go.Proofs.YtliboiajhhnajaaGreatDoor

/- Steps of a region that draws its order and has guards. -/
namespace Go.Proofs.YtliboiajhhnajaaGreatDoor
open Go.RowKit Go.Extern

section
variable {ops : Array Oper} {Q : Exit → Act → World → Prop} {md : Region.Mode} {S : World → Prop}
theorem take_want (i : Nat) {oi : Oper} (dst : Option Tmp) (v : Value) {fuel : Nat} {listed : Array Bool} {a : Act} {w : World} (hi : ops[i]? = some oi) (hd : oi.dst = dst) (hg : Region.wanted oi (yielded ops a.tmps) = true)
    (hs : Region.noSelect ops = true) (hf : Region.free md ops listed i = true) (hr : (Region.ready md ops listed).contains i = true)
    (hQ : ∀ c a w, Q (.panic c) (a.put dst v) w → Q (.panic c) a w) (hrun : ∀ wx, S wx → (execOp a.eval oi).run Tryz.prog wx = .ok (.value v) wx) (hS : S w)
    (h : wpAnyH Tryz.prog md ops Q S fuel (listed.setIfInBounds i true) (a.put dst v) w) : wpAnyH Tryz.prog md ops Q S (fuel + 1) listed a w := by
  subst hd
  exact wpAnyH_take hi hs hf hr hQ (Or.inl ⟨hg, hrun⟩) hS h
theorem call_want (i : Nat) {oi : Oper} (dst : Option Tmp) {fuel : Nat} {listed : Array Bool} {a : Act} {w : World} (hi : ops[i]? = some oi) (hd : oi.dst = dst) (hg : Region.wanted oi (yielded ops a.tmps) = true) (hr : Region.ready md ops listed = [i])
    {f : FuncId} {args : Array Value} (hrun : (execOp a.eval oi).run Tryz.prog w = .ok (.enter f args) w)
    (hc : Calls Tryz.prog f args w fun e w' => ∃ v, e = .returned v ∧ S w' ∧ wpAnyH Tryz.prog md ops Q S fuel (listed.setIfInBounds i true) (a.put dst v) w') : wpAnyH Tryz.prog md ops Q S (fuel + 1) listed a w := by
  subst hd
  refine wpAnyH_ready hr (by simp) (AllReadyH.cons hi (fun K hK => ?_) AllReadyH.nil)
  rw [if_pos hg]
  unfold Oper.wp
  rw [hrun]
  refine hc.mono ?_
  rintro e w' ⟨v, rfl, hS, h⟩
  exact hK.out _ _ hS (fun _ => h)
end
section
variable {ρ : Operand → Value} {o : Oper} {w : World}
theorem exec_not {x : Operand} {b : Bool} {T : TypeId} (ho : o.op = .unOp .not T x) (hx : ρ x = .bool b) : (execOp ρ o).run Tryz.prog w = .ok (.value (.bool (!b))) w := by
  unfold execOp; simp only [ho, hx]; go_simp
theorem exec_pickF {c x y : Operand} {v : Value} (ho : o.op = .pick c x y) (hc : ρ c = .bool false) (hy : ρ y = v) : (execOp ρ o).run Tryz.prog w = .ok (.value v) w := by
  unfold execOp; simp [ho, hc, hy, asBool]
theorem exec_neqN {x y : Operand} {n : Int} {T : TypeId} (ho : o.op = .binOp .neq 3 x y T) (hx : ρ x = .int .i64 n) (hy : ρ y = .int .i64 n) : (execOp ρ o).run Tryz.prog w = .ok (.value (.bool false)) w := by
  unfold execOp; simp only [ho, hx, hy]; go_simp
end
theorem exec_neqB {ρ : Operand → Value} {o : Oper} {w : World} {x y : Operand} {n : Bool} {T : TypeId} (ho : o.op = .binOp .neq 4 x y T) (hx : ρ x = .bool n) (hy : ρ y = .bool n) : (execOp ρ o).run Tryz.prog w = .ok (.value (.bool false)) w := by
  unfold execOp; simp only [ho, hx, hy]
  cases n <;> go_simp
theorem len_intsL (w : World) (a : Option Addr) (n c : Nat) : (Builtin.len_ #[29] 3 #[.slice a n c]).run Tryz.prog w = .ok (.int .i64 (n : Int)) w := by kernel_rfl
theorem len_rdisks (w : World) (a : Option Addr) (n c : Nat) : (Builtin.len_ #[34] 3 #[.slice a n c]).run Tryz.prog w = .ok (.int .i64 (n : Int)) w := by kernel_rfl
theorem rbField2 (b : Nat) (w : World) : (Instr.fieldAt 36 (.pointer (some ⟨b, 0, none⟩)) 2).run Tryz.prog w = .ok (.pointer (some ⟨b, 2, none⟩)) w := by kernel_rfl
theorem rbField3 (b : Nat) (w : World) : (Instr.fieldAt 36 (.pointer (some ⟨b, 0, none⟩)) 3).run Tryz.prog w = .ok (.pointer (some ⟨b, 3, none⟩)) w := by kernel_rfl
theorem load_boolL {w : World} {p : Addr} {v : Value} (h : w.cell? p = some v) : (Instr.loadAt 4 (.pointer (some p))).run Tryz.prog w = .ok v w := by go_simp
theorem enterBDown (args : Array Value) (w : World) : (callFunc 33 args).run Tryz.prog w = .ok (.enter 33 args) w := by kernel_rfl
theorem enterBDone (args : Array Value) (w : World) : (callFunc 34 args).run Tryz.prog w = .ok (.enter 34 args) w := by kernel_rfl
theorem enterBPending (args : Array Value) (w : World) : (callFunc 35 args).run Tryz.prog w = .ok (.enter 35 args) w := by kernel_rfl
theorem enterRBPending (args : Array Value) (w : World) : (callFunc 36 args).run Tryz.prog w = .ok (.enter 36 args) w := by kernel_rfl

/-- Whether an op may be done. -/
def Smalled (dn pn : Nat) (w : World) (e : Ending) (w' : World) : Prop := ∃ sb, e = .returned (.bool sb) ∧ Below w.heap.size w w' ∧ (sb = true → dn ≤ 1000 ∧ pn ≤ 300)
set_option maxRecDepth 100000 in
set_option maxHeartbeats 1000000 in
theorem small_any (w : World) (kind dev sec n : Int) (aod : Option Addr) (dn capd : Nat) (aop : Option Addr) (pn capp : Nat) :
    Calls Tryz.prog 7 #[opV kind dev sec n aod dn capd aop pn capp] w (Smalled dn pn w) := by
  have HAL : Hid (Below w.heap.size w (w.alloc (.cells #[.int .i64 kind, .int .i64 dev, .int .i64 sec, .int .i64 n, .slice aod dn capd, .slice aop pn capp] 31))) := (Below.refl _ _).alloc (Nat.le_refl _) _
  unfold opV opC
  by_cases h1 : (dn : Int) ≤ 1000
  · have e1 : decide ((dn : Int) ≤ 1000) = true := by simpa using h1
    by_cases h2 : (pn : Int) ≤ 300
    · have e2 : decide ((pn : Int) ≤ 300) = true := by simpa using h2
      have HB : Hid (dn ≤ 1000 ∧ pn ≤ 300) := ⟨by omega, by omega⟩
      clear h1 h2
      by_cases hk1 : kind = 1
      · have a1 : (kind != 1) = false := by simp [hk1]
        clear hk1
        by_cases hn1 : n ≤ 64
        · have b1 : decide (n ≤ 64) = true := by simpa using hn1
          clear hn1
          go_enter Tryz.func7, Tryz.ntmps7
          go_wp2
          go_ret
          exact ⟨_, rfl, HAL.out, fun _ => HB.out⟩
        · have b1 : decide (n ≤ 64) = false := by simpa using hn1
          clear hn1
          cases b2 : decide ((4096 : Int) < n) with
          | true =>
            go_enter Tryz.func7, Tryz.ntmps7
            go_wp2
            go_ret
            exact ⟨_, rfl, HAL.out, fun _ => HB.out⟩
          | false =>
            go_enter Tryz.func7, Tryz.ntmps7
            go_wp2
            go_ret
            exact ⟨_, rfl, HAL.out, fun _ => HB.out⟩
      · have a1 : (kind != 1) = true := by simpa using hk1
        clear hk1
        by_cases hk2 : kind = 2
        · have a2 : (kind != 2) = false := by simp [hk2]
          clear hk2
          by_cases hn1 : n ≤ 64
          · have b1 : decide (n ≤ 64) = true := by simpa using hn1
            clear hn1
            go_enter Tryz.func7, Tryz.ntmps7
            go_wp2
            go_ret
            exact ⟨_, rfl, HAL.out, fun _ => HB.out⟩
          · have b1 : decide (n ≤ 64) = false := by simpa using hn1
            clear hn1
            cases b2 : decide ((4096 : Int) < n) with
            | true =>
              go_enter Tryz.func7, Tryz.ntmps7
              go_wp2
              go_ret
              exact ⟨_, rfl, HAL.out, fun _ => HB.out⟩
            | false =>
              go_enter Tryz.func7, Tryz.ntmps7
              go_wp2
              go_ret
              exact ⟨_, rfl, HAL.out, fun _ => HB.out⟩
        · have a2 : (kind != 2) = true := by simpa using hk2
          clear hk2
          go_enter Tryz.func7, Tryz.ntmps7
          go_wp2
          go_ret
          exact ⟨_, rfl, HAL.out, fun _ => HB.out⟩
    · have e2 : decide ((pn : Int) ≤ 300) = false := by simpa using h2
      clear h1 h2
      go_enter Tryz.func7, Tryz.ntmps7
      go_wp2
      go_ret
      exact ⟨false, rfl, HAL.out, fun h => by cases h⟩
  · have e1 : decide ((dn : Int) ≤ 1000) = false := by simpa using h1
    clear h1
    go_enter Tryz.func7, Tryz.ntmps7
    go_wp2
    go_ret
    exact ⟨false, rfl, HAL.out, fun h => by cases h⟩
end Go.Proofs.YtliboiajhhnajaaGreatDoor
