/- Steps of both disks: grown, made bad. -/
import Derived.Test.YtphmhepbilhkjaaPl6
namespace Go.Proofs.Ytphmhepbilhkjaa
open Go.RowKit Go.Extern

theorem enterGrow (args : Array Value) (w : World) : (callFunc 27 args).run Try.prog w = .ok (.enter 27 args) w := by kernel_rfl
theorem enterRGrow (args : Array Value) (w : World) : (callFunc 34 args).run Try.prog w = .ok (.enter 34 args) w := by kernel_rfl
theorem enterIs (args : Array Value) (w : World) : (callFunc 11 args).run Try.prog w = .ok (.enter 11 args) w := by kernel_rfl
theorem is_same (c : Int) (w : World) : Calls Try.prog 11 #[errV c, .int .i64 c] w fun ev w' => ev = .returned (.bool true) ∧ w' = w := by
  have h := is_any c c w
  rw [show decide (c = c) = true by simp] at h
  exact h
theorem exec_gtr0 {ρ : Operand → Value} {o : Oper} {w : World} {x : Operand} {n : Int} {ob : Bool} {T : TypeId} (ho : o.op = .binOp .gtr 3 x (.const (.int .i64 0)) T) (hx : ρ x = .int .i64 n) (hc : ρ (.const (.int .i64 0)) = .int .i64 0) (hb : decide ((0 : Int) < n) = ob) : (execOp ρ o).run Try.prog w = .ok (.value (.bool ob)) w := by
  unfold execOp; simp only [ho, hx, hc]; subst hb; go_simp
theorem store_bool {w : World} {p : Addr} {v : Value} (x : Bool) (h : w.cell? p = some v) (hf : w.frozen? p = false) : (Instr.storeAt 4 (.pointer (some p)) (.bool x)).run Try.prog w = .ok () (w.setCell p (.bool x)) := by go_simp

set_option maxRecDepth 100000 in
set_option maxHeartbeats 2000000 in
theorem step4_any {Z : Option (Nat × Obj)} {w0 w : World} {bd bx j : Nat} {S : List Sec} (h : Pl Z w0 w bd bx S S) (hw : Wl S j) (oi on : Int) (aod : Option Addr) (dn capd : Nat) (aop : Option Addr) (pn capp : Nat) :
    Calls Try.prog 13 #[.pointer (some ⟨bd, 0, none⟩), .pointer (some ⟨bx, 0, none⟩), opV 4 oi on aod dn capd aop pn capp] w (Stepped Z w0 bd bx j) := by
  obtain ⟨F, G, h⟩ := h
  have HAL : Hid (Below w.heap.size w (w.alloc (.cells (opC 4 oi on aod dn capd aop pn capp) 35))) := (Below.refl _ _).alloc (Nat.le_refl _) _
  have HOB : Hid ((w.alloc (.cells (opC 4 oi on aod dn capd aop pn capp) 35)).heap[w.heap.size]? = some (.cells (opC 4 oi on aod dn capd aop pn capp) 35 (0, 0))) := heap_alloc_new w _
  have h1 := h.below HAL.out
  have HFB : Hid (∀ k, F k → k < w.heap.size) := fun k hk => (h.fb k hk).2
  have HGB : Hid (∀ k, G k → k < w.heap.size) := fun k hk => (h.gb k hk).2
  have H1 := hide h1
  have HW := hide hw
  have e0 : opC 4 oi on aod dn capd aop pn capp = #[.int .i64 4, .int .i64 oi, .int .i64 on, .slice aod dn capd, .slice aop pn capp] := rfl
  have HSL : Hid (S.length ≤ 4096) := h.len
  clear h h1 hw
  unfold opV
  go_enter Try.func13, Try.ntmps13
  go_wp2_with fail
  rw [← e0]
  have HGR := hide (grow_any (H1.out.below (Below.refl _ _).drew).d on)
  refine wp_region_held_drew (S := fun wx => wx.heap[w.heap.size]? = some (.cells (opC 4 oi on aod dn capd aop pn capp) 35 (0, 0))) (by kernel_rfl) HOB.out (fun hS => ?_)
  refine take_run 0 (some 51) (.pointer (some ⟨bd, 0, none⟩)) rfl rfl rfl (by kernel_rfl) (by kernel_rfl) (by kernel_rfl) (fun _ _ _ h => h) (fun wx hx => exec_move rfl rfl) hS ?_
  simp only [Act.put, List.setIfInBounds_toArray, List.set_cons_zero, List.set_cons_succ]
  refine take_run 1 (some 52) (.pointer (some ⟨w.heap.size, 2, none⟩)) rfl rfl rfl (by kernel_rfl) (by kernel_rfl) (by kernel_rfl) (fun _ _ _ h => h) (fun wx hx => exec_field rfl (opField2 _ wx) rfl) hS ?_
  simp only [Act.put, List.setIfInBounds_toArray, List.set_cons_zero, List.set_cons_succ]
  refine take_run 2 (some 53) (.int .i64 on) rfl rfl rfl (by kernel_rfl) (by kernel_rfl) (by kernel_rfl) (fun _ _ _ h => h) (fun wx hx => exec_load rfl (load_int (opC_cells hx).2.1) rfl) hS ?_
  simp only [Act.put, List.setIfInBounds_toArray, List.set_cons_zero, List.set_cons_succ]
  refine take_run 4 (some 55) (.pointer (some ⟨bx, 0, none⟩)) rfl rfl rfl (by kernel_rfl) (by kernel_rfl) (by kernel_rfl) (fun _ _ _ h => h) (fun wx hx => exec_move rfl rfl) hS ?_
  simp only [Act.put, List.setIfInBounds_toArray, List.set_cons_zero, List.set_cons_succ]
  refine take_run 5 (some 56) (.pointer (some ⟨w.heap.size, 2, none⟩)) rfl rfl rfl (by kernel_rfl) (by kernel_rfl) (by kernel_rfl) (fun _ _ _ h => h) (fun wx hx => exec_field rfl (opField2 _ wx) rfl) hS ?_
  simp only [Act.put, List.setIfInBounds_toArray, List.set_cons_zero, List.set_cons_succ]
  refine take_run 6 (some 57) (.int .i64 on) rfl rfl rfl (by kernel_rfl) (by kernel_rfl) (by kernel_rfl) (fun _ _ _ h => h) (fun wx hx => exec_load rfl (load_int (opC_cells hx).2.1) rfl) hS ?_
  simp only [Act.put, List.setIfInBounds_toArray, List.set_cons_zero, List.set_cons_succ]
  refine only_call 3 (some 54) rfl rfl rfl (by kernel_rfl) (exec_call2 rfl enterGrow rfl rfl rfl) (HGR.out.mono ?_)
  rintro e w2 ⟨rfl, hd2, ht2⟩
  have h2 := (H1.out.below (Below.refl _ _).drew).prog hd2 ht2
  have hob2 : w2.heap[w.heap.size]? = some (.cells (opC 4 oi on aod dn capd aop pn capp) 35 (0, 0)) := by rw [ht2.block _ (heap_lt hS) (fun hf => by have := HFB.out _ hf; omega)]; exact hS
  refine ⟨_, rfl, hob2, ?_⟩
  simp only [Act.put, List.setIfInBounds_toArray, List.set_cons_zero, List.set_cons_succ]
  refine only_call 7 (some 58) rfl rfl rfl (by kernel_rfl) (exec_call2 rfl enterRGrow rfl rfl rfl) ((rgrow_any h2.x HSL.out on).mono ?_)
  rintro e w3 ⟨rfl, hx3, ht3⟩
  have h3 := h2.ref hx3 ht3
  have hob3 : w3.heap[w.heap.size]? = some (.cells (opC 4 oi on aod dn capd aop pn capp) 35 (0, 0)) := by rw [ht3.block _ (heap_lt hob2) (fun hf => by have := HGB.out _ hf; omega)]; exact hob2
  refine ⟨_, rfl, hob3, ?_⟩
  simp only [Act.put, List.setIfInBounds_toArray, List.set_cons_zero, List.set_cons_succ]
  refine only_call 8 (some 59) rfl rfl rfl (by kernel_rfl) (exec_call2 rfl enterIs rfl rfl rfl) ((is_same (gErr S on) w3).mono ?_)
  rintro e w4 ⟨rfl, rfl⟩
  refine ⟨_, rfl, hob3, ?_⟩
  simp only [Act.put, List.setIfInBounds_toArray, List.set_cons_zero, List.set_cons_succ]
  refine take_run 9 (some 6) (.bool true) rfl rfl rfl (by kernel_rfl) (by kernel_rfl) (by kernel_rfl) (fun _ _ _ h => h) (fun wx hx => exec_assign rfl rfl) hob3 ?_
  simp only [Act.put, List.setIfInBounds_toArray, List.set_cons_zero, List.set_cons_succ]
  refine wpAnyH_done (by kernel_rfl) ?_ _
  have HF := hide h3.pl
  clear h3 h2 hx3 ht3 hob3 hob2 hd2 ht2 hS HGR e0
  go_wp2_with fail
  go_ret
  exact ⟨rfl, _, HF.out, HW.out.grow on⟩

set_option maxRecDepth 100000 in
set_option maxHeartbeats 2000000 in
theorem step5_any {Z : Option (Nat × Obj)} {w0 w : World} {bd bx j : Nat} {S : List Sec} (h : Pl Z w0 w bd bx S S) (hw : Wl S j) (oi on : Int) (aod : Option Addr) (dn capd : Nat) (aop : Option Addr) (pn capp : Nat) :
    Calls Try.prog 13 #[.pointer (some ⟨bd, 0, none⟩), .pointer (some ⟨bx, 0, none⟩), opV 5 oi on aod dn capd aop pn capp] w (Stepped Z w0 bd bx j) := by
  obtain ⟨ob, hob⟩ : ∃ ob, decide ((0 : Int) < on) = ob := ⟨_, rfl⟩
  obtain ⟨F, G, h⟩ := h
  have HAL : Hid (Below w.heap.size w (w.alloc (.cells (opC 5 oi on aod dn capd aop pn capp) 35))) := (Below.refl _ _).alloc (Nat.le_refl _) _
  have HOB : Hid ((w.alloc (.cells (opC 5 oi on aod dn capd aop pn capp) 35)).heap[w.heap.size]? = some (.cells (opC 5 oi on aod dn capd aop pn capp) 35 (0, 0))) := heap_alloc_new w _
  have h1 := h.below HAL.out
  have HFB : Hid (∀ k, F k → k < w.heap.size) := fun k hk => (h.fb k hk).2
  have HGB : Hid (∀ k, G k → k < w.heap.size) := fun k hk => (h.gb k hk).2
  have H1 := hide h1
  have HW := hide hw
  have e0 : opC 5 oi on aod dn capd aop pn capp = #[.int .i64 5, .int .i64 oi, .int .i64 on, .slice aod dn capd, .slice aop pn capp] := rfl
  have HHA := hide (rhas_any h1.x oi)
  have HONB := hide hob
  cases hh : hasB S oi with
  | false =>
    rw [hh] at HHA
    have HBA := hide (bad_any h1.d oi ob)
    rw [bSet_no (by rw [hh]; simp), show bErr S oi = 20 by unfold bErr; rw [hh]; rfl] at HBA
    have HIS := hide (fun w => is_any 20 20 w)
    rw [show decide ((20 : Int) = 20) = true from rfl] at HIS
    clear h h1 hw hh HOB
    unfold opV
    rw [e0] at HAL H1 HHA HBA
    clear e0
    go_enter Try.func13, Try.ntmps13
    go_wp2_with (first | (go_at_call 21; refine HHA.out.mono ?_; rintro e w' ⟨rfl, hww⟩; subst hww) | (go_at_call 28; refine HBA.out.mono ?_; rintro e w2 ⟨rfl, hd2, ht2⟩; have H2 := hide (H1.out.prog hd2 ht2); clear hd2 ht2) | (go_at_call 11; refine (HIS.out _).mono ?_; rintro e w' ⟨rfl, hww⟩; subst hww))
    go_ret
    exact ⟨rfl, _, H2.out.pl, HW.out.mono (Nat.le_succ _)⟩
  | true =>
    rw [hh] at HHA
    obtain ⟨k, s, rfl, hs⟩ := hasB_at hh
    obtain ⟨v, T, hat, hTS⟩ := h1.x
    obtain ⟨u, hu⟩ := RkAt.get hTS hs
    obtain ⟨tn, htnn⟩ : ∃ tn, T.length = tn := ⟨_, rfl⟩
    obtain ⟨ao, cap, hvf⟩ := hat.form
    rw [htnn] at hvf
    subst hvf
    obtain ⟨g, rfl, -, -, c2, cur, hgc⟩ := hat.at_ hu
    have hkt : k < tn := by rw [← htnn]; exact (List.getElem?_eq_some_iff.1 hu).1
    have hgin := hat.inV g rfl
    obtain ⟨hat6, htn6⟩ := (hat.below (w' := (w.alloc (.cells (opC 5 (k : Int) on aod dn capd aop pn capp) 35)).drew) (Below.refl _ _).drew).badB hu ob
    have hbs : bSet S (k : Int) ob = S.set k { s with bad := ob } := by unfold bSet; rw [Int.toNat_natCast, hs]; simp [hh]
    have HH6 : Hid (PlAt Z w0 ((w.alloc (.cells (opC 5 (k : Int) on aod dn capd aop pn capp) 35)).drew.setCell ⟨g, k * 2 + 1, none⟩ (.bool ob)) F (ext G (w.alloc (.cells (opC 5 (k : Int) on aod dn capd aop pn capp) 35)).drew ((w.alloc (.cells (opC 5 (k : Int) on aod dn capd aop pn capp) 35)).drew.setCell ⟨g, k * 2 + 1, none⟩ (.bool ob))) bd bx S (bSet S (k : Int) ob)) := (h1.below (Below.refl _ _).drew).ref ⟨_, _, hat6, by rw [map_set2, hTS, hbs]⟩ htn6
    have hgo : w.heap.size ≠ g := fun e => by have := HGB.out g hgin; omega
    have HO6 : Hid (((w.alloc (.cells (opC 5 (k : Int) on aod dn capd aop pn capp) 35)).drew.setCell ⟨g, k * 2 + 1, none⟩ (.bool ob)).heap[w.heap.size]? = some (.cells (opC 5 (k : Int) on aod dn capd aop pn capp) 35 (0, 0))) := by rw [Below.heap_setCell _ _ _ _ hgo]; exact HOB.out
    have HC6 := hide hat6.cell
    have HBA := hide (bad_any HH6.out.d (k : Int) ob)
    rw [show bErr S (k : Int) = 0 by unfold bErr; rw [hh]; rfl, show (Turned F bd (bSet S (k : Int) ob) 0) = fun w e w' => e = .returned .nilIface ∧ Dk w' (ext F w w') bd (bSet S (k : Int) ob) ∧ Turn F w w' from rfl] at HBA
    have HC0 := hide hat.cell
    have HC2 := hide c2
    have HFZ := hide (row_frozen hgc (k * 2 + 1))
    clear hat6 htn6 hbs hgo hgin hgc c2 hat hTS hu htnn hs hh h h1 hw
    unfold opV
    rw [e0] at HHA
    go_enter Try.func13, Try.ntmps13
    go_wp2_with (first | (go_at_call 21; refine HHA.out.mono ?_; rintro e w' ⟨rfl, hww⟩; subst hww))
    rw [← e0]
    refine wp_region_held_drew (S := fun wx => wx.cell? ⟨bx, 0, none⟩ = some (.slice (some ⟨g, 0, none⟩) tn cap) ∧ wx.heap[w.heap.size]? = some (.cells (opC 5 (k : Int) on aod dn capd aop pn capp) 35 (0, 0))) (by kernel_rfl) ⟨HC0.out, HOB.out⟩ (fun hS => ?_)
    refine take_run 0 (some 75) (.pointer (some ⟨bx, 0, none⟩)) rfl rfl rfl (by kernel_rfl) (by kernel_rfl) (by kernel_rfl) (fun _ _ _ h => h) (fun wx hx => exec_move rfl rfl) hS ?_
    simp only [Act.put, List.setIfInBounds_toArray, List.set_cons_zero, List.set_cons_succ]
    refine take_run 1 (some 76) (.pointer (some ⟨bx, 0, none⟩)) rfl rfl rfl (by kernel_rfl) (by kernel_rfl) (by kernel_rfl) (fun _ _ _ h => h) (fun wx hx => exec_nilCheck rfl rfl) hS ?_
    simp only [Act.put, List.setIfInBounds_toArray, List.set_cons_zero, List.set_cons_succ]
    refine take_run 2 (some 77) (.pointer (some ⟨bx, 0, none⟩)) rfl rfl rfl (by kernel_rfl) (by kernel_rfl) (by kernel_rfl) (fun _ _ _ h => h) (fun wx hx => exec_field rfl (rfield0 bx wx) rfl) hS ?_
    simp only [Act.put, List.setIfInBounds_toArray, List.set_cons_zero, List.set_cons_succ]
    refine take_run 3 (some 78) (.slice (some ⟨g, 0, none⟩) tn cap) rfl rfl rfl (by kernel_rfl) (by kernel_rfl) (by kernel_rfl) (fun _ _ _ h => h) (fun wx hx => exec_load rfl (load_rsectors hx.1) rfl) hS ?_
    simp only [Act.put, List.setIfInBounds_toArray, List.set_cons_zero, List.set_cons_succ]
    refine take_run 4 (some 79) (.pointer (some ⟨w.heap.size, 1, none⟩)) rfl rfl rfl (by kernel_rfl) (by kernel_rfl) (by kernel_rfl) (fun _ _ _ h => h) (fun wx hx => exec_field rfl (opField1 _ wx) rfl) hS ?_
    simp only [Act.put, List.setIfInBounds_toArray, List.set_cons_zero, List.set_cons_succ]
    refine take_run 5 (some 80) (.int .i64 (k : Int)) rfl rfl rfl (by kernel_rfl) (by kernel_rfl) (by kernel_rfl) (fun _ _ _ h => h) (fun wx hx => exec_load rfl (load_int (opC_cells hx.2).1) rfl) hS ?_
    simp only [Act.put, List.setIfInBounds_toArray, List.set_cons_zero, List.set_cons_succ]
    refine take_run 6 (some 81) (.pointer (some ⟨w.heap.size, 2, none⟩)) rfl rfl rfl (by kernel_rfl) (by kernel_rfl) (by kernel_rfl) (fun _ _ _ h => h) (fun wx hx => exec_field rfl (opField2 _ wx) rfl) hS ?_
    simp only [Act.put, List.setIfInBounds_toArray, List.set_cons_zero, List.set_cons_succ]
    refine take_run 7 (some 82) (.int .i64 on) rfl rfl rfl (by kernel_rfl) (by kernel_rfl) (by kernel_rfl) (fun _ _ _ h => h) (fun wx hx => exec_load rfl (load_int (opC_cells hx.2).2.1) rfl) hS ?_
    simp only [Act.put, List.setIfInBounds_toArray, List.set_cons_zero, List.set_cons_succ]
    refine take_run 8 (some 83) (.bool ob) rfl rfl rfl (by kernel_rfl) (by kernel_rfl) (by kernel_rfl) (fun _ _ _ h => h) (fun wx hx => exec_gtr0 rfl rfl rfl HONB.out) hS ?_
    simp only [Act.put, List.setIfInBounds_toArray, List.set_cons_zero, List.set_cons_succ]
    refine only_value 9 (some 84) (v := .pointer (some ⟨g, k * 2, none⟩)) rfl rfl rfl (by kernel_rfl) (exec_index rfl (index_rsec hkt) rfl rfl) hS ?_
    simp only [Act.put, List.setIfInBounds_toArray, List.set_cons_zero, List.set_cons_succ]
    refine only_value 10 (some 85) (v := .pointer (some ⟨g, k * 2 + 1, none⟩)) rfl rfl rfl (by kernel_rfl) (exec_field rfl (rsField1 g _ _) rfl) hS ?_
    simp only [Act.put, List.setIfInBounds_toArray, List.set_cons_zero, List.set_cons_succ]
    refine only_skip 11 none rfl rfl rfl (by kernel_rfl) (exec_store rfl (store_bool ob (w := (w.alloc (.cells (opC 5 (k : Int) on aod dn capd aop pn capp) 35)).drew) HC2.out HFZ.out) rfl rfl) ⟨HC6.out, HO6.out⟩ ?_
    refine wpAnyH_done (by kernel_rfl) ?_ _
    generalize (w.alloc (.cells (opC 5 (k : Int) on aod dn capd aop pn capp) 35)).drew.setCell ⟨g, k * 2 + 1, none⟩ (.bool ob) = w6 at HH6 HO6 HBA ⊢
    obtain ⟨q1, q2, -, -⟩ := opC_cells HO6.out
    clear hS HC6 e0
    go_wp2_with (first | (go_at_call 28; refine HBA.out.mono ?_; rintro e w7 ⟨rfl, hd7, ht7⟩; have H7 := hide (HH6.out.prog hd7 ht7); clear hd7 ht7))
    go_ret
    exact ⟨rfl, _, H7.out.pl, HW.out.bad _ _⟩
end Go.Proofs.Ytphmhepbilhkjaa
