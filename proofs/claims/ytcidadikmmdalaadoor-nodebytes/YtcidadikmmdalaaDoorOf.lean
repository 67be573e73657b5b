/- of: a node of the document's as one of the program's. -/
import Derived.Test.YtcidadikmmdalaaDoorDr
namespace Go.Proofs.YtcidadikmmdalaaDoor
open Go.RowKit Go.Extern

theorem lit0 (w : World) : (Instr.buildSlice 22 0 #[]).run Tryd.prog w = .ok (.slice (some ⟨w.heap.size, 0, none⟩) 0 0) (w.alloc (.cells #[] 3)) := by kernel_rfl
theorem exec_lit0 {ρ : Operand → Value} {o : Oper} {w w' : World} {t : TypeId} {v : Value} (ho : o.op = .buildSlice t 0 #[]) (hr : (Instr.buildSlice t 0 #[]).run Tryd.prog w = .ok v w') : (execOp ρ o).run Tryd.prog w = .ok (.value v) w' := by
  unfold execOp; simp [ho, hr]
theorem exec_build3 {ρ : Operand → Value} {o : Oper} {w : World} {t : TypeId} {x y z : Operand} {v xv yv zv : Value} (ho : o.op = .build t #[(0, x), (1, y), (2, z)]) (hr : (Instr.build t #[(0, xv), (1, yv), (2, zv)]).run Tryd.prog w = .ok v w) (hx : ρ x = xv) (hy : ρ y = yv) (hz : ρ z = zv) : (execOp ρ o).run Tryd.prog w = .ok (.value v) w := by
  unfold execOp; simp [ho, hr, hx, hy, hz]
theorem buildN (L : Int) (a : Option Addr) (n c : Nat) (a2 : Option Addr) (n2 c2 : Nat) (w : World) : (Instr.build 30 #[(0, .int .i64 L), (1, .slice a n c), (2, .slice a2 n2 c2)]).run Tryd.prog w = .ok (.agg #[.int .i64 L, .slice a n c, .slice a2 n2 c2]) w := by kernel_rfl
theorem Two.lit {base : Nat} {w : World} {kv vv : Value} {K V : List Int} (h : Two base w kv vv K V) (hb : base ≤ w.heap.size) : Two base (w.alloc (.cells #[] 3)) (.slice (some ⟨w.heap.size, 0, none⟩) 0 0) vv [] V :=
  ⟨OwnI.empty w base hb, h.hv.below (bel_alloc _ _), fun k e1 e2 => by
    have := (h.hv.lt k e2).2
    simp [Value.ownBlock] at e1
    omega⟩
theorem Two.lit2 {base : Nat} {w : World} {kv vv : Value} {K V : List Int} (h : Two base w kv vv K V) (hb : base ≤ w.heap.size) : Two base (w.alloc (.cells #[] 3)) kv (.slice (some ⟨w.heap.size, 0, none⟩) 0 0) K [] := (h.swap.lit hb).swap
/-- What of's line reads and writes. -/
structure OfW (w : World) (L : Int) (kv vv : Value) (wx : World) : Prop where
  h2 : BoxN 24 wx w.heap.size L kv vv
  h4 : ∃ x y z, wx.heap[w.heap.size + 1]? = some (.cells #[x, y, z] 30 (0, 0))
  bel : Below w.heap.size w wx
theorem OfW.c {w : World} {L : Int} {kv vv : Value} {wx : World} (h : OfW w L kv vv wx) : wx.cell? ⟨w.heap.size, 0, none⟩ = some (.int .i64 L) ∧ wx.cell? ⟨w.heap.size, 0 + 1, none⟩ = some kv ∧ wx.cell? ⟨w.heap.size, 0 + 2, none⟩ = some vv := h.h2.cells
theorem OfW.below {w : World} {L : Int} {kv vv : Value} {wx wy : World} (h : OfW w L kv vv wx) (hb : Below wx.heap.size wx wy) : OfW w L kv vv wy :=
  ⟨h.h2.below hb, h.h4.imp fun _ h => h.imp fun _ h => h.imp fun _ h => blk_below hb h, nextB h.bel hb⟩
theorem OfW.lts {w : World} {L : Int} {kv vv : Value} {wx : World} (h : OfW w L kv vv wx) : w.heap.size + 2 ≤ wx.heap.size := by
  obtain ⟨x, y, z, h4⟩ := h.h4
  have := heap_lt h4; omega
theorem OfW.belowB {w : World} {L : Int} {kv vv : Value} {wx wy : World} (h : OfW w L kv vv wx) {B : Nat} (hb : Below B wx wy) (hB : w.heap.size + 2 ≤ B) : OfW w L kv vv wy := by
  refine ⟨?_, ?_, h.bel.trans (hb.mono (by omega))⟩
  · unfold BoxN; rw [hb.block _ (by omega)]; exact h.h2
  · obtain ⟨x, y, z, h4⟩ := h.h4
    exact ⟨x, y, z, by rw [hb.block _ (by omega)]; exact h4⟩
theorem OfW.put {w : World} {L : Int} {kv vv : Value} {wx : World} (h : OfW w L kv vv wx) (M : Int) (k2 v2 : Value) : OfW w L kv vv (stN wx (w.heap.size + 1) M k2 v2) := by
  obtain ⟨x, y, z, h4⟩ := h.h4
  exact ⟨stN_else h.h2 (by omega) _ _ _, ⟨_, _, _, stN_at h4 _ _ _⟩, stN_below h.bel (by omega) _ _ _⟩

set_option maxRecDepth 100000 in
set_option maxHeartbeats 2000000 in
theorem of_any {w : World} {kv vv : Value} {K V : List Int} (L : Int) (hk : Ints w kv K) (hv : Ints w vv V) (hlk : K.length ≤ 1000) (hlv : V.length ≤ 1000) :
    Calls Tryd.prog 5 #[.agg #[.int .i64 L, kv, vv]] w (Node1 w L K V) := by
  have HK := hide hk
  have HV := hide hv
  obtain ⟨aK0, nK0, cK0, hkf, -⟩ := hk.form
  obtain ⟨aV0, nV0, cV0, hvf, -⟩ := hv.form
  have HO : Hid (OfW w L kv vv ((w.alloc (.cells #[.int .i64 L, kv, vv] 24)).alloc (.cells #[.int .i64 0, .slice none 0 0, .slice none 0 0] 30)).drew) := hide (OfW.below (wx := (w.alloc (.cells #[.int .i64 L, kv, vv] 24)).alloc (.cells #[.int .i64 0, .slice none 0 0, .slice none 0 0] 30)) ⟨heap_new2 _ _ _, ⟨.int .i64 0, .slice none 0 0, .slice none 0 0, by
    have := heap_alloc_new (w.alloc (.cells #[.int .i64 L, kv, vv] 24)) (.cells #[.int .i64 0, .slice none 0 0, .slice none 0 0] 30)
    rwa [World.size_alloc] at this⟩, nextB (bel_alloc _ _) (bel_alloc _ _)⟩ (below_drew0 _))
  clear hk hv
  subst hkf hvf
  go_enter Tryd.func5, Tryd.ntmps5
  go_wp2_with fail
  obtain ⟨kv, hkv⟩ : ∃ x, Value.slice aK0 nK0 cK0 = x := ⟨_, rfl⟩
  obtain ⟨vv, hvv⟩ : ∃ x, Value.slice aV0 nV0 cV0 = x := ⟨_, rfl⟩
  simp only [hkv, hvv] at HO HK HV ⊢
  refine wp_region_held_drew (S := OfW w L kv vv) (by kernel_rfl) HO.out (fun hS => ?_)
  obtain ⟨w0, hw0⟩ : ∃ x, ((w.alloc (.cells #[.int .i64 L, kv, vv] 24)).alloc (.cells #[.int .i64 0, .slice none 0 0, .slice none 0 0] 30)).drew = x := ⟨_, rfl⟩
  rw [hw0] at hS ⊢
  clear hw0 HO
  have ht : Two (w.heap.size + 2) w0 (.slice none 0 0) (.slice none 0 0) [] [] := Two.nil _ _
  refine take_want 0 (some 3) (.pointer (some ⟨w.heap.size, 0, none⟩)) rfl rfl rfl (by kernel_rfl) (by kernel_rfl) (by kernel_rfl) (fun _ _ _ h => h) (fun wx hx => exec_field rfl (fldR0 _ _ wx) rfl) hS ?_
  simp only [Act.put, List.setIfInBounds_toArray, List.set_cons_zero, List.set_cons_succ]
  refine take_want 1 (some 4) (.int .i64 L) rfl rfl rfl (by kernel_rfl) (by kernel_rfl) (by kernel_rfl) (fun _ _ _ h => h) (fun wx hx => exec_load rfl (load_intP hx.c.1) rfl) hS ?_
  simp only [Act.put, List.setIfInBounds_toArray, List.set_cons_zero, List.set_cons_succ]
  refine take_want 3 (some 6) (.pointer (some ⟨w.heap.size, 0 + 1, none⟩)) rfl rfl rfl (by kernel_rfl) (by kernel_rfl) (by kernel_rfl) (fun _ _ _ h => h) (fun wx hx => exec_field rfl (fldR1 _ _ wx) rfl) hS ?_
  simp only [Act.put, List.setIfInBounds_toArray, List.set_cons_zero, List.set_cons_succ]
  refine take_want 4 (some 7) kv rfl rfl rfl (by kernel_rfl) (by kernel_rfl) (by kernel_rfl) (fun _ _ _ h => h) (fun wx hx => exec_load rfl (load_intsP hx.c.2.1) rfl) hS ?_
  simp only [Act.put, List.setIfInBounds_toArray, List.set_cons_zero, List.set_cons_succ]
  refine take_want 7 (some 10) (.pointer (some ⟨w.heap.size, 0 + 2, none⟩)) rfl rfl rfl (by kernel_rfl) (by kernel_rfl) (by kernel_rfl) (fun _ _ _ h => h) (fun wx hx => exec_field rfl (fldR2 _ _ wx) rfl) hS ?_
  simp only [Act.put, List.setIfInBounds_toArray, List.set_cons_zero, List.set_cons_succ]
  refine take_want 8 (some 11) vv rfl rfl rfl (by kernel_rfl) (by kernel_rfl) (by kernel_rfl) (fun _ _ _ h => h) (fun wx hx => exec_load rfl (load_intsP hx.c.2.2) rfl) hS ?_
  simp only [Act.put, List.setIfInBounds_toArray, List.set_cons_zero, List.set_cons_succ]
  refine wpAnyH_ready (rs := [2, 6]) (by kernel_rfl) (by simp) ((AllReadyH.cons rfl (fun K hK => ?_) (AllReadyH.cons rfl (fun K hK => ?_) AllReadyH.nil)))
  · have ht1 := ht.lit (by have := hS.lts; omega)
    have hS1 := hS.below (bel_alloc w0 (.cells #[] 3))
    refine step_dst (some 5) rfl rfl (exec_lit0 rfl (lit0 w0)) (hK.out _ _ hS1 (fun _ => ?_))
    simp only [Act.put, List.setIfInBounds_toArray, List.set_cons_zero, List.set_cons_succ]
    refine wpAnyH_ready (rs := [5, 6]) (by kernel_rfl) (by simp) ((AllReadyH.cons rfl (fun K hK => ?_) (AllReadyH.cons rfl (fun K hK => ?_) AllReadyH.nil)))
    · obtain ⟨v2, w2, ha2, hd2⟩ := ht1.append (by have := hS1.lts; omega) 22 (HK.out.below hS1.bel) (by simp; omega)
      have hS2 := hS1.belowB hd2.bel (Nat.le_refl _)
      have ht2 := hd2.two
      refine step_dst (some 8) rfl rfl (exec_append rfl ha2 rfl rfl) (hK.out _ _ hS2 (fun _ => ?_))
      simp only [Act.put, List.setIfInBounds_toArray, List.set_cons_zero, List.set_cons_succ]
      have ht3 := ht2.lit2 (by have := hS2.lts; omega)
      have hS3 := hS2.below (bel_alloc w2 (.cells #[] 3))
      refine only_value 6 (some 9) rfl rfl rfl (by kernel_rfl) (exec_lit0 rfl (lit0 w2)) hS3 ?_
      simp only [Act.put, List.setIfInBounds_toArray, List.set_cons_zero, List.set_cons_succ]
      obtain ⟨v4, w4, ha4, hd4⟩ := ht3.swap.append (by have := hS3.lts; omega) 22 (HV.out.below hS3.bel) (by simp; omega)
      have hS4 := hS3.belowB hd4.bel (Nat.le_refl _)
      have ht4 := hd4.two.swap
      refine only_value 9 (some 12) rfl rfl rfl (by kernel_rfl) (exec_append rfl ha4 rfl rfl) hS4 ?_
      simp only [Act.put, List.setIfInBounds_toArray, List.set_cons_zero, List.set_cons_succ]
      obtain ⟨aK, nK, cK, rfl, -⟩ := ht4.hk.form
      obtain ⟨aV, nV, cV, rfl, -⟩ := ht4.hv.form
      refine take_want 10 (some 13) (.agg #[.int .i64 L, .slice aK nK cK, .slice aV nV cV]) rfl rfl rfl (by kernel_rfl) (by kernel_rfl) (by kernel_rfl) (fun _ _ _ h => h) (fun wx hx => exec_build3 rfl (buildN L _ _ _ _ _ _ _) rfl rfl rfl) hS4 ?_
      simp only [Act.put, List.setIfInBounds_toArray, List.set_cons_zero, List.set_cons_succ]
      obtain ⟨x5, y5, z5, h45⟩ := hS4.h4
      have hS9 := hS4.put L (.slice aK nK cK) (.slice aV nV cV)
      refine only_skip 11 none rfl rfl rfl (by kernel_rfl) (exec_store rfl (store_node h45 L aK nK cK aV nV cV) rfl rfl) hS9 ?_
      simp only [Act.put]
      refine wpAnyH_done (by kernel_rfl) ?_ _
      go_wp2_with fail
      refine ret_node rfl _ _ _ _ rfl (stN_at h45 L (.slice aK nK cK) (.slice aV nV cV)) rfl ?_
      have ht9 := (ht4.stN (b := w.heap.size + 1) (by omega) L (.slice aK nK cK) (.slice aV nV cV)).base (base' := w.heap.size) (by omega)
      exact ⟨_, _, rfl, ht9, hS9.bel⟩
    · have ht5 := ht1.lit2 (by have := hS1.lts; omega)
      have hS5 := hS1.below (bel_alloc (w0.alloc (.cells #[] 3)) (.cells #[] 3))
      refine step_dst (some 9) rfl rfl (exec_lit0 rfl (lit0 (w0.alloc (.cells #[] 3)))) (hK.out _ _ hS5 (fun _ => ?_))
      simp only [Act.put, List.setIfInBounds_toArray, List.set_cons_zero, List.set_cons_succ]
      obtain ⟨v6, w6, ha6, hd6⟩ := ht5.append (by have := hS5.lts; omega) 22 (HK.out.below hS5.bel) (by simp; omega)
      have hS6 := hS5.belowB hd6.bel (Nat.le_refl _)
      have ht6 := hd6.two
      refine only_value 5 (some 8) rfl rfl rfl (by kernel_rfl) (exec_append rfl ha6 rfl rfl) hS6 ?_
      simp only [Act.put, List.setIfInBounds_toArray, List.set_cons_zero, List.set_cons_succ]
      obtain ⟨v7, w7, ha7, hd7⟩ := ht6.swap.append (by have := hS6.lts; omega) 22 (HV.out.below hS6.bel) (by simp; omega)
      have hS7 := hS6.belowB hd7.bel (Nat.le_refl _)
      have ht7 := hd7.two.swap
      refine only_value 9 (some 12) rfl rfl rfl (by kernel_rfl) (exec_append rfl ha7 rfl rfl) hS7 ?_
      simp only [Act.put, List.setIfInBounds_toArray, List.set_cons_zero, List.set_cons_succ]
      obtain ⟨aK, nK, cK, rfl, -⟩ := ht7.hk.form
      obtain ⟨aV, nV, cV, rfl, -⟩ := ht7.hv.form
      refine take_want 10 (some 13) (.agg #[.int .i64 L, .slice aK nK cK, .slice aV nV cV]) rfl rfl rfl (by kernel_rfl) (by kernel_rfl) (by kernel_rfl) (fun _ _ _ h => h) (fun wx hx => exec_build3 rfl (buildN L _ _ _ _ _ _ _) rfl rfl rfl) hS7 ?_
      simp only [Act.put, List.setIfInBounds_toArray, List.set_cons_zero, List.set_cons_succ]
      obtain ⟨x5, y5, z5, h45⟩ := hS7.h4
      have hS9 := hS7.put L (.slice aK nK cK) (.slice aV nV cV)
      refine only_skip 11 none rfl rfl rfl (by kernel_rfl) (exec_store rfl (store_node h45 L aK nK cK aV nV cV) rfl rfl) hS9 ?_
      simp only [Act.put]
      refine wpAnyH_done (by kernel_rfl) ?_ _
      go_wp2_with fail
      refine ret_node rfl _ _ _ _ rfl (stN_at h45 L (.slice aK nK cK) (.slice aV nV cV)) rfl ?_
      have ht9 := (ht7.stN (b := w.heap.size + 1) (by omega) L (.slice aK nK cK) (.slice aV nV cV)).base (base' := w.heap.size) (by omega)
      exact ⟨_, _, rfl, ht9, hS9.bel⟩
  · have ht8 := ht.lit2 (by have := hS.lts; omega)
    have hS8 := hS.below (bel_alloc w0 (.cells #[] 3))
    refine step_dst (some 9) rfl rfl (exec_lit0 rfl (lit0 w0)) (hK.out _ _ hS8 (fun _ => ?_))
    simp only [Act.put, List.setIfInBounds_toArray, List.set_cons_zero, List.set_cons_succ]
    have ht9 := ht8.lit (by have := hS8.lts; omega)
    have hS9 := hS8.below (bel_alloc (w0.alloc (.cells #[] 3)) (.cells #[] 3))
    refine only_value 2 (some 5) rfl rfl rfl (by kernel_rfl) (exec_lit0 rfl (lit0 (w0.alloc (.cells #[] 3)))) hS9 ?_
    simp only [Act.put, List.setIfInBounds_toArray, List.set_cons_zero, List.set_cons_succ]
    obtain ⟨v10, w10, ha10, hd10⟩ := ht9.append (by have := hS9.lts; omega) 22 (HK.out.below hS9.bel) (by simp; omega)
    have hS10 := hS9.belowB hd10.bel (Nat.le_refl _)
    have ht10 := hd10.two
    refine only_value 5 (some 8) rfl rfl rfl (by kernel_rfl) (exec_append rfl ha10 rfl rfl) hS10 ?_
    simp only [Act.put, List.setIfInBounds_toArray, List.set_cons_zero, List.set_cons_succ]
    obtain ⟨v11, w11, ha11, hd11⟩ := ht10.swap.append (by have := hS10.lts; omega) 22 (HV.out.below hS10.bel) (by simp; omega)
    have hS11 := hS10.belowB hd11.bel (Nat.le_refl _)
    have ht11 := hd11.two.swap
    refine only_value 9 (some 12) rfl rfl rfl (by kernel_rfl) (exec_append rfl ha11 rfl rfl) hS11 ?_
    simp only [Act.put, List.setIfInBounds_toArray, List.set_cons_zero, List.set_cons_succ]
    obtain ⟨aK, nK, cK, rfl, -⟩ := ht11.hk.form
    obtain ⟨aV, nV, cV, rfl, -⟩ := ht11.hv.form
    refine take_want 10 (some 13) (.agg #[.int .i64 L, .slice aK nK cK, .slice aV nV cV]) rfl rfl rfl (by kernel_rfl) (by kernel_rfl) (by kernel_rfl) (fun _ _ _ h => h) (fun wx hx => exec_build3 rfl (buildN L _ _ _ _ _ _ _) rfl rfl rfl) hS11 ?_
    simp only [Act.put, List.setIfInBounds_toArray, List.set_cons_zero, List.set_cons_succ]
    obtain ⟨x5, y5, z5, h45⟩ := hS11.h4
    have hS9 := hS11.put L (.slice aK nK cK) (.slice aV nV cV)
    refine only_skip 11 none rfl rfl rfl (by kernel_rfl) (exec_store rfl (store_node h45 L aK nK cK aV nV cV) rfl rfl) hS9 ?_
    simp only [Act.put]
    refine wpAnyH_done (by kernel_rfl) ?_ _
    go_wp2_with fail
    refine ret_node rfl _ _ _ _ rfl (stN_at h45 L (.slice aK nK cK) (.slice aV nV cV)) rfl ?_
    have ht9 := (ht11.stN (b := w.heap.size + 1) (by omega) L (.slice aK nK cK) (.slice aV nV cV)).base (base' := w.heap.size) (by omega)
    exact ⟨_, _, rfl, ht9, hS9.bel⟩
end Go.Proofs.YtcidadikmmdalaaDoor
