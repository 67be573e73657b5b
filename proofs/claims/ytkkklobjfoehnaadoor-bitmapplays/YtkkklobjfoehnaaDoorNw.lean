/- New, Clone. -/
import Derived.Test.YtkkklobjfoehnaaDoorGw
import Derived.Lib.SliceRun
namespace Go.Proofs.YtkkklobjfoehnaaDoor
open Go.RowKit Go.Extern

/-- What is new. -/
def newF (w w' : World) (k : Nat) : Prop := w.heap.size ≤ k ∧ k < w'.heap.size
/-- A new bitmap of the flags 'l'. -/
structure Fresh (l : List Bool) (w : World) (b : Nat) (w' : World) : Prop where
  bm : Bm w' (newF w w') b l
  bel : Below w.heap.size w w'
theorem fresh_blk (w : World) : Bm (w.alloc (.cells #[.int .i64 0, .slice none 0 0] 53)) (fun k => k = w.heap.size) w.heap.size [] :=
  ⟨.slice none 0 0, [], by rw [heap_alloc_new]; rfl, World.ownsRow_nil _ _ _ _, isMap_nil, by simp, rfl, fun g hg => by cases hg⟩
theorem bel_alloc (w : World) (o : Obj) : Below w.heap.size w (w.alloc o) := (Below.refl _ _).alloc (Nat.le_refl _) _
set_option maxRecDepth 100000 in
theorem new_bad (n : Int) (hn : ¬ (0 ≤ n ∧ n ≤ 4096)) (w : World) :
    Calls Tryd.prog 6 #[.int .i64 n] w fun e w' => e = .returned (.tuple #[.pointer none, errV 20]) ∧ Below w.heap.size w w' := by
  have hg : growB [] n = false := by unfold growB; simp; omega
  have HB := hide (bel_alloc w (.cells #[.int .i64 0, .slice none 0 0] 53))
  have HG := hide (grow_bad (fresh_blk w) n hg)
  clear hg hn
  rw [show errV 20 = .iface 55 (.int .i64 20) from rfl] at *
  go_enter Tryd.func6, Tryd.ntmps6
  go_wp2_with (go_at_call 12; refine HG.out.mono ?_; rintro e w' ⟨rfl, rfl⟩)
  go_ret2
  exact ⟨rfl, HB.out⟩
set_option maxRecDepth 100000 in
theorem new_ok (n : Nat) (hn : n ≤ 4096) (w : World) :
    Calls Tryd.prog 6 #[.int .i64 (n : Int)] w fun e w' => ∃ b, e = .returned (.tuple #[.pointer (some ⟨b, 0, none⟩), .nilIface]) ∧ Fresh (List.replicate n false) w b w' := by
  have HB := hide (bel_alloc w (.cells #[.int .i64 0, .slice none 0 0] 53))
  have HG := hide (grow_ok (fresh_blk w) n (by simpa using hn))
  clear hn
  go_enter Tryd.func6, Tryd.ntmps6
  go_wp2_with (go_at_call 12; refine HG.out.mono ?_; rintro e w' ⟨rfl, hgr⟩)
  go_ret2
  have hs := hgr.turn.size
  have hsz : (w.alloc (.cells #[.int .i64 0, .slice none 0 0] 53)).heap.size = w.heap.size + 1 := by simp
  refine ⟨_, rfl, ⟨?_, ?_⟩⟩
  · have := hgr.bm
    rw [List.nil_append] at this
    exact this.mono fun k hk => by
      rcases hk with rfl | hk
      · exact ⟨Nat.le_refl _, by omega⟩
      · exact ⟨by omega, hk.2⟩
  · exact HB.out.trans (hgr.turn.below (by omega) (fun k hk => by rw [hk]; exact Nat.le_refl _))
theorem wpList_exec {w w' : World} {ops : Array Oper} {rest : List Oper} {o : Oper} {a : Act} {Q : Exit → Act → World → Prop} {v : Value} (hgd : o.guard = none) (hrun : (execOp a.eval o).run Tryd.prog w = .ok (.value v) w') (h : wpList Tryd.prog ops Q rest (a.put o.dst v) w') : wpList Tryd.prog ops Q (o :: rest) a w := by
  refine wpList_plain hgd fun K hK => ?_
  unfold Oper.wp
  rw [hrun]
  exact hK _ _ h
theorem wpList_appendT {ts ty : TypeId} {w w' : World} {ops : Array Oper} {rest : List Oper} {o : Oper} {a : Act} {Q : Exit → Act → World → Prop} {x y : Operand} {v xv yv : Value} (hgd : o.guard = none) (ho : o.op = .call { callee := .builtin .append, args := #[x, y], argTypes := #[ts, ts] })
    (hr : (Builtin.append_ #[ts, ts] ty #[xv, yv]).run Tryd.prog w = .ok v w') (hty : o.type = ty) (hx : a.eval x = xv) (hy : a.eval y = yv)
    (h : wpList Tryd.prog ops Q rest (a.put o.dst v) w') : wpList Tryd.prog ops Q (o :: rest) a w :=
  wpList_exec hgd (exec_append ho (by rw [hty]; exact hr) hx hy) h
set_option maxRecDepth 100000 in
theorem sclone_any {w : World} {base : Nat} (v : Value) (ws : List Nat) (hv : w.ownsRow base 57 1 v (wordsC ws).length (wordsC ws)) (hl : ws.length ≤ 1000) :
    Calls Tryd.prog 26 #[v] w fun e w' => ∃ u, e = .returned u ∧ w'.ownsRow w.heap.size 57 1 u (wordsC ws).length (wordsC ws) ∧ Below w.heap.size w w' := by
  have hlen : (wordsC ws).length ≤ 1000 := by rw [wordsC_length]; exact hl
  rcases hv.2 with ⟨rfl, h0⟩ | ⟨g, cap, cur, rfl, -⟩
  · have q1 := Lib.run_eql_slice_nil (P := Tryd.prog) w 51 57 none 0 0 0 0 Tryd.underlying51
    have HE : Hid (w.ownsRow w.heap.size 57 1 (.slice none 0 0) (wordsC ws).length (wordsC ws)) := hide (by
      have : wordsC ws = [] := List.length_eq_zero_iff.1 h0
      rw [this]; exact World.ownsRow_nil _ _ _ _)
    clear hv h0
    go_enter Tryd.func26, Tryd.ntmps26
    go_wp2
    go_ret
    exact ⟨_, rfl, HE.out, Below.refl _ _⟩
  · have hrow := ownsRow_row hv (by omega)
    have hb1 := bel_alloc w (.cells #[] 57)
    obtain ⟨i0, hi, hz0, hz1, hz2⟩ := info3 infoU64
    obtain ⟨v', w2, hrun, hgrew⟩ := append_row (P := Tryd.prog) (ty := 51) Tryd.underlying51 hi hz0 hz1 hz2 rfl (by decide) (w.alloc (.cells #[] 57)) w.heap.size (.slice (some ⟨w.heap.size, 0, none⟩) 0 0) _ [] (wordsC ws) (lit_row w w.heap.size 57 [] (Nat.le_refl _) (by simp)) (hrow.below hb1) (wordsC_one ws) (by simp; omega) (by simp)
    have HG : Hid (w2.ownsRow w.heap.size 57 1 v' (wordsC ws).length (wordsC ws)) := hide (by have := hgrew.own; simpa using this)
    have HB : Hid (Below w.heap.size w w2) := hide (hb1.trans (hgrew.below (by simp) (fun k hk => by simp only [Value.ownBlock, Option.some.injEq] at hk; omega)))
    have q1 := Lib.run_eql_slice_nil (P := Tryd.prog) w 51 57 (some ⟨g, 0, none⟩) (wordsC ws).length cap 0 0 Tryd.underlying51
    obtain ⟨ao', cap', e'⟩ := ownsRow_form HG.out
    clear hgrew hv hrow hb1
    generalize (wordsC ws).length = n at *
    subst e'
    go_enter Tryd.func26, Tryd.ntmps26
    go_wp2_with (at_builtin; (with_reducible refine wpList_appendT rfl rfl hrun ?_ ?_ ?_ ?_); rfl; rfl; rfl)
    go_ret
    exact ⟨_, rfl, HG.out, HB.out⟩
/- CLONE -/
theorem exec_build2 {ρ : Operand → Value} {o : Oper} {w : World} {t : TypeId} {x y : Operand} {v xv yv : Value} (ho : o.op = .build t #[(0, x), (1, y)]) (hr : (Instr.build t #[(0, xv), (1, yv)]).run Tryd.prog w = .ok v w) (hx : ρ x = xv) (hy : ρ y = yv) : (execOp ρ o).run Tryd.prog w = .ok (.value v) w := by
  unfold execOp; simp [ho, hr, hx, hy]
theorem build_bm (n : Int) (ao : Option Addr) (k c : Nat) (w : World) : (Instr.build 53 #[(0, .int .i64 n), (1, .slice ao k c)]).run Tryd.prog w = .ok (.agg #[.int .i64 n, .slice ao k c]) w := by kernel_rfl
theorem exec_box {ρ : Operand → Value} {o : Oper} {w : World} {x : Operand} {n : Int} {ao : Option Addr} {k c : Nat} (ho : o.op = .box 53 x) (hx : ρ x = .agg #[.int .i64 n, .slice ao k c]) : (execOp ρ o).run Tryd.prog w = .ok (.value (.pointer (some ⟨w.heap.size, 0, none⟩))) (w.alloc (.cells #[.int .i64 n, .slice ao k c] 53)) := by
  unfold execOp; simp only [ho, hx]; go_simp
set_option maxRecDepth 100000 in
theorem clone_any {w : World} {F : Nat → Prop} {b : Nat} {l : List Bool} (h : Bm w F b l) :
    Calls Tryd.prog 13 #[.pointer (some ⟨b, 0, none⟩)] w fun e w' => ∃ b', e = .returned (.pointer (some ⟨b', 0, none⟩)) ∧ Fresh l w b' w' := by
  obtain ⟨v, ws, h⟩ := h
  have HW : Hid (ws.length ≤ 1000) := hide (by have := h.wl; omega)
  have HL := hide h.len
  have HM := hide h.map
  have HH : Hid (HB w F b l v ws w.drew) := hide ⟨h.below (Below.refl _ _).drew, (Below.refl _ _).drew⟩
  obtain ⟨ao, cap, rfl⟩ := ownsRow_form h.row
  clear h
  go_enter Tryd.func13, Tryd.ntmps13
  go_wp2_with fail
  refine wp_region_held_drew (S := HB w F b l (.slice ao (wordsC ws).length cap) ws) (by kernel_rfl) HH.out (fun hS => ?_)
  refine take_want 0 (some 3) (.pointer (some ⟨b, 0, none⟩)) rfl rfl rfl (by kernel_rfl) (by kernel_rfl) (by kernel_rfl) (fun _ _ _ h => h) (fun wx hx => exec_move rfl rfl) hS ?_
  simp only [Act.put, List.setIfInBounds_toArray, List.set_cons_zero, List.set_cons_succ]
  refine take_want 1 (some 4) (.pointer (some ⟨b, 0, none⟩)) rfl rfl rfl (by kernel_rfl) (by kernel_rfl) (by kernel_rfl) (fun _ _ _ h => h) (fun wx hx => exec_nilCheck rfl rfl) hS ?_
  simp only [Act.put, List.setIfInBounds_toArray, List.set_cons_zero, List.set_cons_succ]
  refine take_want 2 (some 5) (.pointer (some ⟨b, 0, none⟩)) rfl rfl rfl (by kernel_rfl) (by kernel_rfl) (by kernel_rfl) (fun _ _ _ h => h) (fun wx hx => exec_field rfl (bmField0 _ wx) rfl) hS ?_
  simp only [Act.put, List.setIfInBounds_toArray, List.set_cons_zero, List.set_cons_succ]
  refine take_want 3 (some 6) (.int .i64 (l.length : Int)) rfl rfl rfl (by kernel_rfl) (by kernel_rfl) (by kernel_rfl) (fun _ _ _ h => h) (fun wx hx => exec_load rfl (load_intV hx.bm.cells.1) rfl) hS ?_
  simp only [Act.put, List.setIfInBounds_toArray, List.set_cons_zero, List.set_cons_succ]
  refine take_want 4 (some 7) (.pointer (some ⟨b, 0, none⟩)) rfl rfl rfl (by kernel_rfl) (by kernel_rfl) (by kernel_rfl) (fun _ _ _ h => h) (fun wx hx => exec_move rfl rfl) hS ?_
  simp only [Act.put, List.setIfInBounds_toArray, List.set_cons_zero, List.set_cons_succ]
  refine take_want 5 (some 8) (.pointer (some ⟨b, 0, none⟩)) rfl rfl rfl (by kernel_rfl) (by kernel_rfl) (by kernel_rfl) (fun _ _ _ h => h) (fun wx hx => exec_nilCheck rfl rfl) hS ?_
  simp only [Act.put, List.setIfInBounds_toArray, List.set_cons_zero, List.set_cons_succ]
  refine take_want 6 (some 9) (.pointer (some ⟨b, 1, none⟩)) rfl rfl rfl (by kernel_rfl) (by kernel_rfl) (by kernel_rfl) (fun _ _ _ h => h) (fun wx hx => exec_field rfl (bmField1 _ wx) rfl) hS ?_
  simp only [Act.put, List.setIfInBounds_toArray, List.set_cons_zero, List.set_cons_succ]
  refine take_want 7 (some 10) (.slice ao (wordsC ws).length cap) rfl rfl rfl (by kernel_rfl) (by kernel_rfl) (by kernel_rfl) (fun _ _ _ h => h) (fun wx hx => exec_load rfl (load_words hx.bm.cells.2) rfl) hS ?_
  simp only [Act.put, List.setIfInBounds_toArray, List.set_cons_zero, List.set_cons_succ]
  refine call_want 8 (some 11) rfl rfl rfl (by kernel_rfl) (exec_call1 rfl enterSClone rfl rfl) ((sclone_any _ ws hS.bm.row HW.out).mono ?_)
  rintro e' w2 ⟨u, rfl, hu, hb2⟩
  have HU := hide hu
  obtain ⟨aou, capu, rfl⟩ := ownsRow_form hu
  have hS1 := hS.below hb2
  have HB2 := hide hb2
  clear hu hb2
  refine ⟨_, rfl, hS1, ?_⟩
  simp only [Act.put, List.setIfInBounds_toArray, List.set_cons_zero, List.set_cons_succ]
  refine take_want 9 (some 12) (.agg #[(.int .i64 (l.length : Int)), (.slice aou (wordsC ws).length capu)]) rfl rfl rfl (by kernel_rfl) (by kernel_rfl) (by kernel_rfl) (fun _ _ _ h => h) (fun wx hx => exec_build2 rfl (build_bm _ _ _ _ _) rfl rfl) hS1 ?_
  simp only [Act.put, List.setIfInBounds_toArray, List.set_cons_zero, List.set_cons_succ]
  refine only_value 10 (some 13) rfl rfl rfl (by kernel_rfl) (exec_box rfl rfl) (hS1.below (bel_alloc _ _)) ?_
  simp only [Act.put, List.setIfInBounds_toArray, List.set_cons_zero, List.set_cons_succ]
  have hS2 := hS1.below (bel_alloc _ (.cells #[(.int .i64 (l.length : Int)), (.slice aou (wordsC ws).length capu)] 53))
  refine take_want 11 (some 2) (.pointer (some ⟨w2.heap.size, 0, none⟩)) rfl rfl rfl (by kernel_rfl) (by kernel_rfl) (by kernel_rfl) (fun _ _ _ h => h) (fun wx hx => exec_assign rfl rfl) hS2 ?_
  simp only [Act.put, List.setIfInBounds_toArray, List.set_cons_zero, List.set_cons_succ]
  refine wpAnyH_done (by kernel_rfl) ?_ _
  go_wp2
  go_ret
  have hz := hS.bel.size
  have hz2 := HB2.out.size
  have hb3 := bel_alloc w2 (.cells #[.int .i64 (l.length : Int), .slice aou (wordsC ws).length capu] 53)
  have hz3 : (w2.alloc (.cells #[.int .i64 (l.length : Int), .slice aou (wordsC ws).length capu] 53)).heap.size = w2.heap.size + 1 := by simp
  refine ⟨_, rfl, ⟨_, ws, heap_alloc_new _ _, ownsRow_base (ownsRow_below HU.out hb3) (Nat.zero_le _), HM.out, HL.out, ⟨by omega, by omega⟩, fun g hg => ?_⟩, hS2.bel⟩
  have := HU.out.lt g hg
  exact ⟨by omega, by omega⟩
end Go.Proofs.YtkkklobjfoehnaaDoor
