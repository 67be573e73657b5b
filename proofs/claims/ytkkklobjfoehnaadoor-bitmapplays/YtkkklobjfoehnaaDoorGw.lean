/- Grow. -/
import Derived.Test.YtkkklobjfoehnaaDoorSc
import Derived.Test.YtkkklobjfoehnaaDoorAz
namespace Go.Proofs.YtkkklobjfoehnaaDoor
open Go.RowKit Go.Extern

theorem exec_appendZ {ρ : Operand → Value} {o : Oper} {w w' : World} {x y : Operand} {v xv yv : Value} (ho : o.op = .call { callee := .builtin .append, args := #[x, y], argTypes := #[51, 3] }) (hr : (Builtin.append_ #[51, 3] o.type #[xv, yv]).run Tryd.prog w = .ok v w') (hx : ρ x = xv) (hy : ρ y = yv) : (execOp ρ o).run Tryd.prog w = .ok (.value v) w' := by
  unfold execOp; simp [ho, resolve, invoke, builtin, hx, hy, hr]
theorem store_words {w : World} {p : Addr} {u : Value} {ao : Option Addr} {n c : Nat} (h : w.cell? p = some u) (hf : w.frozen? p = false) : (Instr.storeAt 51 (.pointer (some p)) (.slice ao n c)).run Tryd.prog w = .ok () (w.setCell p (.slice ao n c)) := by
  go_simp
theorem info3 {P : Program} {e : TypeId} {z : Option Value} {s b : Nat} (h : (P.info? e).map (fun i => (i.zero, i.size, i.bytes)) = some (z, s, b)) : ∃ i, P.info? e = some i ∧ i.zero = z ∧ i.size = s ∧ i.bytes = b := by
  obtain ⟨i, hi, h2⟩ := Option.map_eq_some_iff.1 h
  simp only [Prod.mk.injEq] at h2
  exact ⟨i, hi, h2.1, h2.2.1, h2.2.2⟩
theorem infoU64 : (Tryd.prog.info? 57).map (fun i => (i.zero, i.size, i.bytes)) = some (some (.int .u64 0), 1, 8) := by kernel_rfl
theorem wordsC_zeros (q : Nat) : wordsC (List.replicate q 0) = List.replicate q (.int .u64 0) := by simp [wordsC]
/-- A bitmap whose length is written, its words not yet. -/
theorem grow_mid {w : World} {F : Nat → Prop} {b : Nat} {l : List Bool} {v : Value} {ws : List Nat} (h : BmAt w F b l v ws) (u : Value) :
    (w.setCell ⟨b, 0, none⟩ u).drew.heap[b]? = some (.cells #[u, v] 53 (0, 0)) ∧ (w.setCell ⟨b, 0, none⟩ u).drew.ownsRow 0 57 1 v (wordsC ws).length (wordsC ws) ∧ Turn F w (w.setCell ⟨b, 0, none⟩ u).drew := by
  refine ⟨?_, ?_, Turn.trans (setCell_turn h.inB u) (Turn.of_below (Below.refl _ _).drew) (fun _ _ h => h)⟩
  · show (w.setCell ⟨b, 0, none⟩ u).heap[b]? = _
    rw [set_cell_row h.blk]; rfl
  · refine ownsRow_of_block h.row fun k o hk ho => ?_
    show (w.setCell ⟨b, 0, none⟩ u).heap[k]? = _
    rw [Below.heap_setCell _ _ _ _ (h.ne hk)]; exact ho
theorem grow_end {w W : World} {F : Nat → Prop} {b : Nat} {l : List Bool} {v : Value} {ws : List Nat} (h : BmAt w F b l v ws) {n : Int} (hb : W.heap[b]? = some (.cells #[.int .i64 n, v] 53 (0, 0))) (ht : Turn F w W) {l' : List Bool} {ws' : List Nat} {v' : Value} {w' : World} (hg : Grew 57 W v 0 w' v' (wordsC ws'))
    (hm : IsMap ws' l') (hl : l'.length ≤ 4096) (hn : n = (l'.length : Int)) : w'.heap[b]? = some (.cells #[.int .i64 n, v] 53 (0, 0)) ∧ Bm (w'.setCell ⟨b, 1, none⟩ v') (ext F w (w'.setCell ⟨b, 1, none⟩ v')) b l' ∧ Turn F w (w'.setCell ⟨b, 1, none⟩ v') := by
  have hb' : w'.heap[b]? = some (.cells #[.int .i64 n, v] 53 (0, 0)) := by
    rw [hg.grown.block b (heap_lt hb) (fun e => h.ne e.symm rfl)]; exact hb
  have hne : ∀ g, v'.ownBlock = some g → g ≠ b := by
    intro g hv e
    rcases hg.own.2 with ⟨rfl, -⟩ | ⟨g', cap, cur, rfl, -, hh, -⟩
    · cases hv
    · simp only [Value.ownBlock, Option.some.injEq] at hv
      subst hv
      rw [e, hb'] at hh
      cases hh
  have hT : Turn F w (w'.setCell ⟨b, 1, none⟩ v') := (ht.trans (Turn.of_grown (F := F) hg.grown (fun k hk => h.inV k hk)) (fun _ _ h => h)).trans (setCell_turn h.inB v') (fun _ _ h => h)
  refine ⟨hb', ⟨v', ws', ?_, ?_, hm, hl, .inl h.inB, fun g hv => ?_⟩, hT⟩
  · rw [set_cell_row hb', hn]; rfl
  · exact ownsRow_of_block hg.own fun k o hk ho => by rw [Below.heap_setCell _ _ _ _ (hne k hk)]; exact ho
  · have hlt := hg.own.lt g hv
    rcases hg.at_ with e | e
    · exact .inl (h.inV g (by rw [← e]; exact hv))
    · rw [e] at hv
      have e2 := Option.some.inj hv
      subst e2
      refine .inr ⟨ht.size, ?_⟩
      have : (w'.setCell ⟨b, 1, none⟩ v').heap.size = w'.heap.size := by simp [World.setCell]
      omega

/-- May a bitmap grow by so many? -/
def growB (l : List Bool) (m : Int) : Bool := decide (0 ≤ m ∧ (l.length : Int) + m ≤ 4096)
set_option maxRecDepth 100000 in
theorem grow_bad {w : World} {F : Nat → Prop} {b : Nat} {l : List Bool} (h : Bm w F b l) (m : Int) (hm : growB l m = false) :
    Calls Tryd.prog 12 #[.pointer (some ⟨b, 0, none⟩), .int .i64 m] w fun e w' => e = .returned (errV 20) ∧ w' = w := by
  have hn := of_decide_eq_false hm
  have hl := h.len
  obtain ⟨v, ws, h⟩ := h
  obtain ⟨c0, c1⟩ := h.cells
  have e1 : IntKind.i64.wrap (4096 - (l.length : Int)) = 4096 - (l.length : Int) := IntWalk.i64_in _ ⟨by omega, by omega⟩
  clear h hm
  by_cases h0 : m < 0
  · have d0 : decide (m < 0) = true := by simpa using h0
    clear h0 hn
    go_enter Tryd.func12, Tryd.ntmps12
    go_wp2
    go_ret
    exact ⟨rfl, rfl⟩
  · have d0 : decide (m < 0) = false := by simpa using h0
    have d1 : decide (4096 - (l.length : Int) < m) = true := by simp; omega
    clear h0 hn
    go_enter Tryd.func12, Tryd.ntmps12
    go_wp2
    go_ret
    exact ⟨rfl, rfl⟩
/-- What Grow leaves of a bitmap. -/
structure Grown (F : Nat → Prop) (b : Nat) (l : List Bool) (w w' : World) : Prop where
  bm : Bm w' (ext F w w') b l
  turn : Turn F w w'
set_option maxRecDepth 100000 in
set_option maxHeartbeats 1000000 in
theorem grow_ok {w : World} {F : Nat → Prop} {b : Nat} {l : List Bool} (h : Bm w F b l) (m : Nat) (hm : l.length + m ≤ 4096) :
    Calls Tryd.prog 12 #[.pointer (some ⟨b, 0, none⟩), .int .i64 (m : Int)] w fun e w' => e = .returned .nilIface ∧ Grown F b (l ++ List.replicate m false) w w' := by
  obtain ⟨v, ws, h⟩ := h
  obtain ⟨c0, c1⟩ := h.cells
  have fz := row_frozen h.blk 0
  have e1 : IntKind.i64.wrap (4096 - (l.length : Int)) = 4096 - (l.length : Int) := IntWalk.i64_in _ ⟨by omega, by omega⟩
  have d0 : decide ((m : Int) < 0) = false := by simp
  have d1 : decide (4096 - (l.length : Int) < (m : Int)) = false := by simp; omega
  have e2 : IntKind.i64.wrap ((l.length : Int) + (m : Int)) = ((l.length + m : Nat) : Int) := by rw [IntWalk.i64_in _ ⟨by omega, by omega⟩]; omega
  have e3 : IntKind.i64.wrap (((l.length + m : Nat) : Int) + 63) = ((l.length + m + 63 : Nat) : Int) := by rw [IntWalk.i64_in _ ⟨by omega, by omega⟩]; omega
  have hwl := h.wl
  have hml := h.map.len
  obtain ⟨q, hq0⟩ : ∃ q, q = (l.length + m + 63) / 64 - ws.length := ⟨_, rfl⟩
  have hq : (((l.length : Int) + (m : Int) + 63) / 64) - (ws.length : Int) = (q : Int) := by omega
  have hqs : q ≤ 100 := by omega
  obtain ⟨m1, m2, m3⟩ := grow_mid h (.int .i64 ((l.length : Int) + (m : Int)))
  obtain ⟨i0, hi, hz0, hz1, hz2⟩ := info3 infoU64
  obtain ⟨v', w2, hrun, hgrew⟩ := append_zeros (P := Tryd.prog) (ty := 51) _ Tryd.underlying51 Tryd.underlying3 hi hz0 hz1 hz2 rfl rfl (by decide) 0 v (wordsC ws) m2 q (by rw [wordsC_length]; omega) (Nat.zero_le _)
  rw [← wordsC_zeros, ← wordsC_append] at hgrew
  have hmap := isMap_grow h.map m
  rw [← hq0] at hmap
  obtain ⟨b2, g1, g2⟩ := grow_end h m1 m3 hgrew hmap (by simp; omega) (by simp)
  have C1 : Hid ((w.setCell ⟨b, 0, none⟩ (.int .i64 ((l.length : Int) + (m : Int)))).drew.cell? ⟨b, 1, none⟩ = some v) := hide (by rw [cell_of_row _ b 1 _ _ _ m1]; rfl)
  have C2 : Hid (w2.cell? ⟨b, 1, none⟩ = some v) := hide (by rw [cell_of_row _ b 1 _ _ _ b2]; rfl)
  have Z2 := hide (row_frozen b2 1)
  have HG := hide (Grown.mk g1 g2)
  obtain ⟨ao', cap', e'⟩ := ownsRow_form hgrew.own
  generalize (wordsC (ws ++ List.replicate q 0)).length = n' at e'
  subst e'
  obtain ⟨ao, cap, e⟩ := ownsRow_form h.row
  rw [wordsC_length] at e
  subst e
  clear h g1 g2 b2 hgrew hmap m1 m2 m3 hq0 hml
  go_enter Tryd.func12, Tryd.ntmps12
  go_wp2_with fail
  refine wp_region_held_drew (S := fun _ => True) (by kernel_rfl) trivial (fun _ => ?_)
  refine take_want 0 (some 32) (.pointer (some ⟨b, 0, none⟩)) rfl rfl rfl (by kernel_rfl) (by kernel_rfl) (by kernel_rfl) (fun _ _ _ h => h) (fun wx hx => exec_move rfl rfl) trivial ?_
  simp only [Act.put, List.setIfInBounds_toArray, List.set_cons_zero, List.set_cons_succ]
  refine take_want 1 (some 33) (.pointer (some ⟨b, 0, none⟩)) rfl rfl rfl (by kernel_rfl) (by kernel_rfl) (by kernel_rfl) (fun _ _ _ h => h) (fun wx hx => exec_move rfl rfl) trivial ?_
  simp only [Act.put, List.setIfInBounds_toArray, List.set_cons_zero, List.set_cons_succ]
  refine take_want 2 (some 34) (.pointer (some ⟨b, 0, none⟩)) rfl rfl rfl (by kernel_rfl) (by kernel_rfl) (by kernel_rfl) (fun _ _ _ h => h) (fun wx hx => exec_nilCheck rfl rfl) trivial ?_
  simp only [Act.put, List.setIfInBounds_toArray, List.set_cons_zero, List.set_cons_succ]
  refine take_want 3 (some 35) (.pointer (some ⟨b, 1, none⟩)) rfl rfl rfl (by kernel_rfl) (by kernel_rfl) (by kernel_rfl) (fun _ _ _ h => h) (fun wx hx => exec_field rfl (bmField1 _ wx) rfl) trivial ?_
  simp only [Act.put, List.setIfInBounds_toArray, List.set_cons_zero, List.set_cons_succ]
  refine take_want 5 (some 37) (.int .i64 (((l.length : Int) + (m : Int) + 63) / 64)) rfl rfl rfl (by kernel_rfl) (by kernel_rfl) (by kernel_rfl) (fun _ _ _ h => h) (fun wx hx => exec_move rfl rfl) trivial ?_
  simp only [Act.put, List.setIfInBounds_toArray, List.set_cons_zero, List.set_cons_succ]
  refine take_want 6 (some 38) (.pointer (some ⟨b, 0, none⟩)) rfl rfl rfl (by kernel_rfl) (by kernel_rfl) (by kernel_rfl) (fun _ _ _ h => h) (fun wx hx => exec_move rfl rfl) trivial ?_
  simp only [Act.put, List.setIfInBounds_toArray, List.set_cons_zero, List.set_cons_succ]
  refine take_want 7 (some 39) (.pointer (some ⟨b, 0, none⟩)) rfl rfl rfl (by kernel_rfl) (by kernel_rfl) (by kernel_rfl) (fun _ _ _ h => h) (fun wx hx => exec_nilCheck rfl rfl) trivial ?_
  simp only [Act.put, List.setIfInBounds_toArray, List.set_cons_zero, List.set_cons_succ]
  refine take_want 8 (some 40) (.pointer (some ⟨b, 1, none⟩)) rfl rfl rfl (by kernel_rfl) (by kernel_rfl) (by kernel_rfl) (fun _ _ _ h => h) (fun wx hx => exec_field rfl (bmField1 _ wx) rfl) trivial ?_
  simp only [Act.put, List.setIfInBounds_toArray, List.set_cons_zero, List.set_cons_succ]
  refine wpAnyH_ready (rs := [4, 9]) (by kernel_rfl) (by simp) ((AllReadyH.cons rfl (fun K hK => ?_) (AllReadyH.cons rfl (fun K hK => ?_) AllReadyH.nil)))
  · refine step_dst (some 36) rfl rfl (exec_load rfl (load_words C1.out) rfl) (hK.out _ _ trivial (fun _ => ?_))
    clear hK K
    simp only [Act.put, List.setIfInBounds_toArray, List.set_cons_zero, List.set_cons_succ]
    refine only_value 9 (some 41) rfl rfl rfl (by kernel_rfl) (exec_load rfl (load_words C1.out) rfl) trivial ?_
    simp only [Act.put, List.setIfInBounds_toArray, List.set_cons_zero, List.set_cons_succ]
    refine take_want 10 (some 42) (.int .i64 (ws.length : Int)) rfl rfl rfl (by kernel_rfl) (by kernel_rfl) (by kernel_rfl) (fun _ _ _ h => h) (fun wx hx => exec_len rfl (len_words _ _ _ _) rfl) trivial ?_
    simp only [Act.put, List.setIfInBounds_toArray, List.set_cons_zero, List.set_cons_succ]
    refine take_want 11 (some 43) (.int .i64 (q : Int)) rfl rfl rfl (by kernel_rfl) (by kernel_rfl) (by kernel_rfl) (fun _ _ _ h => h) (fun wx hx => exec_subN rfl rfl rfl hq (by omega) (by omega)) trivial ?_
    simp only [Act.put, List.setIfInBounds_toArray, List.set_cons_zero, List.set_cons_succ]
    refine only_value 12 (some 44) rfl rfl rfl (by kernel_rfl) (exec_appendZ rfl hrun rfl rfl) trivial ?_
    simp only [Act.put, List.setIfInBounds_toArray, List.set_cons_zero, List.set_cons_succ]
    refine take_want 13 (some 45) (.pointer (some ⟨b, 0, none⟩)) rfl rfl rfl (by kernel_rfl) (by kernel_rfl) (by kernel_rfl) (fun _ _ _ h => h) (fun wx hx => exec_nilCheck rfl rfl) trivial ?_
    simp only [Act.put, List.setIfInBounds_toArray, List.set_cons_zero, List.set_cons_succ]
    refine take_want 14 (some 46) (.pointer (some ⟨b, 1, none⟩)) rfl rfl rfl (by kernel_rfl) (by kernel_rfl) (by kernel_rfl) (fun _ _ _ h => h) (fun wx hx => exec_field rfl (bmField1 _ wx) rfl) trivial ?_
    simp only [Act.put, List.setIfInBounds_toArray, List.set_cons_zero, List.set_cons_succ]
    refine only_skip 15 none rfl rfl rfl (by kernel_rfl) (exec_store rfl (store_words C2.out Z2.out) rfl rfl) trivial ?_
    simp only [Act.put]
    refine wpAnyH_done (by kernel_rfl) ?_ _
    go_wp2
    go_ret
    exact ⟨rfl, HG.out⟩
  · refine step_dst (some 41) rfl rfl (exec_load rfl (load_words C1.out) rfl) (hK.out _ _ trivial (fun _ => ?_))
    clear hK K
    simp only [Act.put, List.setIfInBounds_toArray, List.set_cons_zero, List.set_cons_succ]
    refine take_want 10 (some 42) (.int .i64 (ws.length : Int)) rfl rfl rfl (by kernel_rfl) (by kernel_rfl) (by kernel_rfl) (fun _ _ _ h => h) (fun wx hx => exec_len rfl (len_words _ _ _ _) rfl) trivial ?_
    simp only [Act.put, List.setIfInBounds_toArray, List.set_cons_zero, List.set_cons_succ]
    refine take_want 11 (some 43) (.int .i64 (q : Int)) rfl rfl rfl (by kernel_rfl) (by kernel_rfl) (by kernel_rfl) (fun _ _ _ h => h) (fun wx hx => exec_subN rfl rfl rfl hq (by omega) (by omega)) trivial ?_
    simp only [Act.put, List.setIfInBounds_toArray, List.set_cons_zero, List.set_cons_succ]
    refine only_value 4 (some 36) rfl rfl rfl (by kernel_rfl) (exec_load rfl (load_words C1.out) rfl) trivial ?_
    simp only [Act.put, List.setIfInBounds_toArray, List.set_cons_zero, List.set_cons_succ]
    refine only_value 12 (some 44) rfl rfl rfl (by kernel_rfl) (exec_appendZ rfl hrun rfl rfl) trivial ?_
    simp only [Act.put, List.setIfInBounds_toArray, List.set_cons_zero, List.set_cons_succ]
    refine take_want 13 (some 45) (.pointer (some ⟨b, 0, none⟩)) rfl rfl rfl (by kernel_rfl) (by kernel_rfl) (by kernel_rfl) (fun _ _ _ h => h) (fun wx hx => exec_nilCheck rfl rfl) trivial ?_
    simp only [Act.put, List.setIfInBounds_toArray, List.set_cons_zero, List.set_cons_succ]
    refine take_want 14 (some 46) (.pointer (some ⟨b, 1, none⟩)) rfl rfl rfl (by kernel_rfl) (by kernel_rfl) (by kernel_rfl) (fun _ _ _ h => h) (fun wx hx => exec_field rfl (bmField1 _ wx) rfl) trivial ?_
    simp only [Act.put, List.setIfInBounds_toArray, List.set_cons_zero, List.set_cons_succ]
    refine only_skip 15 none rfl rfl rfl (by kernel_rfl) (exec_store rfl (store_words C2.out Z2.out) rfl rfl) trivial ?_
    simp only [Act.put]
    refine wpAnyH_done (by kernel_rfl) ?_ _
    go_wp2
    go_ret
    exact ⟨rfl, HG.out⟩
end Go.Proofs.YtkkklobjfoehnaaDoor
