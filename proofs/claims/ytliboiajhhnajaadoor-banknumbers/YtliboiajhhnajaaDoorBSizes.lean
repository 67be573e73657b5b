/- Sizes by its contract, and the statements' fixed answer. -/
import Derived.Test.YtliboiajhhnajaaDoorBAdd
import Derived.Laws.OwnMore
namespace Go.Proofs.YtliboiajhhnajaaDoor
open Go.RowKit Go.Extern

theorem infoI : (Tryd.prog.info? 3).map (fun i => (i.zero, i.size, i.bytes)) = some (some (.int .i64 0), 1, 8) := by kernel_rfl
theorem exec_make {ρ : Operand → Value} {o : Oper} {w w' : World} {t : TypeId} {x y : Operand} {v xv yv : Value} (ho : o.op = .makeSlice t x y) (hr : (Instr.makeSlice t xv yv).run Tryd.prog w = .ok v w') (hx : ρ x = xv) (hy : ρ y = yv) : (execOp ρ o).run Tryd.prog w = .ok (.value v) w' := by
  unfold execOp; simp [ho, hx, hy, hr]
theorem wpList_make {w w' : World} {ops : Array Oper} {rest : List Oper} {o : Oper} {a : Act} {Q : Exit → Act → World → Prop} {t : TypeId} {x y : Operand} {v xv yv : Value} (hgd : o.guard = none) (ho : o.op = .makeSlice t x y)
    (hr : (Instr.makeSlice t xv yv).run Tryd.prog w = .ok v w') (hx : a.eval x = xv) (hy : a.eval y = yv) (h : wpList Tryd.prog ops Q rest (a.put o.dst v) w') : wpList Tryd.prog ops Q (o :: rest) a w :=
  wpList_exec hgd (exec_make ho hr hx hy) h
theorem madeInts (n : Nat) : (madeCells (Value.int .i64 0).cells (n * 1)).toList = List.replicate n (.int .i64 0) := by
  refine List.ext_getElem? fun i => ?_
  simp only [madeCells, Nat.mul_one, Array.toList_map, Array.toList_range, List.getElem?_map, List.getElem?_replicate]
  by_cases h : i < n
  · simp [h, Value.cells, Nat.mod_one]
  · simp [h]
/-- New numbers, all noughts. -/
theorem make_ints (w : World) (n : Nat) (hn : n ≤ 1000) : ∃ w1, (Instr.makeSlice 22 (.int .i64 (n : Int)) (.int .i64 (n : Int))).run Tryd.prog w = .ok (.slice (some ⟨w.heap.size, 0, none⟩) n n) w1 ∧
    w1.ownsRow w.heap.size 3 1 (.slice (some ⟨w.heap.size, 0, none⟩) n n) n (List.replicate n (.int .i64 0)) ∧ Below w.heap.size w w1 := by
  obtain ⟨i0, hi, hz0, hz1, hz2⟩ := info_parts infoI
  obtain ⟨w1, h1, h2, h3⟩ := run_makeSlice_full (P := Tryd.prog) w w.heap.size 22 3 i0 (.int .i64 0) 1 Tryd.underlying22 hi hz0 hz1 .i64 .i64 n (by omega) (by rw [hz2]; omega) (by unfold maxLen; omega) (Nat.le_refl _)
  rw [madeInts] at h2
  exact ⟨w1, h1, h2, (Below.refl _ _).grown h3 (Nat.le_refl _) (by simp)⟩
theorem ownsRow_set' {w : World} {e : TypeId} {B z g n cap : Nat} {xs : List Value} (h : w.ownsRow B e z (.slice (some ⟨g, 0, none⟩) n cap) n xs) (j : Nat) (u : Value) : (w.setCell ⟨g, j, none⟩ u).ownsRow B e z (.slice (some ⟨g, 0, none⟩) n cap) n (xs.set j u) := by
  obtain ⟨h1, h2⟩ := h
  refine ⟨by rw [List.length_set]; exact h1, ?_⟩
  rcases h2 with ⟨h, -⟩ | ⟨g', cap', cur, hv, hg, hh, hc, hm, hs, ht⟩
  · cases h
  · simp only [Value.slice.injEq, Option.some.injEq, Addr.mk.injEq, and_true, true_and] at hv
    obtain ⟨rfl, rfl⟩ := hv
    refine .inr ⟨g, cap, cur.setIfInBounds j u, rfl, hg, ?_, hc, hm, by simpa using hs, ?_⟩
    · rw [setCell_eq_setRow w g j _ _ _ _ hh]
      exact setRow_heap w g _ _ _ _ hh
    · rw [Array.toList_setIfInBounds, List.take_set, ht]
theorem set_snoc {α : Type} (l : List α) (x y : α) (r : List α) : (l ++ x :: r).set l.length y = (l ++ [y]) ++ r := by
  rw [List.set_append_right _ _ (Nat.le_refl _)]; simp
def sizeV (d : Dev) : Value := .int .i64 (sizeOf d)
def partSz (D : List Dev) (j : Nat) : List Value := (D.take j).map sizeV ++ List.replicate (D.length - j) (.int .i64 0)
theorem partSz_zero (D : List Dev) : partSz D 0 = List.replicate D.length (.int .i64 0) := by simp [partSz]
theorem partSz_end (D : List Dev) : partSz D D.length = D.map sizeV := by simp [partSz]
theorem partSz_step {D : List Dev} {j : Nat} {d : Dev} (h : D[j]? = some d) : (partSz D j).set j (sizeV d) = partSz D (j + 1) := by
  have hl := (List.getElem?_eq_some_iff.1 h).1
  unfold partSz
  have hr : List.replicate (D.length - j) (Value.int .i64 0) = .int .i64 0 :: List.replicate (D.length - (j + 1)) (.int .i64 0) := by
    rw [← List.replicate_succ]; congr 1; omega
  rw [hr]
  have hll : ((D.take j).map sizeV).length = j := by simp; omega
  have := set_snoc ((D.take j).map sizeV) (Value.int .i64 0) (sizeV d) (List.replicate (D.length - (j + 1)) (.int .i64 0))
  rw [hll] at this
  rw [this, take_snoc h, List.map_append]; rfl
theorem partSz_none {D : List Dev} {j : Nat} (h : D[j]? = some none) : partSz D (j + 1) = partSz D j := by
  rw [← partSz_step h]
  refine List.ext_getElem? fun i => ?_
  have hl := (List.getElem?_eq_some_iff.1 h).1
  by_cases e : j = i
  · subst e
    rw [List.getElem?_set_self (by simp [partSz]; omega)]
    unfold partSz
    rw [List.getElem?_append_right (by simp; omega), List.getElem?_replicate, if_pos (by simp; omega)]; rfl
  · rw [List.getElem?_set_ne e]
theorem row_frozen' {w : World} {B : Nat} {e : TypeId} {z g n cap : Nat} {xs : List Value} (h : w.ownsRow B e z (.slice (some ⟨g, 0, none⟩) n cap) n xs) (i : Nat) : w.frozen? ⟨g, i, none⟩ = false := by
  rcases h.2 with ⟨h, -⟩ | ⟨g', cap', cur, hv, hg, hh, -⟩
  · cases h
  · simp only [Value.slice.injEq, Option.some.injEq, Addr.mk.injEq, and_true, true_and] at hv
    obtain ⟨rfl, rfl⟩ := hv
    exact row_frozen hh i
theorem below_set {w0 w : World} {B g i : Nat} (h : Below B w0 w) (hg : B ≤ g) (u : Value) : Below B w0 (w.setCell ⟨g, i, none⟩ u) :=
  ⟨h.os, h.tape, h.output, by rw [set_size]; exact h.size, fun k hk => by rw [Below.heap_setCell _ _ _ _ (fun e => by have e' : k = g := e; omega)]; exact h.block k hk⟩

set_option maxRecDepth 100000 in
set_option maxHeartbeats 1000000 in
theorem sizes_any {w : World} {F : Nat → Prop} {b : Nat} {D : List Dev} {q : Pw} (h : Bk w F b D q) : Calls Tryd.prog 9 #[.pointer (some ⟨b, 0, none⟩)] w (BSized D w) := by
  obtain ⟨v, G, h⟩ := h
  have c0 := h.c0
  have H := hide h
  have hl8 := h.few
  obtain ⟨ao, cap, rfl⟩ := h.form
  obtain ⟨w1, hr1, ho1, hb1⟩ := make_ints w D.length (by omega)
  have HO := hide ho1
  have HB := hide hb1
  have k0 : w1.cell? ⟨b, 0, none⟩ = some (.slice ao D.length cap) := by rw [hb1.cell (cell_lt c0)]; exact c0
  clear h ho1 hb1
  go_enter Tryd.func9, Tryd.ntmps9
  go_wp2_with (first | ((with_reducible refine wpList_make rfl rfl hr1 ?_ ?_ ?_); rfl; rfl))
  go_loopg [17] D.length (fun gk i wr => ∃ j, j + gk = D.length ∧ i = .int .i64 (j : Int) ∧ wr.ownsRow w.heap.size 3 1 (.slice (some ⟨w.heap.size, 0, none⟩) D.length D.length) D.length (partSz D j) ∧ Below w.heap.size w wr)
  case atStart => exact ⟨0, by omega, rfl, by rw [partSz_zero]; exact HO.out, HB.out⟩
  case round =>
    obtain ⟨j, hj, rfl, hown, hbw⟩ := hrel
    have HOW := hide hown
    have HBW := hide hbw
    have HW := hide (H.out.below hbw)
    clear hown hbw HO HB
    cases gk with
    | zero =>
      have hend : ¬ (j : Int) < (D.length : Int) := by omega
      obtain rfl : j = D.length := by omega
      clear hj
      go_wp2
      go_ret
      refine ⟨_, rfl, ?_, HBW.out⟩
      have := HOW.out
      rw [partSz_end] at this
      exact this
    | succ m =>
      have hlt : (j : Int) < (D.length : Int) := by omega
      have hjl : j < D.length := by omega
      obtain ⟨d, hd⟩ : ∃ d, D[j]? = some d := ⟨D[j], by simp⟩
      obtain ⟨g, rfl, -, ck, -⟩ := HW.out.at_ hd
      have hjj : (j : Int) + 1 < 10 := by omega
      cases d with
      | none =>
        rw [ptrV_none] at ck
        have HP := hide (partSz_none hd)
        clear hd
        go_wp2
        go_roundg m
        case measure => omega
        case rel => exact ⟨j + 1, by omega, by go_num, by rw [HP.out]; exact HOW.out, HBW.out⟩
      | some d =>
        obtain ⟨p, S⟩ := d
        rw [ptrV_some] at ck
        have HP := hide (partSz_step hd)
        have HS := hide (size_any (HW.out.dev j p S hd))
        have kj := row_cell HOW.out (j := j) (u := .int .i64 0) (by
          unfold partSz
          rw [List.getElem?_append_right (by simp; omega), List.getElem?_replicate, if_pos (by simp; omega)])
        have fj := row_frozen' HOW.out j
        have hS := (HW.out.dev j p S hd).good.1
        clear hd
        go_wp2_with (go_at_call 16; refine HS.out.mono ?_; rintro e w' ⟨rfl, hww⟩; obtain rfl : wr = w' := hww.symm)
        go_roundg m
        case measure => omega
        case rel =>
          refine ⟨j + 1, by omega, by go_num, ?_, below_set HBW.out (Nat.le_refl _) _⟩
          have := ownsRow_set' HOW.out j (sizeV (some (p, S)))
          rw [HP.out] at this
          exact this

theorem addC_four (D : List Dev) (q : Pw) (hd : q.down = false) (hl : D.length < 8) : addC D q 4 = 0 := by
  unfold addC
  rw [hd, if_neg (by simp), if_neg (by omega)]; rfl
set_option maxRecDepth 100000 in
set_option maxHeartbeats 1000000 in
theorem awake_any (w : World) : Calls Tryd.prog 5 #[] w fun e w' => e = .returned (.bool true) ∧ Below w.heap.size w w' := by
  go_enter Tryd.func5, Tryd.ntmps5
  go_wp2_with fail
  refine (bnew_any w).mono ?_
  rintro e w1 ⟨b, rfl, hbk, hb1⟩
  have HA := hide (badd_any hbk 4)
  have HB1 := hide hb1
  clear hbk hb1
  go_wp2_with fail
  refine HA.out.mono ?_
  rintro e w2 ⟨ht2, he⟩
  rcases he with ⟨hc, -⟩ | ⟨-, rfl, p, hbk⟩
  · exact absurd (addC_four [] pw0 rfl (by simp)) hc
  · have HB2 : Hid (Below w.heap.size w w2) := HB1.out.trans (ht2.below HB1.out.size (fun k hk => hk.1))
    have HS := hide (sizes_any hbk)
    clear ht2 hbk HA
    go_wp2_with fail
    refine HS.out.mono ?_
    rintro e w3 ⟨v, rfl, hv, hb3⟩
    have HB3 := hide (HB2.out.trans (hb3.mono HB2.out.size))
    obtain ⟨g, cap, cur, rfl, -⟩ := ownsRow_pos hv (by simp)
    have c0 : w3.cell? ⟨g, 0, none⟩ = some (.int .i64 4) := row_cell hv (j := 0) rfl
    clear hv hb3 HS
    go_wp2
    go_ret
    exact ⟨rfl, HB3.out⟩
end Go.Proofs.YtliboiajhhnajaaDoor
