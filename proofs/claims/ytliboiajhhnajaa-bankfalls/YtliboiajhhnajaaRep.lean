/- repeated by its contract. -/
import Derived.Test.YtliboiajhhnajaaFillS
namespace Go.Proofs.Ytliboiajhhnajaa
open Go.RowKit Go.Extern

theorem laidRow_whole {c c' : List Nat} (hc : Con c) (hc' : Con c') : laidRow (conC c) 0 (cellsB c') = conC c' := by
  unfold laidRow conC
  rw [List.take_zero, List.nil_append, List.drop_of_length_le (by rw [cellsB_length, cellsB_length, hc.1, hc'.1]; exact Nat.le_refl _), List.append_nil]
/-- A content laid over another. -/
theorem store_whole {w : World} {g : Nat} {c c' : List Nat} (h : w.heap[g]? = some (.cells (conC c) 75 (0, 0))) (hc : Con c) (hc' : Con c') :
    ∃ w', (Instr.storeAt 75 (.pointer (some ⟨g, 0, none⟩)) (conV c')).run Try.prog w = .ok () w' ∧ w'.heap[g]? = some (.cells (conC c') 75 (0, 0)) ∧ w.grownBy w' (some g) := by
  have hl : (cellsB c').length = 128 := by rw [cellsB_length, hc'.1]
  refine ⟨_, run_storeMid (cellsB c') h (by rw [conC_size hc, hl]; decide) (cellsB_one c') (by rw [hl]; exact infoC), ?_, ?_⟩
  · rw [setRow_heap w g _ _ _ _ h, laidRow_whole hc hc']
  · exact ⟨rfl, rfl, rfl, by simp [World.setRow], fun k _ hn => setRow_other w g k _ (fun e => hn (by rw [e]))⟩
theorem conC_set (c : List Nat) (j x : Nat) : (conC c).setIfInBounds j (.int .u8 (x : Int)) = conC (c.set j x) := by
  unfold conC cellsB
  rw [List.setIfInBounds_toArray, List.map_set]
theorem conC_setCell {w : World} {g j x : Nat} {c : List Nat} (h : w.heap[g]? = some (.cells (conC c) 75 (0, 0))) : (w.setCell ⟨g, j, none⟩ (.int .u8 (x : Int))).heap[g]? = some (.cells (conC (c.set j x)) 75 (0, 0)) := by
  rw [setCell_eq_setRow w g j _ _ _ _ h, ← conC_set]
  exact setRow_heap w g _ _ _ _ h

set_option maxRecDepth 100000 in
set_option maxHeartbeats 2000000 in
theorem repeated_any (w : World) (v : Value) (d : List Nat) (hv : Bytes w v d) (hdl : d.length ≤ 1000) (i f : Nat) (hf : f = i * 128) (hi : i ≤ 4096) :
    Calls Try.prog 46 #[v, .int .i64 (f : Int)] w fun e w' => e = .returned (conV (fillB d i)) ∧ Below w.heap.size w w' := by
  have HB2 : Hid (Below w.heap.size w ((w.alloc (.cells Try.zeroCells75 75)).alloc (.cells Try.zeroCells75 75))) := ((Below.refl _ _).alloc (Nat.le_refl _) _).alloc (by simp) _
  have HX1 : Hid (((w.alloc (.cells Try.zeroCells75 75)).alloc (.cells Try.zeroCells75 75)).heap[w.heap.size]? = some (.cells (conC zeros) 75 (0, 0))) := by
    rw [← zeroC]; exact heap_alloc_keep (heap_alloc_new w _) _
  have HX2 : Hid (((w.alloc (.cells Try.zeroCells75 75)).alloc (.cells Try.zeroCells75 75)).heap[w.heap.size + 1]? = some (.cells (conC zeros) 75 (0, 0))) := by
    show _ = _
    rw [← zeroC]; have := heap_alloc_new (w.alloc (.cells Try.zeroCells75 75)) (.cells Try.zeroCells75 75); simpa using this
  have HV := hide hv
  obtain ⟨ao, cap, g0, off0, rfl, h2, h3, h4, -⟩ := hv
  have H2 := hide h2
  have H3 := hide h3
  have H4 := hide h4
  have HDL := hide hdl
  have HF := hide hf
  have HI := hide hi
  rcases Nat.eq_zero_or_pos d.length with hz | hz
  · obtain rfl : d = [] := List.length_eq_zero_iff.1 hz
    have hfb : fillB [] i = zeros := by unfold fillB; rw [if_pos hz]
    rw [hfb]
    have hld := run_loadC zeros_con HX2.out
    obtain ⟨w3, hst, hx3, hg3⟩ := store_whole HX1.out zeros_con zeros_con
    have HX3 := hide hx3
    have HG3 := hide hg3
    clear hz hfb h2 h3 h4 hdl hf hi hx3 hg3
    simp only [List.length_nil]
    have HCV : Hid (conV zeros = conV zeros) := rfl
    generalize hcv : conV zeros = cv at hld hst ⊢
    have HCE := hide hcv
    clear hcv HCV
    go_enter Try.func46, Try.ntmps46
    go_wp2_with (first | ((with_reducible refine wpList_load_run rfl rfl hld ?_ ?_); rfl) | ((with_reducible refine wpList_store_run rfl rfl hst ?_ ?_ ?_); rfl; rfl))
    rw [← HCE.out]
    refine bodyPost_ret (v := conV zeros) (results_cell_row (p := 4) (by kernel_rfl) _ _ w.heap.size 75 (conC zeros) (0, 0) _ rfl HX3.out Try.underlying75 rfl (by rw [conC_size zeros_con]; exact infoC)) rfl ?_
    exact ⟨rfl, HB2.out.grown HG3.out (Nat.le_trans (Nat.le_refl _) HB2.out.size) (fun k hk => by have := Option.some.inj hk; omega)⟩
  · have hfb : fillB d i = fillUp d i 128 := by unfold fillB; rw [if_neg (by omega)]
    rw [hfb]
    obtain rfl := h2 hz
    obtain ⟨dn, hdn⟩ : ∃ dn, d.length = dn := ⟨_, rfl⟩
    have HDN := hide hdn
    rw [hdn] at hz ⊢
    have hze : ((dn : Int) == 0) = false := by simp; omega
    clear hfb h2 h3 h4 hdl hf hi hdn
    go_enter Try.func46, Try.ntmps46
    go_wp2_with fail
    go_loopg [11] 128 (fun gk y wr => ∃ j, j + gk = 128 ∧ y = .int .i64 (j : Int) ∧ wr.heap[w.heap.size]? = some (.cells (conC zeros) 75 (0, 0)) ∧ wr.heap[w.heap.size + 1]? = some (.cells (conC (fillUp d i j)) 75 (0, 0)) ∧ Below w.heap.size w wr)
    case atStart => exact ⟨0, by omega, rfl, HX1.out, by rw [fillUp_zero]; exact HX2.out, HB2.out⟩
    case round =>
      obtain ⟨j, hj, rfl, hx1, hx2, hb⟩ := hrel
      have HB := hide hb
      cases gk with
      | zero =>
        obtain rfl : j = 128 := by omega
        have hcc := fillUp_con H4.out i 128
        have hld := run_loadC hcc hx2
        obtain ⟨w3, hst, hx3, hg3⟩ := store_whole hx1 zeros_con hcc
        have HX3 := hide hx3
        have HG3 := hide hg3
        have HCC := hide hcc
        generalize hcv : conV (fillUp d i 128) = cv at hld hst ⊢
        have HCE := hide hcv
        clear hcv hx3 hg3 hcc hx1 hx2 hb hj
        go_wp2_with (first | ((with_reducible refine wpList_load_run rfl rfl hld ?_ ?_); rfl) | ((with_reducible refine wpList_store_run rfl rfl hst ?_ ?_ ?_); rfl; rfl))
        rw [← HCE.out]
        refine bodyPost_ret (v := conV (fillUp d i 128)) (results_cell_row (p := 4) (by kernel_rfl) _ _ w.heap.size 75 (conC (fillUp d i 128)) (0, 0) _ rfl HX3.out Try.underlying75 rfl (by rw [conC_size HCC.out]; exact infoC)) rfl ?_
        exact ⟨rfl, HB.out.grown HG3.out HB.out.size (fun k hk => by have := Option.some.inj hk; omega)⟩
      | succ m =>
        have hlt : (j : Int) < 128 := by omega
        have hb0 : (0 : Int) ≤ (j : Int) := by omega
        obtain ⟨r, hr⟩ : ∃ r, (i * 128 + j) % d.length = r := ⟨_, rfl⟩
        have hget := fillAt_get (d := d) (by rw [HDN.out]; exact hz) i j
        have hmod : Int.tmod ((f : Int) + (j : Int)) (dn : Int) = (r : Int) := by
          rw [← hr, HF.out, HDN.out]
          norm_cast
        have hr1 : (r : Int) < (dn : Int) := by have := Nat.mod_lt (i * 128 + j) hz; rw [← HDN.out] at this ⊢; rw [hr] at this; omega
        have hr0 : (0 : Int) ≤ (r : Int) := by omega
        have hfj : (f : Int) + (j : Int) ≤ 600000 := by have := HF.out; have := HI.out; omega
        have hf0 : (0 : Int) ≤ (f : Int) := by omega
        have hdb : (dn : Int) ≤ 1000 := by have := HDL.out; rw [HDN.out] at this; omega
        rw [hr] at hget
        obtain ⟨x, hxx⟩ : ∃ x, fillAt d i j = x := ⟨_, rfl⟩
        have hset := fillUp_set (d := d) (i := i) (k := j) (by omega)
        rw [hxx] at hget hset
        have q1 := H3.out r x hget
        have q2 : wr.cell? ⟨g0, off0 + r, none⟩ = some (.int .u8 (x : Int)) := by rw [hb.cell (cell_lt q1)]; exact q1
        obtain ⟨y, hy⟩ : ∃ y, (fillUp d i j)[j]? = some y := ⟨(fillUp d i j)[j]'(by rw [fillUp_length]; omega), by simp⟩
        have q3 : wr.cell? ⟨w.heap.size + 1, j, none⟩ = some (.int .u8 (y : Int)) := by rw [cell_of_row wr _ _ _ _ _ hx2]; unfold conC; rw [List.getElem?_toArray]; exact cellsB_get hy
        have q4 := row_frozen hx2 j
        have hxl : (x : Int) < 256 := by have := fillAt_lt H4.out i j; omega
        have hx0 : (0 : Int) ≤ (x : Int) := by omega
        have HEND : Hid ((wr.setCell ⟨w.heap.size + 1, j, none⟩ (.int .u8 (x : Int))).heap[w.heap.size]? = some (.cells (conC zeros) 75 (0, 0)) ∧ (wr.setCell ⟨w.heap.size + 1, j, none⟩ (.int .u8 (x : Int))).heap[w.heap.size + 1]? = some (.cells (conC (fillUp d i (j + 1))) 75 (0, 0)) ∧ Below w.heap.size w (wr.setCell ⟨w.heap.size + 1, j, none⟩ (.int .u8 (x : Int)))) := by
          refine ⟨by rw [Below.heap_setCell _ _ _ _ (by show w.heap.size ≠ w.heap.size + 1; omega)]; exact hx1, by rw [← hset]; exact conC_setCell hx2, ⟨hb.os, hb.tape, hb.output, by have := hb.size; simpa [World.setCell] using this, fun k hk => ?_⟩⟩
          rw [Below.heap_setCell _ _ _ _ (by show k ≠ w.heap.size + 1; omega)]
          exact hb.block k hk
        clear hx1 hx2 hb hget hset q1 hy hr hxx
        go_wp2_with fail
        go_roundg m
        case measure => omega
        case rel => exact ⟨j + 1, by omega, by go_num, HEND.out.1, HEND.out.2.1, HEND.out.2.2⟩
end Go.Proofs.Ytliboiajhhnajaa
