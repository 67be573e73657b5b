import Derived.Test.YtliboiajhhnajaaGreatDoorM13
/- What Fill makes of sectors. -/
namespace Go.Proofs.YtliboiajhhnajaaGreatDoor
open Go.RowKit Go.Extern

def fillAt (d : List Nat) (i k : Nat) : Nat := d.getD ((i * 128 + k) % d.length) 0
/-- A sector's bytes, as far as they are laid. -/
def fillUp (d : List Nat) (i n : Nat) : List Nat := (List.range 128).map fun k => if k < n then fillAt d i k else 0
def fillB (d : List Nat) (i : Nat) : List Nat := if d.length = 0 then zeros else fillUp d i 128
def fillSec (d : List Nat) (i : Nat) : Sec := ⟨fillB d i, false, []⟩
def fillS (S : List Sec) (d : List Nat) : List Sec := partS S (fun i _ => fillSec d i)
theorem fillUp_zero (d : List Nat) (i : Nat) : fillUp d i 0 = zeros := by
  unfold fillUp zeros
  rw [show (fun k => if k < 0 then fillAt d i k else 0) = (fun _ : Nat => 0) from by funext k; simp, List.map_const', List.length_range]
theorem fillUp_length (d : List Nat) (i n : Nat) : (fillUp d i n).length = 128 := by simp [fillUp]
theorem fillUp_set {d : List Nat} {i k : Nat} (hk : k < 128) : (fillUp d i k).set k (fillAt d i k) = fillUp d i (k + 1) := by
  apply List.ext_getElem?
  intro j
  by_cases e : k = j
  · subst e
    rw [List.getElem?_set_self (by rw [fillUp_length]; exact hk)]
    simp [fillUp, List.getElem?_map, List.getElem?_range hk]
  · rw [List.getElem?_set_ne e]
    unfold fillUp
    rw [List.getElem?_map, List.getElem?_map]
    by_cases hj : j < 128
    · rw [List.getElem?_range hj, Option.map_some, Option.map_some]
      by_cases h1 : j < k
      · rw [if_pos h1, if_pos (by omega)]
      · rw [if_neg h1, if_neg (by omega)]
    · rw [List.getElem?_eq_none (by simp; omega)]; rfl
theorem fillAt_get {d : List Nat} (h : 0 < d.length) (i k : Nat) : d[(i * 128 + k) % d.length]? = some (fillAt d i k) := by
  have := Nat.mod_lt (i * 128 + k) h
  unfold fillAt
  rw [List.getD_eq_getElem?_getD, List.getElem?_eq_getElem this]; rfl
theorem fillAt_lt {d : List Nat} (hd : ∀ x ∈ d, x < 256) (i k : Nat) : fillAt d i k < 256 := by
  unfold fillAt
  rw [List.getD_eq_getElem?_getD]
  cases h : d[(i * 128 + k) % d.length]? with
  | none => decide
  | some x => exact hd x (List.mem_of_getElem? h)
theorem fillUp_con {d : List Nat} (hd : ∀ x ∈ d, x < 256) (i n : Nat) : Con (fillUp d i n) := by
  refine ⟨fillUp_length d i n, fun x hx => ?_⟩
  simp only [fillUp, List.mem_map] at hx
  obtain ⟨k, -, rfl⟩ := hx
  split
  · exact fillAt_lt hd i k
  · decide
theorem fillB_con {d : List Nat} (hd : ∀ x ∈ d, x < 256) (i : Nat) : Con (fillB d i) := by
  unfold fillB
  split
  · exact zeros_con
  · exact fillUp_con hd i 128
/-- .. as far as the loop has come. -/
def fillF (d : List Nat) (q i : Nat) (s : Sec) : Sec := if i < q then fillSec d i else s
def fillP (d : List Nat) (q i : Nat) (s : Sec) : Sec := if i < q then ⟨fillB d i, false, s.wait⟩ else s
theorem fillF_zero (S : List Sec) (d : List Nat) : partS S (fillF d 0) = S := by
  apply List.ext_getElem?
  intro i
  rw [partS_get]
  cases S[i]? <;> simp [fillF]
theorem fillP_zero (S : List Sec) (d : List Nat) : partS S (fillP d 0) = S := by
  apply List.ext_getElem?
  intro i
  rw [partS_get]
  cases S[i]? <;> simp [fillP]
theorem fillF_end (S : List Sec) (d : List Nat) : partS S (fillF d S.length) = fillS S d := by
  apply List.ext_getElem?
  intro i
  unfold fillS
  rw [partS_get, partS_get]
  cases h : S[i]? with
  | none => rfl
  | some s => simp [fillF, (List.getElem?_eq_some_iff.1 h).1]
theorem fillP_end (S : List Sec) (d : List Nat) : (partS S (fillP d S.length)).map Sec.let = fillS S d := by
  apply List.ext_getElem?
  intro i
  unfold fillS
  rw [List.getElem?_map, partS_get, partS_get]
  cases h : S[i]? with
  | none => rfl
  | some s => simp [fillP, (List.getElem?_eq_some_iff.1 h).1, Sec.let, fillSec]
theorem fillF_at {S : List Sec} {d : List Nat} {q : Nat} {s : Sec} (hs : S[q]? = some s) : (partS S (fillF d q))[q]? = some s := by
  rw [partS_get, hs]; simp [fillF]
theorem fillP_at {S : List Sec} {d : List Nat} {q : Nat} {s : Sec} (hs : S[q]? = some s) : (partS S (fillP d q))[q]? = some s := by
  rw [partS_get, hs]; simp [fillP]
theorem fillF_step {S : List Sec} {d : List Nat} {q : Nat} {s : Sec} (hs : S[q]? = some s) : (partS S (fillF d q)).set q (fillSec d q) = partS S (fillF d (q + 1)) := by
  refine partS_set hs (by simp [fillF]) (fun i t hi => ?_)
  unfold fillF
  by_cases h : i < q
  · rw [if_pos h, if_pos (by omega)]
  · rw [if_neg h, if_neg (by omega)]
theorem fillP_step {S : List Sec} {d : List Nat} {q : Nat} {s : Sec} (hs : S[q]? = some s) : (partS S (fillP d q)).set q ⟨fillB d q, false, s.wait⟩ = partS S (fillP d (q + 1)) := by
  refine partS_set hs (by simp [fillP]) (fun i t hi => ?_)
  unfold fillP
  by_cases h : i < q
  · rw [if_pos h, if_pos (by omega)]
  · rw [if_neg h, if_neg (by omega)]
theorem fillS_length (S : List Sec) (d : List Nat) : (fillS S d).length = S.length := partS_length _ _
theorem fillS_wait {S : List Sec} {d : List Nat} {s : Sec} (h : s ∈ fillS S d) : s.wait = [] := by
  obtain ⟨i, hi⟩ := List.getElem?_of_mem h
  unfold fillS at hi
  rw [partS_get] at hi
  obtain ⟨t, -, rfl⟩ := Option.map_eq_some_iff.1 hi
  rfl
end Go.Proofs.YtliboiajhhnajaaGreatDoor

/- repeated by its contract. -/
namespace Go.Proofs.YtliboiajhhnajaaGreatDoor
open Go.RowKit Go.Extern

theorem laidRow_whole {c c' : List Nat} (hc : Con c) (hc' : Con c') : laidRow (conC c) 0 (cellsB c') = conC c' := by
  unfold laidRow conC
  rw [List.take_zero, List.nil_append, List.drop_of_length_le (by rw [cellsB_length, cellsB_length, hc.1, hc'.1]; exact Nat.le_refl _), List.append_nil]
/-- A content laid over another. -/
theorem store_whole {w : World} {g : Nat} {c c' : List Nat} (h : w.heap[g]? = some (.cells (conC c) 112 (0, 0))) (hc : Con c) (hc' : Con c') :
    ∃ w', (Instr.storeAt 112 (.pointer (some ⟨g, 0, none⟩)) (conV c')).run Tryz.prog w = .ok () w' ∧ w'.heap[g]? = some (.cells (conC c') 112 (0, 0)) ∧ w.grownBy w' (some g) := by
  have hl : (cellsB c').length = 128 := by rw [cellsB_length, hc'.1]
  refine ⟨_, run_storeMid (cellsB c') h (by rw [conC_size hc, hl]; decide) (cellsB_one c') (by rw [hl]; exact infoC), ?_, ?_⟩
  · rw [setRow_heap w g _ _ _ _ h, laidRow_whole hc hc']
  · exact ⟨rfl, rfl, rfl, by simp [World.setRow], fun k _ hn => setRow_other w g k _ (fun e => hn (by rw [e]))⟩
theorem conC_set (c : List Nat) (j x : Nat) : (conC c).setIfInBounds j (.int .u8 (x : Int)) = conC (c.set j x) := by
  unfold conC cellsB
  rw [List.setIfInBounds_toArray, List.map_set]
theorem conC_setCell {w : World} {g j x : Nat} {c : List Nat} (h : w.heap[g]? = some (.cells (conC c) 112 (0, 0))) : (w.setCell ⟨g, j, none⟩ (.int .u8 (x : Int))).heap[g]? = some (.cells (conC (c.set j x)) 112 (0, 0)) := by
  rw [setCell_eq_setRow w g j _ _ _ _ h, ← conC_set]
  exact setRow_heap w g _ _ _ _ h

set_option maxRecDepth 100000 in
set_option maxHeartbeats 2000000 in
theorem repeated_any (w : World) (v : Value) (d : List Nat) (hv : Bytes w v d) (hdl : d.length ≤ 1000) (i f : Nat) (hf : f = i * 128) (hi : i ≤ 4096) :
    Calls Tryz.prog 78 #[v, .int .i64 (f : Int)] w fun e w' => e = .returned (conV (fillB d i)) ∧ Below w.heap.size w w' := by
  have HB2 : Hid (Below w.heap.size w ((w.alloc (.cells Tryz.zeroCells112 112)).alloc (.cells Tryz.zeroCells112 112))) := ((Below.refl _ _).alloc (Nat.le_refl _) _).alloc (by simp) _
  have HX1 : Hid (((w.alloc (.cells Tryz.zeroCells112 112)).alloc (.cells Tryz.zeroCells112 112)).heap[w.heap.size]? = some (.cells (conC zeros) 112 (0, 0))) := by
    rw [← zeroC]; exact heap_alloc_keep (heap_alloc_new w _) _
  have HX2 : Hid (((w.alloc (.cells Tryz.zeroCells112 112)).alloc (.cells Tryz.zeroCells112 112)).heap[w.heap.size + 1]? = some (.cells (conC zeros) 112 (0, 0))) := by
    show _ = _
    rw [← zeroC]; have := heap_alloc_new (w.alloc (.cells Tryz.zeroCells112 112)) (.cells Tryz.zeroCells112 112); simpa using this
  have HV := hide hv
  obtain ⟨ao, cap, g0, off0, rfl, h2, h3, h4, -⟩ := hv
  have H2 := hide h2
  have H3 := hide h3
  have H4 := hide h4
  have HDL := hide hdl
  have HF := hide hf
  have HI := hide hi
  rcases Nat.eq_zero_or_pos d.length with hz | hz
  · obtain rfl : d = [] := List.length_eq_zero_iff.1 hz
    have hfb : fillB [] i = zeros := by unfold fillB; rw [if_pos hz]
    rw [hfb]
    have hld := run_loadC zeros_con HX2.out
    obtain ⟨w3, hst, hx3, hg3⟩ := store_whole HX1.out zeros_con zeros_con
    have HX3 := hide hx3
    have HG3 := hide hg3
    clear hz hfb h2 h3 h4 hdl hf hi hx3 hg3
    simp only [List.length_nil]
    have HCV : Hid (conV zeros = conV zeros) := rfl
    generalize hcv : conV zeros = cv at hld hst ⊢
    have HCE := hide hcv
    clear hcv HCV
    go_enter Tryz.func78, Tryz.ntmps78
    go_wp2_with (first | ((with_reducible refine wpList_load_run rfl rfl hld ?_ ?_); rfl) | ((with_reducible refine wpList_store_run rfl rfl hst ?_ ?_ ?_); rfl; rfl))
    rw [← HCE.out]
    refine bodyPost_ret (v := conV zeros) (results_cell_row (p := 4) (by kernel_rfl) _ _ w.heap.size 112 (conC zeros) (0, 0) _ rfl HX3.out Tryz.underlying112 rfl (by rw [conC_size zeros_con]; exact infoC)) rfl ?_
    exact ⟨rfl, HB2.out.grown HG3.out (Nat.le_trans (Nat.le_refl _) HB2.out.size) (fun k hk => by have := Option.some.inj hk; omega)⟩
  · have hfb : fillB d i = fillUp d i 128 := by unfold fillB; rw [if_neg (by omega)]
    rw [hfb]
    obtain rfl := h2 hz
    obtain ⟨dn, hdn⟩ : ∃ dn, d.length = dn := ⟨_, rfl⟩
    have HDN := hide hdn
    rw [hdn] at hz ⊢
    have hze : ((dn : Int) == 0) = false := by simp; omega
    clear hfb h2 h3 h4 hdl hf hi hdn
    go_enter Tryz.func78, Tryz.ntmps78
    go_wp2_with fail
    go_loopg [11] 128 (fun gk y wr => ∃ j, j + gk = 128 ∧ y = .int .i64 (j : Int) ∧ wr.heap[w.heap.size]? = some (.cells (conC zeros) 112 (0, 0)) ∧ wr.heap[w.heap.size + 1]? = some (.cells (conC (fillUp d i j)) 112 (0, 0)) ∧ Below w.heap.size w wr)
    case atStart => exact ⟨0, by omega, rfl, HX1.out, by rw [fillUp_zero]; exact HX2.out, HB2.out⟩
    case round =>
      obtain ⟨j, hj, rfl, hx1, hx2, hb⟩ := hrel
      have HB := hide hb
      cases gk with
      | zero =>
        obtain rfl : j = 128 := by omega
        have hcc := fillUp_con H4.out i 128
        have hld := run_loadC hcc hx2
        obtain ⟨w3, hst, hx3, hg3⟩ := store_whole hx1 zeros_con hcc
        have HX3 := hide hx3
        have HG3 := hide hg3
        have HCC := hide hcc
        generalize hcv : conV (fillUp d i 128) = cv at hld hst ⊢
        have HCE := hide hcv
        clear hcv hx3 hg3 hcc hx1 hx2 hb hj
        go_wp2_with (first | ((with_reducible refine wpList_load_run rfl rfl hld ?_ ?_); rfl) | ((with_reducible refine wpList_store_run rfl rfl hst ?_ ?_ ?_); rfl; rfl))
        rw [← HCE.out]
        refine bodyPost_ret (v := conV (fillUp d i 128)) (results_cell_row (p := 4) (by kernel_rfl) _ _ w.heap.size 112 (conC (fillUp d i 128)) (0, 0) _ rfl HX3.out Tryz.underlying112 rfl (by rw [conC_size HCC.out]; exact infoC)) rfl ?_
        exact ⟨rfl, HB.out.grown HG3.out HB.out.size (fun k hk => by have := Option.some.inj hk; omega)⟩
      | succ m =>
        have hlt : (j : Int) < 128 := by omega
        have hb0 : (0 : Int) ≤ (j : Int) := by omega
        obtain ⟨r, hr⟩ : ∃ r, (i * 128 + j) % d.length = r := ⟨_, rfl⟩
        have hget := fillAt_get (d := d) (by rw [HDN.out]; exact hz) i j
        have hmod : Int.tmod ((f : Int) + (j : Int)) (dn : Int) = (r : Int) := by
          rw [← hr, HF.out, HDN.out]
          norm_cast
        have hr1 : (r : Int) < (dn : Int) := by have := Nat.mod_lt (i * 128 + j) hz; rw [← HDN.out] at this ⊢; rw [hr] at this; omega
        have hr0 : (0 : Int) ≤ (r : Int) := by omega
        have hfj : (f : Int) + (j : Int) ≤ 600000 := by have := HF.out; have := HI.out; omega
        have hf0 : (0 : Int) ≤ (f : Int) := by omega
        have hdb : (dn : Int) ≤ 1000 := by have := HDL.out; rw [HDN.out] at this; omega
        rw [hr] at hget
        obtain ⟨x, hxx⟩ : ∃ x, fillAt d i j = x := ⟨_, rfl⟩
        have hset := fillUp_set (d := d) (i := i) (k := j) (by omega)
        rw [hxx] at hget hset
        have q1 := H3.out r x hget
        have q2 : wr.cell? ⟨g0, off0 + r, none⟩ = some (.int .u8 (x : Int)) := by rw [hb.cell (cell_lt q1)]; exact q1
        obtain ⟨y, hy⟩ : ∃ y, (fillUp d i j)[j]? = some y := ⟨(fillUp d i j)[j]'(by rw [fillUp_length]; omega), by simp⟩
        have q3 : wr.cell? ⟨w.heap.size + 1, j, none⟩ = some (.int .u8 (y : Int)) := by rw [cell_of_row wr _ _ _ _ _ hx2]; unfold conC; rw [List.getElem?_toArray]; exact cellsB_get hy
        have q4 := row_frozen hx2 j
        have hxl : (x : Int) < 256 := by have := fillAt_lt H4.out i j; omega
        have hx0 : (0 : Int) ≤ (x : Int) := by omega
        have HEND : Hid ((wr.setCell ⟨w.heap.size + 1, j, none⟩ (.int .u8 (x : Int))).heap[w.heap.size]? = some (.cells (conC zeros) 112 (0, 0)) ∧ (wr.setCell ⟨w.heap.size + 1, j, none⟩ (.int .u8 (x : Int))).heap[w.heap.size + 1]? = some (.cells (conC (fillUp d i (j + 1))) 112 (0, 0)) ∧ Below w.heap.size w (wr.setCell ⟨w.heap.size + 1, j, none⟩ (.int .u8 (x : Int)))) := by
          refine ⟨by rw [Below.heap_setCell _ _ _ _ (by show w.heap.size ≠ w.heap.size + 1; omega)]; exact hx1, by rw [← hset]; exact conC_setCell hx2, ⟨hb.os, hb.tape, hb.output, by have := hb.size; simpa [World.setCell] using this, fun k hk => ?_⟩⟩
          rw [Below.heap_setCell _ _ _ _ (by show k ≠ w.heap.size + 1; omega)]
          exact hb.block k hk
        clear hx1 hx2 hb hget hset q1 hy hr hxx
        go_wp2_with fail
        go_roundg m
        case measure => omega
        case rel => exact ⟨j + 1, by omega, by go_num, HEND.out.1, HEND.out.2.1, HEND.out.2.2⟩
end Go.Proofs.YtliboiajhhnajaaGreatDoor

/- Fill by its contract. -/
namespace Go.Proofs.YtliboiajhhnajaaGreatDoor
open Go.RowKit Go.Extern

theorem built_sec (c : List Nat) : Tryz.prog.built 114 [(0, conV c)] = Instr.fill (fun i => #[(0, 128), (128, 1)][i]?) (secA zeroSec) [(0, conV c)] := by kernel_rfl
theorem zeroSec_tail : (secA zeroSec).toList.drop 128 = [.bool false] := by kernel_rfl
theorem zeroSec_size : (secA zeroSec).size = 129 := by kernel_rfl
theorem run_build1 (w : World) (c : List Nat) (hc : Con c) : (Instr.build 114 #[(0, conV c)]).run Tryz.prog w = .ok (secV ⟨c, false, []⟩) w := by
  refine run_build w 114 #[(0, conV c)] (secA ⟨c, false, []⟩) ?_
  show Tryz.prog.built 114 [(0, conV c)] = _
  rw [built_sec]
  have hl : (cellsB c).length = 128 := by rw [cellsB_length, hc.1]
  have hz := zeroSec_size
  have ht := zeroSec_tail
  generalize secA zeroSec = z at hz ht
  unfold Instr.fill
  have e1 : (conV c).cells = (cellsB c).toArray := rfl
  rw [e1]
  simp only [List.size_toArray, hl, hz]
  have e2 := fold_array (cellsB c) 0 z (by rw [hl, hz]; decide)
  rw [hl] at e2
  simp at e2 ⊢
  rw [e2, ht]
  rfl
theorem exec_build1 {ρ : Operand → Value} {o : Oper} {w : World} {t : TypeId} {x : Operand} {v xv : Value} (ho : o.op = .build t #[(0, x)]) (hr : (Instr.build t #[(0, xv)]).run Tryz.prog w = .ok v w) (hx : ρ x = xv) : (execOp ρ o).run Tryz.prog w = .ok (.value v) w := by
  unfold execOp; simp [ho, hr, hx]
theorem exec_mul128 {ρ : Operand → Value} {o : Oper} {w : World} {x : Operand} {n : Nat} (ho : o.op = .binOp .mul 3 x (.const (.int .i64 128)) 3) (hx : ρ x = .int .i64 (n : Int)) (hc : ρ (.const (.int .i64 128)) = .int .i64 128) (hn : n ≤ 4096) : (execOp ρ o).run Tryz.prog w = .ok (.value (.int .i64 ((n * 128 : Nat) : Int))) w := by
  unfold execOp; simp only [ho, hx, hc]
  go_simp
  rw [IntKind.wrap_i64]; omega
theorem enterRepeated (args : Array Value) (w : World) : (callFunc 78 args).run Tryz.prog w = .ok (.enter 78 args) w := by kernel_rfl

def Filled (F : Nat → Prop) (b : Nat) (S : List Sec) (d : List Nat) (w : World) (e : Ending) (w' : World) : Prop := e = .returned (.tuple #[]) ∧ Dk w' (ext F w w') b (fillS S d) ∧ Turn F w w'

set_option maxRecDepth 100000 in
set_option maxHeartbeats 2000000 in
theorem fill_any {w : World} {F : Nat → Prop} {b : Nat} {S : List Sec} (h : Dk w F b S) (dv : Value) (d : List Nat) (hd : Bytes w dv d) (hdl : d.length ≤ 1000) (hout : ∀ k, dv.ownBlock = some k → ¬ F k) :
    Calls Tryz.prog 64 #[.pointer (some ⟨b, 0, none⟩), dv] w (Filled F b S d w) := by
  have HDB := hide hd
  have HO := hide hout
  have HDL := hide hdl
  obtain ⟨v, mb, D, h⟩ := h
  have HD := hide h
  have HSL := hide h.good.1
  obtain ⟨aod, capd, gd, offd, rfl, -⟩ := hd
  obtain ⟨sn, hsn⟩ : ∃ sn, S.length = sn := ⟨_, rfl⟩
  obtain ⟨dn, hdn⟩ : ∃ dn, d.length = dn := ⟨_, rfl⟩
  obtain ⟨ao, cap, hvf⟩ := ownsRow_form h.secs
  rw [hsn] at hvf
  subst hvf
  rw [hdn] at HDB HO ⊢
  have c0 := two_cell0 h.blk
  have HSN := hide hsn
  have HDN := hide hdn
  have hmm := @run_makeMap Tryz.prog
  clear h hout hdl hsn hdn
  go_enter Tryz.func64, Tryz.ntmps64
  go_wp2_with fail
  go_loopg [10] sn (fun gk y wr => ∃ q, q + gk = sn ∧ y = .int .i64 (q : Int) ∧ DkAt wr (ext F w wr) b (partS S (fillP d q)) (.slice ao sn cap) mb D ∧ Turn F w wr)
  case atStart => exact ⟨0, by omega, rfl, by rw [fillP_zero]; exact (HD.out.mono (fun _ hk => .inl hk)), Turn.refl _ _⟩
  case round =>
    obtain ⟨q, hq, rfl, hdk, htn⟩ := hrel
    have HDK := hide hdk
    have HTN := hide htn
    have hbs := heap_lt hdk.blk
    have c1 := two_cell1 hdk.blk
    have fr1 := row_frozen hdk.blk 1
    clear hdk htn
    cases gk with
    | zero =>
      have hend : ¬ (q : Int) < (sn : Int) := by omega
      have HFIN := hide (reset_core HDK.out)
      rw [show q = S.length by have := HSN.out; omega, fillP_end, set_alloc wr hbs] at HFIN
      clear hq
      go_wp2_with fail
      go_end0
      refine ⟨rfl, HFIN.out.1.mono (fun k hk => ext_ext HTN.out.size HFIN.out.2.size k hk), HTN.out.trans HFIN.out.2 (fun k hk h => ?_)⟩
      rcases h with h | h
      · exact h
      · omega
    | succ m =>
      have hqs : q < sn := by omega
      have hlt : (q : Int) < (sn : Int) := by omega
      have hqb : q ≤ 4096 := by have := HSL.out; have := HSN.out; omega
      have hqq : (q : Int) + 1 < 4098 := by omega
      obtain ⟨s, hs⟩ := get_of_lt (S := S) (i := q) (by have := HSN.out; omega)
      have hsP := fillP_at (d := d) hs
      obtain ⟨g, cap', cur, e, hgc, -⟩ := ownsRow_pos HDK.out.secs (by rw [partS_length]; exact len_pos hs)
      have hao : ao = some ⟨g, 0, none⟩ := by injection e
      subst hao
      have HGC := hide hgc
      have hln : (partS S (fillP d q)).length = sn := by rw [partS_length]; exact HSN.out
      have HREP := hide (repeated_any wr.drew (.slice aod dn capd) d ((HDB.out.turn HTN.out HO.out).below (Below.refl _ _).drew) HDL.out q (q * 128) rfl hqb)
      have HS := hide hs
      have HSP := hide hsP
      have HLN := hide hln
      have HFC : Hid (Con (fillB d q)) := fillB_con HDB.out.lt q
      clear hs hsP hgc e hln c1 fr1 hbs
      go_wp2_with fail
      refine wp_region_held_drew (S := fun wx => wx.cell? ⟨b, 0, none⟩ = some (.slice (some ⟨g, 0, none⟩) sn cap)) (by kernel_rfl) (two_cell0 HDK.out.blk) (fun hS => ?_)
      refine take_run 0 (some 13) (.pointer (some ⟨b, 0, none⟩)) rfl rfl rfl (by kernel_rfl) (by kernel_rfl) (by kernel_rfl) (fun _ _ _ h => h) (fun wx hx => exec_move rfl rfl) hS ?_
      simp only [Act.put, List.setIfInBounds_toArray, List.set_cons_zero, List.set_cons_succ]
      refine take_run 1 (some 14) (.pointer (some ⟨b, 0, none⟩)) rfl rfl rfl (by kernel_rfl) (by kernel_rfl) (by kernel_rfl) (fun _ _ _ h => h) (fun wx hx => exec_nilCheck rfl rfl) hS ?_
      simp only [Act.put, List.setIfInBounds_toArray, List.set_cons_zero, List.set_cons_succ]
      refine take_run 2 (some 15) (.pointer (some ⟨b, 0, none⟩)) rfl rfl rfl (by kernel_rfl) (by kernel_rfl) (by kernel_rfl) (fun _ _ _ h => h) (fun wx hx => exec_field rfl (field0 b wx) rfl) hS ?_
      simp only [Act.put, List.setIfInBounds_toArray, List.set_cons_zero, List.set_cons_succ]
      refine take_run 3 (some 16) (.slice (some ⟨g, 0, none⟩) sn cap) rfl rfl rfl (by kernel_rfl) (by kernel_rfl) (by kernel_rfl) (fun _ _ _ h => h) (fun wx hx => exec_load rfl (load_secs hx) rfl) hS ?_
      simp only [Act.put, List.setIfInBounds_toArray, List.set_cons_zero, List.set_cons_succ]
      refine take_run 4 (some 17) (.int .i64 (q : Int)) rfl rfl rfl (by kernel_rfl) (by kernel_rfl) (by kernel_rfl) (fun _ _ _ h => h) (fun wx hx => exec_move rfl rfl) hS ?_
      simp only [Act.put, List.setIfInBounds_toArray, List.set_cons_zero, List.set_cons_succ]
      refine take_run 5 (some 18) (.slice aod dn capd) rfl rfl rfl (by kernel_rfl) (by kernel_rfl) (by kernel_rfl) (fun _ _ _ h => h) (fun wx hx => exec_move rfl rfl) hS ?_
      simp only [Act.put, List.setIfInBounds_toArray, List.set_cons_zero, List.set_cons_succ]
      refine take_run 6 (some 19) (.int .i64 (q : Int)) rfl rfl rfl (by kernel_rfl) (by kernel_rfl) (by kernel_rfl) (fun _ _ _ h => h) (fun wx hx => exec_move rfl rfl) hS ?_
      simp only [Act.put, List.setIfInBounds_toArray, List.set_cons_zero, List.set_cons_succ]
      refine take_run 7 (some 20) (.int .i64 ((q * 128 : Nat) : Int)) rfl rfl rfl (by kernel_rfl) (by kernel_rfl) (by kernel_rfl) (fun _ _ _ h => h) (fun wx hx => exec_mul128 rfl rfl rfl hqb) hS ?_
      simp only [Act.put, List.setIfInBounds_toArray, List.set_cons_zero, List.set_cons_succ]
      refine only_call 8 (some 21) rfl rfl rfl (by kernel_rfl) (exec_call2 rfl enterRepeated rfl rfl rfl) (HREP.out.mono ?_)
      rintro e w2 ⟨rfl, hb2⟩
      have hdk2 := (HDK.out.below (Below.refl _ _).drew).below hb2
      refine ⟨_, rfl, two_cell0 hdk2.blk, ?_⟩
      simp only [Act.put, List.setIfInBounds_toArray, List.set_cons_zero, List.set_cons_succ]
      have hdk2' : DkAt w2 (ext F w wr) b (partS S (fillP d q)) (.slice (some ⟨g, 0, none⟩) (partS S (fillP d q)).length cap) mb D := by rw [HLN.out]; exact hdk2
      obtain ⟨w3, hr3, hdk3, hg3, hsz3⟩ := store_sec hdk2' HSP.out HFC.out false []
      rw [HLN.out] at hdk3
      have hgb : g ≠ b := fun e => by have h1 := HGC.out; have h2 := HDK.out.blk; rw [e] at h1; rw [h1] at h2; simp at h2
      have h02 := two_cell0 hdk2.blk
      refine only_value 9 (some 22) rfl rfl rfl (by kernel_rfl) (exec_build1 rfl (run_build1 w2 _ HFC.out) rfl) h02 ?_
      simp only [Act.put, List.setIfInBounds_toArray, List.set_cons_zero, List.set_cons_succ]
      refine only_value 10 (some 23) (v := .pointer (some ⟨g, q * 129, none⟩)) rfl rfl rfl (by kernel_rfl) (exec_index rfl (index_sec hqs) rfl rfl) h02 ?_
      simp only [Act.put, List.setIfInBounds_toArray, List.set_cons_zero, List.set_cons_succ]
      refine only_skip 11 none rfl rfl rfl (by kernel_rfl) (exec_store rfl hr3 rfl rfl) (by rw [hg3.cell h02 (by simpa using hgb.symm)]) ?_
      refine wpAnyH_done (by kernel_rfl) ?_ _
      have HEND : Hid (DkAt w3 (ext F w w3) b (partS S (fillP d (q + 1))) (.slice (some ⟨g, 0, none⟩) sn cap) mb D ∧ Turn F w w3) := by
        have hgin := HDK.out.inS g rfl
        have hz1 : wr.heap.size ≤ w2.heap.size := hb2.size
        rw [fillP_step HS.out] at hdk3
        refine ⟨hdk3.mono (fun k hk => ext_mono (by rw [hsz3]; exact hb2.size) k hk), HTN.out.trans (F1 := ext F w wr) ((Turn.of_below (w := wr) ⟨hb2.os, hb2.tape, hb2.output, hb2.size, hb2.block⟩).trans (F1 := ext F w wr) (Turn.of_grown hg3 (fun k hk => by rw [← Option.some.inj hk]; exact hgin)) (fun _ _ h => h)) (fun k hk h => ?_)⟩
        rcases h with h | h
        · exact h
        · omega
      clear hr3 hdk3 hg3 hsz3 hgb h02 hdk2 hdk2' hb2 hS HREP HGC
      go_wp2_with fail
      go_roundg m
      case measure => omega
      case rel => exact ⟨q + 1, by omega, by go_num, HEND.out.1, HEND.out.2⟩
end Go.Proofs.YtliboiajhhnajaaGreatDoor
