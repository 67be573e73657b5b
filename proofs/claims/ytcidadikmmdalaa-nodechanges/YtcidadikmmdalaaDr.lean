/- Drop. -/
import Derived.Test.YtcidadikmmdalaaPu
namespace Go.Proofs.Ytcidadikmmdalaa
open Go.RowKit Go.Extern

theorem res_two {P : Program} {fn : Func} {p u : Tmp} {ty : TypeId} (h : fn.results = #[.cell p ty, .tmp u]) (tmps : Array Value) (w : World) (g : Nat) (t : TypeId) (cs : Array Value) (fr : Nat × Nat) (d : TypeDesc)
    (hp : tmps.getD p undef = .pointer (some ⟨g, 0, none⟩)) (hg : w.heap[g]? = some (.cells cs t fr))
    (hu : P.underlying ty = some d) (hd : (match d with | .struct _ | .array _ _ => true | _ => false) = true) (hi : (P.info? ty).map (·.size) = some cs.size) :
    (results fn tmps).run P w = .ok (.tuple #[.agg cs, tmps.getD u undef]) w := by
  rw [results_cell_tmp h, hp]
  simp [asAddr, run_loadVar_row w g t ty cs fr d hg hu hd hi, Result.andThen]
/-- A node and one result more. -/
theorem ret_node2 {fn : Func} {R : Ending → World → Prop} {a : Act} {w : World} {p u : Tmp} (h : fn.results = #[.cell p 26, .tmp u]) (g : Nat) (x y z : Value) (hp : a.tmps.getD p undef = .pointer (some ⟨g, 0, none⟩))
    (hg : w.heap[g]? = some (.cells #[x, y, z] 26 (0, 0))) (hd : a.defers = []) (hR : R (.returned (.tuple #[.agg #[x, y, z], a.tmps.getD u undef])) w) : bodyPost Try.prog fn R .ret a w :=
  bodyPost_ret (res_two h a.tmps w g 26 #[x, y, z] (0, 0) _ hp hg Try.underlying26 rfl infoN) hd hR
/-- What a call leaves that tells a node and an error. -/
def Dropped (w : World) (nd : Nd) (c : Int) (e : Ending) (w' : World) : Prop := ∃ kv vv, e = .returned (.tuple #[.agg #[.int .i64 nd.1, kv, vv], errV c]) ∧ Two w.heap.size w' kv vv (nd.2.map Prod.fst) (nd.2.map Prod.snd) ∧ Below w.heap.size w w'
theorem enterPairs (args : Array Value) (w : World) : (callFunc 26 args).run Try.prog w = .ok (.enter 26 args) w := by kernel_rfl
theorem enterDelete (args : Array Value) (w : World) : (callFunc 30 args).run Try.prog w = .ok (.enter 30 args) w := by kernel_rfl
theorem dropS_len (l : List En) (k : Int) : (dropS l k).length ≤ l.length + l.length := by
  unfold dropS loS hiS
  rw [List.length_append]
  have h1 := List.length_filter_le (fun p : En => decide (p.1 < k)) l
  have h2 := List.length_filter_le (fun p : En => decide (k < p.1)) l
  omega
/-- The world with a node stored. -/
def stN (w : World) (b : Nat) (L : Int) (kv vv : Value) : World := ((w.setCell ⟨b, 0, none⟩ (.int .i64 L)).setCell ⟨b, 1, none⟩ kv).setCell ⟨b, 2, none⟩ vv
theorem store_node {w : World} {b : Nat} {x y z : Value} {T : TypeId} (h : w.heap[b]? = some (.cells #[x, y, z] T (0, 0))) (L : Int) (a1 : Option Addr) (n1 c1 : Nat) (a2 : Option Addr) (n2 c2 : Nat) : (Instr.storeAt 26 (.pointer (some ⟨b, 0, none⟩)) (.agg #[.int .i64 L, .slice a1 n1 c1, .slice a2 n2 c2])).run Try.prog w = .ok () (stN w b L (.slice a1 n1 c1) (.slice a2 n2 c2)) := by
  have d0 := row_cell h 0
  have d1 := row_cell h 1
  have d2 := row_cell h 2
  simp at d0 d1 d2
  have f0 := row_frozen h 0
  have f1 := row_frozen h 1
  have f2 := row_frozen h 2
  clear h
  unfold stN
  go_simp
theorem stN_at {w : World} {b : Nat} {x y z : Value} {T : TypeId} (h : w.heap[b]? = some (.cells #[x, y, z] T (0, 0))) (L : Int) (kv vv : Value) : (stN w b L kv vv).heap[b]? = some (.cells #[.int .i64 L, kv, vv] T (0, 0)) := set_at2 (set_at1 (set_at0 h _) _) _
theorem stN_else {w : World} {b c : Nat} {o : Obj} (h : w.heap[c]? = some o) (hne : c ≠ b) (L : Int) (kv vv : Value) : (stN w b L kv vv).heap[c]? = some o := set_else (set_else (set_else h hne _) hne _) hne _
theorem stN_below {B b : Nat} {w w' : World} (h : Below B w w') (hb : B ≤ b) (L : Int) (kv vv : Value) : Below B w (stN w' b L kv vv) := ((h.setCell hb _).setCell hb _).setCell hb _
theorem Two.stN {base b : Nat} {w : World} {kv vv : Value} {K V : List Int} (h : Two base w kv vv K V) (hb : b < base) (L : Int) (k2 v2 : Value) : Two base (stN w b L k2 v2) kv vv K V := ((h.set hb _).set hb _).set hb _
/-- What Drop's last line reads and writes. -/
structure DrW (w : World) (L : Int) (kv vv : Value) (wx : World) : Prop where
  h2 : BoxN 26 wx w.heap.size L kv vv
  h4 : ∃ x y z, wx.heap[w.heap.size + 1]? = some (.cells #[x, y, z] 26 (0, 0))
  bel : Below w.heap.size w wx
theorem DrW.c {w : World} {L : Int} {kv vv : Value} {wx : World} (h : DrW w L kv vv wx) : wx.cell? ⟨w.heap.size, 0, none⟩ = some (.int .i64 L) ∧ wx.cell? ⟨w.heap.size, 0 + 1, none⟩ = some kv ∧ wx.cell? ⟨w.heap.size, 0 + 2, none⟩ = some vv := h.h2.cells
theorem DrW.below {w : World} {L : Int} {kv vv : Value} {wx wy : World} (h : DrW w L kv vv wx) (hb : Below wx.heap.size wx wy) : DrW w L kv vv wy :=
  ⟨h.h2.below hb, h.h4.imp fun _ h => h.imp fun _ h => h.imp fun _ h => blk_below hb h, nextB h.bel hb⟩
theorem DrW.lts {w : World} {L : Int} {kv vv : Value} {wx : World} (h : DrW w L kv vv wx) : w.heap.size + 2 ≤ wx.heap.size := by
  obtain ⟨x, y, z, h4⟩ := h.h4
  have := heap_lt h4; omega
theorem DrW.belowB {w : World} {L : Int} {kv vv : Value} {wx wy : World} (h : DrW w L kv vv wx) {B : Nat} (hb : Below B wx wy) (hB : w.heap.size + 2 ≤ B) : DrW w L kv vv wy := by
  refine ⟨?_, ?_, h.bel.trans (hb.mono (by omega))⟩
  · unfold BoxN; rw [hb.block _ (by omega)]; exact h.h2
  · obtain ⟨x, y, z, h4⟩ := h.h4
    exact ⟨x, y, z, by rw [hb.block _ (by omega)]; exact h4⟩
theorem DrW.put {w : World} {L : Int} {kv vv : Value} {wx : World} (h : DrW w L kv vv wx) (M : Int) (k2 v2 : Value) : DrW w L kv vv (stN wx (w.heap.size + 1) M k2 v2) := by
  obtain ⟨x, y, z, h4⟩ := h.h4
  exact ⟨stN_else h.h2 (by omega) _ _ _, ⟨_, _, _, stN_at h4 _ _ _⟩, stN_below h.bel (by omega) _ _ _⟩

set_option maxRecDepth 100000 in
set_option maxHeartbeats 1000000 in
theorem drop_bad {w : World} {kv vv : Value} {K V : List Int} {L : Int} (hk : Ints w kv K) (hv : Ints w vv V) (h : ¬ Rt L K V) (k : Int) :
    Calls Try.prog 11 #[.agg #[.int .i64 L, kv, vv], .int .i64 k] w (Dropped w (0, []) 70) := by
  have HBA := hide (nextB (bel_alloc w (.cells #[.int .i64 L, kv, vv] 26)) (bel_alloc _ (.cells #[.int .i64 0, .slice none 0 0, .slice none 0 0] 26)))
  have hC := check_bad (hk.below HBA.out) (hv.below HBA.out) h
  have h4 : ((w.alloc (.cells #[.int .i64 L, kv, vv] 26)).alloc (.cells #[.int .i64 0, .slice none 0 0, .slice none 0 0] 26)).heap[w.heap.size + 1]? = some (.cells #[.int .i64 0, .slice none 0 0, .slice none 0 0] 26 (0, 0)) := by
    have := heap_alloc_new (w.alloc (.cells #[.int .i64 L, kv, vv] 26)) (.cells #[.int .i64 0, .slice none 0 0, .slice none 0 0] 26)
    rwa [World.size_alloc] at this
  obtain ⟨aK, nK, cK, rfl, -⟩ := hk.form
  obtain ⟨aV, nV, cV, rfl, -⟩ := hv.form
  rw [errV_code (by omega)] at hC
  have H4 := hide h4
  clear hk hv h h4
  go_enter Try.func11, Try.ntmps11
  go_wp2_with fail
  refine hC.mono ?_
  rintro e w1 ⟨rfl, hb1⟩
  have HB1 := hide (nextB HBA.out hb1)
  have H41 := hide (blk_below hb1 H4.out)
  have d0 := row_cell H41.out 0
  have d1 := row_cell H41.out 1
  have d2 := row_cell H41.out 2
  simp at d0 d1 d2
  have f0 := row_frozen H41.out 0
  have f1 := row_frozen H41.out 1
  have f2 := row_frozen H41.out 2
  clear hb1 hC
  go_wp2_with fail
  refine ret_node2 rfl _ _ _ _ rfl (stN_at H41.out 0 (.slice none 0 0) (.slice none 0 0)) rfl ?_
  exact ⟨_, _, by rw [errV_code (by omega)]; rfl, Two.nil _ _, stN_below HB1.out (by omega) _ _ _⟩

set_option maxRecDepth 100000 in
set_option maxHeartbeats 1000000 in
theorem drop_miss {w : World} {kv vv : Value} {K V : List Int} {L : Int} (hk : Ints w kv K) (hv : Ints w vv V) (h : Rt L K V) {k : Int} (hkn : k ∉ K) :
    Calls Try.prog 11 #[.agg #[.int .i64 L, kv, vv], .int .i64 k] w (Dropped w (0, []) 81) := by
  have HBA := hide (nextB (bel_alloc w (.cells #[.int .i64 L, kv, vv] 26)) (bel_alloc _ (.cells #[.int .i64 0, .slice none 0 0, .slice none 0 0] 26)))
  have hC := check_ok (hk.below HBA.out) (hv.below HBA.out) h
  have HX : Hid (BoxN 26 ((w.alloc (.cells #[.int .i64 L, kv, vv] 26)).alloc (.cells #[.int .i64 0, .slice none 0 0, .slice none 0 0] 26)) w.heap.size L kv vv) := hide (heap_new2 _ _ _)
  have h4 : ((w.alloc (.cells #[.int .i64 L, kv, vv] 26)).alloc (.cells #[.int .i64 0, .slice none 0 0, .slice none 0 0] 26)).heap[w.heap.size + 1]? = some (.cells #[.int .i64 0, .slice none 0 0, .slice none 0 0] 26 (0, 0)) := by
    have := heap_alloc_new (w.alloc (.cells #[.int .i64 L, kv, vv] 26)) (.cells #[.int .i64 0, .slice none 0 0, .slice none 0 0] 26)
    rwa [World.size_alloc] at this
  have HK := hide hk
  have HR := hide h
  have HKN := hide hkn
  obtain ⟨aK, nK, cK, rfl, -⟩ := hk.form
  obtain ⟨aV, nV, cV, rfl, -⟩ := hv.form
  have H4 := hide h4
  clear hk hv h h4 hkn
  go_enter Try.func11, Try.ntmps11
  go_wp2_with fail
  refine hC.mono ?_
  rintro e w1 ⟨rfl, hb1⟩
  have HB1 := hide (nextB HBA.out hb1)
  have H41 := hide (blk_below hb1 H4.out)
  obtain ⟨x0, x1, x2⟩ := (HX.out.below hb1).cells
  clear hb1 hC
  go_wp2_with fail
  clear x0 x1 x2
  refine (find_any L (HK.out.below HB1.out) HR.out.up (by have := HR.out.few; omega) k ⟨_, _, _, rfl⟩).mono ?_
  rintro e w4 ⟨⟨at_, ex, rfl, hfd⟩, hb4⟩
  obtain ⟨m, hsp, ⟨rfl, hkm, rfl⟩ | ⟨rfl, hkm, rfl⟩⟩ := hfd
  · exact absurd (List.mem_of_getElem? hkm) HKN.out
  have H42 := hide (blk_below hb4 H41.out)
  have HB4 := hide (nextB HB1.out hb4)
  have d0 := row_cell H42.out 0
  have d1 := row_cell H42.out 1
  have d2 := row_cell H42.out 2
  simp at d0 d1 d2
  have f0 := row_frozen H42.out 0
  have f1 := row_frozen H42.out 1
  have f2 := row_frozen H42.out 2
  clear hb4 hsp hkm
  go_wp2_with fail
  refine ret_node2 rfl _ _ _ _ rfl (stN_at H42.out 0 (.slice none 0 0) (.slice none 0 0)) rfl ?_
  exact ⟨_, _, by rw [errV_code (by omega)]; rfl, Two.nil _ _, stN_below HB4.out (by omega) _ _ _⟩

set_option maxRecDepth 100000 in
set_option maxHeartbeats 1000000 in
theorem drop_ok {w : World} {kv vv : Value} {K V : List Int} {L : Int} (hk : Ints w kv K) (hv : Ints w vv V) (h : Rt L K V) {k : Int} (hki : k ∈ K) :
    Calls Try.prog 11 #[.agg #[.int .i64 L, kv, vv], .int .i64 k] w (Dropped w (L, dropS (K.zip V) k) 0) := by
  have HBA := hide (nextB (bel_alloc w (.cells #[.int .i64 L, kv, vv] 26)) (bel_alloc _ (.cells #[.int .i64 0, .slice none 0 0, .slice none 0 0] 26)))
  have hC := check_ok (hk.below HBA.out) (hv.below HBA.out) h
  have HX : Hid (BoxN 26 ((w.alloc (.cells #[.int .i64 L, kv, vv] 26)).alloc (.cells #[.int .i64 0, .slice none 0 0, .slice none 0 0] 26)) w.heap.size L kv vv) := hide (heap_new2 _ _ _)
  have h4 : ((w.alloc (.cells #[.int .i64 L, kv, vv] 26)).alloc (.cells #[.int .i64 0, .slice none 0 0, .slice none 0 0] 26)).heap[w.heap.size + 1]? = some (.cells #[.int .i64 0, .slice none 0 0, .slice none 0 0] 26 (0, 0)) := by
    have := heap_alloc_new (w.alloc (.cells #[.int .i64 L, kv, vv] 26)) (.cells #[.int .i64 0, .slice none 0 0, .slice none 0 0] 26)
    rwa [World.size_alloc] at this
  have HK := hide hk
  have HV := hide hv
  have HR := hide h
  have HKN := hide hki
  have HOK := hide (zip_ok hk hv)
  have HUP : Hid (Up ((K.zip V).map Prod.fst)) := hide (by rw [zip_fst h.same]; exact h.up)
  obtain ⟨kv', hkv'⟩ : ∃ x, kv = x := ⟨_, rfl⟩
  obtain ⟨vv', hvv'⟩ : ∃ x, vv = x := ⟨_, rfl⟩
  obtain ⟨aK, nK, cK, hkf, -⟩ := hk.form
  obtain ⟨aV, nV, cV, hvf, -⟩ := hv.form
  have H4 := hide h4
  have HKF := hide hkf
  have HVF := hide hvf
  clear hk hv h h4 hki hkv' hvv'
  subst hkf hvf
  clear HKF HVF
  go_enter Try.func11, Try.ntmps11
  go_wp2_with fail
  refine hC.mono ?_
  rintro e w1 ⟨rfl, hb1⟩
  have HB1 := hide (nextB HBA.out hb1)
  have H41 := hide (blk_below hb1 H4.out)
  have HX1 := hide (HX.out.below hb1)
  obtain ⟨x0, x1, x2⟩ := HX1.out.cells
  clear hb1 hC
  go_wp2_with fail
  clear x0 x1 x2
  refine (find_any L (HK.out.below HB1.out) HR.out.up (by have := HR.out.few; omega) k ⟨_, _, _, rfl⟩).mono ?_
  rintro e w4 ⟨⟨at_, ex, rfl, hfd⟩, hb4⟩
  obtain ⟨m, hsp, ⟨rfl, hkm, rfl⟩ | ⟨rfl, hkm, rfl⟩⟩ := hfd
  rotate_left
  · exact absurd HKN.out hkm
  have HDW : Hid (DrW w L (.slice aK nK cK) (.slice aV nV cV) w4.drew) := hide (DrW.below ⟨HX1.out.below hb4, ⟨_, _, _, blk_below hb4 H41.out⟩, nextB HB1.out hb4⟩ (below_drew0 w4))
  rw [← zip_fst HR.out.same] at hsp hkm
  have HSP := hide hsp
  have HKM := hide hkm
  have hm7 : m < 7 := by have h1 := (List.getElem?_eq_some_iff.1 hkm).1; have h2 := HR.out.len; have h3 := HR.out.few; rw [List.length_map] at h1; omega
  clear hb4 hsp hkm
  go_wp2_with fail
  have hkm := HKM.out
  obtain ⟨kv, hkv⟩ : ∃ x, Value.slice aK nK cK = x := ⟨_, rfl⟩
  obtain ⟨vv, hvv⟩ : ∃ x, Value.slice aV nV cV = x := ⟨_, rfl⟩
  simp only [hkv, hvv] at HDW HK HV ⊢
  refine wp_region_held_drew (S := DrW w L kv vv) (by kernel_rfl) HDW.out (fun hS => ?_)
  refine take_want 0 (some 25) (.pointer (some ⟨w.heap.size, 0, none⟩)) rfl rfl rfl (by kernel_rfl) (by kernel_rfl) (by kernel_rfl) (fun _ _ _ h => h) (fun wx hx => exec_field rfl (fldN0 _ _ wx) rfl) hS ?_
  simp only [Act.put, List.setIfInBounds_toArray, List.set_cons_zero, List.set_cons_succ]
  refine take_want 1 (some 26) (.int .i64 L) rfl rfl rfl (by kernel_rfl) (by kernel_rfl) (by kernel_rfl) (fun _ _ _ h => h) (fun wx hx => exec_load rfl (load_intP hx.c.1) rfl) hS ?_
  simp only [Act.put, List.setIfInBounds_toArray, List.set_cons_zero, List.set_cons_succ]
  refine take_want 2 (some 27) (.agg #[.int .i64 L, kv, vv]) rfl rfl rfl (by kernel_rfl) (by kernel_rfl) (by kernel_rfl) (fun _ _ _ h => h) (fun wx hx => exec_load rfl (load_nodeP hx.c) rfl) hS ?_
  simp only [Act.put, List.setIfInBounds_toArray, List.set_cons_zero, List.set_cons_succ]
  refine take_want 4 (some 29) (.int .i64 (m : Int)) rfl rfl rfl (by kernel_rfl) (by kernel_rfl) (by kernel_rfl) (fun _ _ _ h => h) (fun wx hx => exec_move rfl rfl) hS ?_
  simp only [Act.put, List.setIfInBounds_toArray, List.set_cons_zero, List.set_cons_succ]
  refine take_want 5 (some 30) (.int .i64 (m : Int)) rfl rfl rfl (by kernel_rfl) (by kernel_rfl) (by kernel_rfl) (fun _ _ _ h => h) (fun wx hx => exec_move rfl rfl) hS ?_
  simp only [Act.put, List.setIfInBounds_toArray, List.set_cons_zero, List.set_cons_succ]
  refine take_want 6 (some 31) (.int .i64 ((m + 1 : Nat) : Int)) rfl rfl rfl (by kernel_rfl) (by kernel_rfl) (by kernel_rfl) (fun _ _ _ h => h) (fun wx hx => exec_addN rfl rfl rfl (by omega) (by omega) (by omega)) hS ?_
  simp only [Act.put, List.setIfInBounds_toArray, List.set_cons_zero, List.set_cons_succ]
  refine call_want 3 (some 28) rfl rfl rfl (by kernel_rfl) (exec_call1 rfl enterPairs rfl rfl) ((pairs_any L (HK.out.below hS.bel) (HV.out.below hS.bel) HR.out.same (by have := HR.out.few; omega)).mono ?_)
  rintro e' w3 ⟨g, n, rfl, HN, hr3, hg3, hb3⟩
  have hS3 := hS.below hb3
  refine ⟨_, rfl, hS3, ?_⟩
  simp only [Act.put, List.setIfInBounds_toArray, List.set_cons_zero, List.set_cons_succ]
  have hmn : m < n := by rw [HN.out]; have := (List.getElem?_eq_some_iff.1 hkm).1; simpa using this
  have hn7 : n ≤ 7 := by rw [HN.out, HR.out.len]; exact HR.out.few
  have hD := delete_any hr3 HN.out.symm (by omega) HOK.out hmn (j := m + 1) rfl hg3
  rw [dropS_del HUP.out HSP.out hkm] at hD
  refine call_want 7 (some 32) rfl rfl rfl (by kernel_rfl) (exec_call3 rfl enterDelete rfl rfl rfl rfl) (hD.mono ?_)
  rintro e' w4 ⟨v4, rfl, he4, hb4⟩
  have hS4 := hS3.belowB hb4 (hS.lts)
  refine ⟨_, rfl, hS4, ?_⟩
  simp only [Act.put, List.setIfInBounds_toArray, List.set_cons_zero, List.set_cons_succ]
  refine call_want 8 (some 33) rfl rfl rfl (by kernel_rfl) (exec_call2 rfl enterMade rfl rfl rfl) ((made_any he4 (by have := dropS_len (K.zip V) k; have := HR.out.len; have := HR.out.few; omega) L).mono ?_)
  rintro e' w5 ⟨k5, v5, rfl, ht5, hb5⟩
  obtain ⟨a5, n5, c5, rfl, -⟩ := ht5.hk.form
  obtain ⟨a6, n6, c6, rfl, -⟩ := ht5.hv.form
  have hS5 := hS4.below hb5
  refine ⟨_, rfl, hS5, ?_⟩
  simp only [Act.put, List.setIfInBounds_toArray, List.set_cons_zero, List.set_cons_succ]
  obtain ⟨x5, y5, z5, h45⟩ := hS5.h4
  have hS6 := hS5.put L (.slice a5 n5 c5) (.slice a6 n6 c6)
  refine only_skip 9 none rfl rfl rfl (by kernel_rfl) (exec_store rfl (store_node h45 L a5 n5 c5 a6 n6 c6) rfl rfl) hS6 ?_
  simp only [Act.put]
  refine take_want 10 (some 5) .nilIface rfl rfl rfl (by kernel_rfl) (by kernel_rfl) (by kernel_rfl) (fun _ _ _ h => h) (fun wx hx => exec_assign rfl rfl) hS6 ?_
  simp only [Act.put, List.setIfInBounds_toArray, List.set_cons_zero, List.set_cons_succ]
  refine wpAnyH_done (by kernel_rfl) ?_ _
  go_wp2_with fail
  refine ret_node2 rfl _ _ _ _ rfl (stN_at h45 L (.slice a5 n5 c5) (.slice a6 n6 c6)) rfl ?_
  have ht6 := ht5.stN (b := w.heap.size + 1) (by have := hS4.lts; omega) L (.slice a5 n5 c5) (.slice a6 n6 c6)
  exact ⟨_, _, rfl, ht6.base (by have := hS4.lts; omega), hS6.bel⟩
end Go.Proofs.Ytcidadikmmdalaa
