/- Nodes in memory; cut. -/
import Derived.Test.YtcidadikmmdalaaDoorMd
import Derived.Test.YtcidadikmmdalaaDoorRw
namespace Go.Proofs.YtcidadikmmdalaaDoor
open Go.RowKit Go.Extern

/-- A node: its level, its pairs. -/
abbrev Nd := Int × List En
/-- One node at a place in memory. -/
def NdAt (w : World) (g i : Nat) (nd : Nd) : Prop := ∃ kv vv, w.cell? ⟨g, i * 3, none⟩ = some (.int .i64 nd.1) ∧ w.cell? ⟨g, i * 3 + 1, none⟩ = some kv ∧ w.cell? ⟨g, i * 3 + 2, none⟩ = some vv ∧ Ints w kv (nd.2.map Prod.fst) ∧ Ints w vv (nd.2.map Prod.snd)
/-- The value 'v' is, in the world 'w', a slice of these nodes. -/
def Nds (w : World) (v : Value) (ns : List Nd) : Prop := ∃ ao cap g n, v = .slice ao n cap ∧ Hid (n = ns.length) ∧ (0 < ns.length → ao = some ⟨g, 0, none⟩) ∧ ∀ i nd, ns[i]? = some nd → NdAt w g i nd
theorem NdAt.below {w w' : World} (hb : Below w.heap.size w w') {g i : Nat} {nd : Nd} (h : NdAt w g i nd) : NdAt w' g i nd := by
  obtain ⟨kv, vv, h1, h2, h3, h4, h5⟩ := h
  exact ⟨kv, vv, cell_bel hb h1, cell_bel hb h2, cell_bel hb h3, h4.below hb, h5.below hb⟩
theorem Nds.below {w w' : World} (hb : Below w.heap.size w w') {v : Value} {ns : List Nd} (h : Nds w v ns) : Nds w' v ns := by
  obtain ⟨ao, cap, g, n, h1, h2, h3, h4⟩ := h
  exact ⟨ao, cap, g, n, h1, h2, h3, fun i nd hi => (h4 i nd hi).below hb⟩
theorem Nds.nil (w : World) : Nds w (.slice none 0 0) [] := ⟨none, 0, 0, 0, rfl, hide rfl, by simp, by simp⟩
theorem Nds.one {w : World} {g : Nat} {L : Int} {kv vv : Value} {l : List En} {T : TypeId} (h : w.heap[g]? = some (.cells #[.int .i64 L, kv, vv] T (0, 0))) (hk : Ints w kv (l.map Prod.fst)) (hv : Ints w vv (l.map Prod.snd)) : Nds w (.slice (some ⟨g, 0, none⟩) 1 1) [(L, l)] := by
  refine ⟨_, _, g, 1, rfl, hide rfl, fun _ => rfl, fun i nd hi => ?_⟩
  match i, hi with
  | 0, hi =>
    obtain rfl : (L, l) = nd := by simpa using hi
    exact ⟨kv, vv, by rw [row_cell h]; rfl, by rw [row_cell h]; rfl, by rw [row_cell h]; rfl, hk, hv⟩
  | i + 1, hi => simp at hi
theorem Nds.two {w : World} {g : Nat} {L M : Int} {kv vv kv2 vv2 : Value} {l m : List En} {T : TypeId} (h : w.heap[g]? = some (.cells #[.int .i64 L, kv, vv, .int .i64 M, kv2, vv2] T (0, 0))) (hk : Ints w kv (l.map Prod.fst)) (hv : Ints w vv (l.map Prod.snd)) (hk2 : Ints w kv2 (m.map Prod.fst)) (hv2 : Ints w vv2 (m.map Prod.snd)) : Nds w (.slice (some ⟨g, 0, none⟩) 2 2) [(L, l), (M, m)] := by
  refine ⟨_, _, g, 2, rfl, hide rfl, fun _ => rfl, fun i nd hi => ?_⟩
  match i, hi with
  | 0, hi =>
    obtain rfl : (L, l) = nd := by simpa using hi
    exact ⟨kv, vv, by rw [row_cell h]; rfl, by rw [row_cell h]; rfl, by rw [row_cell h]; rfl, hk, hv⟩
  | 1, hi =>
    obtain rfl : (M, m) = nd := by simpa using hi
    exact ⟨kv2, vv2, by rw [row_cell h]; rfl, by rw [row_cell h]; rfl, by rw [row_cell h]; rfl, hk2, hv2⟩
  | i + 2, hi => simp at hi
/-- What pairs are cut to. -/
def cutS (L : Int) (l : List En) : List Nd := if l.length = 0 then [] else if l.length ≤ 7 then [(L, l)] else [(L, l.take 4), (L, l.drop 4)]
/-- What a call leaves that tells nodes. -/
def Nodes (w : World) (ns : List Nd) (e : Ending) (w' : World) : Prop := ∃ v, e = .returned v ∧ Nds w' v ns ∧ Below w.heap.size w w'
theorem enterMade (args : Array Value) (w : World) : (callFunc 56 args).run Tryd.prog w = .ok (.enter 56 args) w := by kernel_rfl
theorem build2 (L : Int) (kv vv : Value) (M : Int) (kv2 vv2 : Value) (w : World) : (Instr.buildSlice 47 2 #[(0, .agg #[.int .i64 L, kv, vv]), (1, .agg #[.int .i64 M, kv2, vv2])]).run Tryd.prog w = .ok (.slice (some ⟨w.heap.size, 0, none⟩) 2 2) (w.alloc (.cells #[.int .i64 L, kv, vv, .int .i64 M, kv2, vv2] 30)) := by kernel_rfl
theorem exec_two {ρ : Operand → Value} {o : Oper} {w w' : World} {t : TypeId} {x y : Operand} {v xv yv : Value} (ho : o.op = .buildSlice t 2 #[(0, x), (1, y)]) (hr : (Instr.buildSlice t 2 #[(0, xv), (1, yv)]).run Tryd.prog w = .ok v w') (hx : ρ x = xv) (hy : ρ y = yv) : (execOp ρ o).run Tryd.prog w = .ok (.value v) w' := by
  unfold execOp; simp [ho, hx, hy, hr]
theorem Ents.take {w : World} {g off n cap : Nat} {l : List En} (h : Ents w (.slice (some ⟨g, off, none⟩) n cap) l) {m : Nat} (hm : m ≤ n) : Ents w (.slice (some ⟨g, off, none⟩) m cap) (l.take m) := by
  obtain ⟨ao, cap', g', off', e, h2, h3, h4, h5, h6, h7, h8⟩ := h
  simp only [Value.slice.injEq] at e
  obtain ⟨rfl, rfl, rfl⟩ := e
  have hlen : (l.take m).length = m := by simp; omega
  refine ⟨_, cap, g', off', by rw [hlen], fun hp => ?_, fun i p hi => ?_, fun p hp => h4 p (List.mem_of_mem_take hp), by rw [hlen]; omega, by simp, by rw [hlen]; omega, h8⟩
  · exact h2 (by rw [hlen] at hp; omega)
  · rw [List.getElem?_take] at hi
    split at hi
    · exact h3 i p hi
    · cases hi
theorem Ents.drop {w : World} {g off n cap : Nat} {l : List En} (h : Ents w (.slice (some ⟨g, off, none⟩) n cap) l) {m : Nat} (hm : m < n) : Ents w (.slice (some ⟨g, off + m * 2, none⟩) (n - m) (cap - m)) (l.drop m) := by
  obtain ⟨ao, cap', g', off', e, h2, h3, h4, h5, h6, h7, h8⟩ := h
  simp only [Value.slice.injEq] at e
  obtain ⟨rfl, rfl, rfl⟩ := e
  have e2 := Option.some.inj (h2 (by omega))
  simp only [Addr.mk.injEq, and_true] at e2
  obtain ⟨rfl, rfl⟩ := e2
  refine ⟨_, _, g, off + m * 2, by rw [List.length_drop], fun _ => rfl, fun i p hi => ?_, fun p hp => h4 p (List.mem_of_mem_drop hp), by simp; omega, by simp, by simp; omega, Nat.le_trans (Nat.sub_le _ _) h8⟩
  rw [List.getElem?_drop] at hi
  have := h3 _ p hi
  rw [show off + m * 2 + i * 2 = off + (m + i) * 2 by omega]
  exact this

set_option maxRecDepth 100000 in
set_option maxHeartbeats 1000000 in
theorem cut_any {w : World} {v0 : Value} {l : List En} (hv : Ents w v0 l) (hl : l.length ≤ 1000) (L : Int) :
    Calls Tryd.prog 41 #[.int .i64 L, v0] w (Nodes w (cutS L l)) := by
  have HV := hide hv
  obtain ⟨ao, n, cap, rfl, hn⟩ := hv.form
  have hl2 := hn.out
  rw [← hn.out] at hl
  unfold cutS
  rw [← hn.out]
  by_cases h0 : n = 0
  · rw [if_pos h0]
    subst h0
    clear hv hl2
    go_enter Tryd.func41, Tryd.ntmps41
    go_wp2_with fail
    go_ret
    exact ⟨_, rfl, Nds.nil _, Below.refl _ _⟩
  rw [if_neg h0]
  have e0 : ((n : Int) == 0) = false := by simp; omega
  by_cases h7 : n ≤ 7
  · rw [if_pos h7]
    have e7 : (n : Int) ≤ 7 := by omega
    clear hv hl2
    go_enter Tryd.func41, Tryd.ntmps41
    go_wp2_with (go_at_call 56; refine (made_any HV.out (by rw [← hn.out]; omega) L).mono ?_; rintro e w1 ⟨kv, vv, rfl, ht, hb⟩; obtain ⟨hk, hv⟩ := ht.ints; have HKK := hide hk; have HVV := hide hv; have HB1 := hide hb; obtain ⟨aK, nK, cK, rfl, -⟩ := hk.form; obtain ⟨aV, nV, cV, rfl, -⟩ := hv.form; clear hk hv hb)
    go_ret
    have hba := bel_alloc w1 (.cells #[.int .i64 L, .slice aK nK cK, .slice aV nV cV] 30)
    exact ⟨_, rfl, Nds.one (heap_alloc_new _ _) (HKK.out.below hba) (HVV.out.below hba), nextB HB1.out hba⟩
  · rw [if_neg h7]
    have e7 : ¬ (n : Int) ≤ 7 := by omega
    obtain ⟨ao', cap', g, off, e, h2, -, -, -, -, hcap, -⟩ := hv
    simp only [Value.slice.injEq] at e
    obtain ⟨rfl, -, rfl⟩ := e
    obtain rfl := h2 (by omega)
    have hc4 : 4 ≤ cap := by omega
    have hc5 : cap ≠ 4 := by omega
    have hn4 : 4 ≤ n := by omega
    have H4 := hide (HV.out.take (m := 4) (by omega))
    have H5 := hide (HV.out.drop (m := 4) (by omega))
    have HL := hide hl2
    have HS := hide (below_drew0 w)
    clear h2 hcap hl2 h0
    go_enter Tryd.func41, Tryd.ntmps41
    go_wp2_with fail
    have hl2 := HL.out
    refine wp_region_held_drew (S := Below w.heap.size w) (by kernel_rfl) HS.out (fun hS => ?_)
    refine take_want 0 (some 17) (.int .i64 L) rfl rfl rfl (by kernel_rfl) (by kernel_rfl) (by kernel_rfl) (fun _ _ _ h => h) (fun wx hx => exec_move rfl rfl) hS ?_
    simp only [Act.put, List.setIfInBounds_toArray, List.set_cons_zero, List.set_cons_succ]
    refine take_want 1 (some 18) (.slice (some ⟨g, off, none⟩) n cap) rfl rfl rfl (by kernel_rfl) (by kernel_rfl) (by kernel_rfl) (fun _ _ _ h => h) (fun wx hx => exec_move rfl rfl) hS ?_
    simp only [Act.put, List.setIfInBounds_toArray, List.set_cons_zero, List.set_cons_succ]
    refine take_want 2 (some 19) (.slice (some ⟨g, off, none⟩) 4 cap) rfl rfl rfl (by kernel_rfl) (by kernel_rfl) (by kernel_rfl) (fun _ _ _ h => h) (fun wx hx => exec_slice_h rfl ((run_sliceAt_slice wx _ _ _ _ _ underP).trans (slice_to (hi := 4) hc4 wx)) rfl rfl) hS ?_
    simp only [Act.put, List.setIfInBounds_toArray, List.set_cons_zero, List.set_cons_succ]
    refine take_want 4 (some 21) (.int .i64 L) rfl rfl rfl (by kernel_rfl) (by kernel_rfl) (by kernel_rfl) (fun _ _ _ h => h) (fun wx hx => exec_move rfl rfl) hS ?_
    simp only [Act.put, List.setIfInBounds_toArray, List.set_cons_zero, List.set_cons_succ]
    refine take_want 5 (some 22) (.slice (some ⟨g, off, none⟩) n cap) rfl rfl rfl (by kernel_rfl) (by kernel_rfl) (by kernel_rfl) (fun _ _ _ h => h) (fun wx hx => exec_move rfl rfl) hS ?_
    simp only [Act.put, List.setIfInBounds_toArray, List.set_cons_zero, List.set_cons_succ]
    refine take_want 6 (some 23) (.slice (some ⟨g, off + 4 * 2, none⟩) (n - 4) (cap - 4)) rfl rfl rfl (by kernel_rfl) (by kernel_rfl) (by kernel_rfl) (fun _ _ _ h => h) (fun wx hx => exec_slice_l rfl ((run_sliceAt_slice wx _ _ _ _ _ underP).trans (slice_from (lo := 4) hn4 hc5 wx)) rfl rfl) hS ?_
    simp only [Act.put, List.setIfInBounds_toArray, List.set_cons_zero, List.set_cons_succ]
    refine call_want 3 (some 20) rfl rfl rfl (by kernel_rfl) (exec_call2 rfl enterMade rfl rfl rfl) ((made_any (H4.out.below hS) (by simp; omega) L).mono ?_)
    rintro e' wA ⟨kA, vA, rfl, htA, hbA⟩
    obtain ⟨hkA, hvA⟩ := htA.ints
    refine ⟨_, rfl, nextB hS hbA, ?_⟩
    replace hS := nextB hS hbA
    simp only [Act.put, List.setIfInBounds_toArray, List.set_cons_zero, List.set_cons_succ]
    refine call_want 7 (some 24) rfl rfl rfl (by kernel_rfl) (exec_call2 rfl enterMade rfl rfl rfl) ((made_any (H5.out.below hS) (by simp; omega) L).mono ?_)
    rintro e' wB ⟨kB, vB, rfl, htB, hbB⟩
    obtain ⟨hkB, hvB⟩ := htB.ints
    refine ⟨_, rfl, nextB hS hbB, ?_⟩
    replace hS := nextB hS hbB
    simp only [Act.put, List.setIfInBounds_toArray, List.set_cons_zero, List.set_cons_succ]
    refine only_value 8 (some 25) rfl rfl rfl (by kernel_rfl) (exec_two rfl (build2 L kA vA L kB vB wB) rfl rfl) (nextB hS (bel_alloc _ _)) ?_
    replace hS := nextB hS (bel_alloc wB (.cells #[.int .i64 L, kA, vA, .int .i64 L, kB, vB] 30))
    simp only [Act.put, List.setIfInBounds_toArray, List.set_cons_zero, List.set_cons_succ]
    refine take_want 9 (some 4) (.slice (some ⟨wB.heap.size, 0, none⟩) 2 2) rfl rfl rfl (by kernel_rfl) (by kernel_rfl) (by kernel_rfl) (fun _ _ _ h => h) (fun wx hx => exec_assign rfl rfl) hS ?_
    simp only [Act.put, List.setIfInBounds_toArray, List.set_cons_zero, List.set_cons_succ]
    refine wpAnyH_done (by kernel_rfl) ?_ _
    go_wp2_with fail
    go_ret
    have hba := bel_alloc wB (.cells #[.int .i64 L, kA, vA, .int .i64 L, kB, vB] 30)
    exact ⟨_, rfl, Nds.two (heap_alloc_new _ _) (hkA.below (nextB hbB hba)) (hvA.below (nextB hbB hba)) (hkB.below hba) (hvB.below hba), hS⟩
end Go.Proofs.YtcidadikmmdalaaDoor
