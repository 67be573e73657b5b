/- Delete, Done. -/
import Derived.Test.YtjofbehmhdjohaaAd
namespace Go.Proofs.Ytjofbehmhdjohaa
open Go.RowKit Go.Extern

/-- Cells laid into a row. -/
def layC (C : List Value) (o : Nat) (ms : List Value) : List Value := C.take o ++ ms ++ C.drop (o + ms.length)
theorem layC_length {C ms : List Value} {o : Nat} (h : o + ms.length ≤ C.length) : (layC C o ms).length = C.length := by simp [layC]; omega
theorem layC_take {C ms : List Value} {o : Nat} (h : o ≤ C.length) : (layC C o ms).take (o + ms.length) = C.take o ++ ms := by
  unfold layC
  rw [List.take_append_of_le_length (by simp; omega), List.take_of_length_le (by simp; omega)]
theorem layC_take0 {C ms : List Value} {o : Nat} (h : o ≤ C.length) : (layC C o ms).take o = C.take o := by
  unfold layC
  rw [List.append_assoc, List.take_append_of_le_length (by simp; omega), List.take_of_length_le (by simp; omega)]
/-- The world in which a row is another one. -/
def putC (w : World) (g : Nat) (C : List Value) : World := w.setRow g C.toArray
def RowC (w : World) (g : Nat) (C : List Value) : Prop := w.heap[g]? = some (.cells C.toArray 69 (0, 0))
theorem putC_row {w : World} {g : Nat} {C : List Value} (h : RowC w g C) (D : List Value) : RowC (putC w g D) g D := setRow_heap _ _ _ _ _ _ h
theorem putC_other {w : World} {g k : Nat} (C : List Value) (h : k ≠ g) : (putC w g C).heap[k]? = w.heap[k]? := setRow_other _ _ _ _ h
theorem putC_size (w : World) (g : Nat) (C : List Value) : (putC w g C).heap.size = w.heap.size := setRow_size _ _ _
theorem putC_turn {F : Nat → Prop} (w : World) {g : Nat} (C : List Value) (hg : F g) : Turn F w (putC w g C) :=
  ⟨rfl, rfl, rfl, by rw [putC_size]; exact Nat.le_refl _, fun k _ hn => putC_other C (fun e => hn (by rw [e]; exact hg))⟩
theorem store_rowC {w : World} {g : Nat} {C : List Value} (h : RowC w g C) {o : Nat} {ms : List Value} (ho : o + ms.length ≤ C.length) (h1 : ∀ u ∈ ms, u.oneCell' = true) : (storeCells ⟨g, o, none⟩ ms).run Try.prog w = .ok () (putC w g (layC C o ms)) := by
  have := run_storeCells_at Try.prog g o 69 ms 0 C.toArray w h (by simp; omega) h1
  rw [this]
  unfold putC layC
  simp
theorem loadC {w : World} {a : Addr} {ms : List En} (h : SrcK w a (cellsOf enE ms)) : (loadCells a (ms.length * 2)).run Try.prog w = .ok (cellsOf enE ms).toArray w := by
  rw [← cellsOf_length enE_len]; exact run_loadCells_list (P := Try.prog) w a (cellsOf enE ms) h
theorem infoEn_parts : ∃ i0, Try.prog.info? 69 = some i0 ∧ i0.zero = some (.agg #[.int .i64 0, .slice none 0 0]) ∧ i0.size = 2 ∧ i0.bytes = 32 := by
  obtain ⟨i0, hi, hi2⟩ := Option.map_eq_some_iff.1 infoEn
  simp only [Prod.mk.injEq] at hi2
  exact ⟨i0, hi, hi2.1, hi2.2.1, hi2.2.2⟩
theorem run_roomC {w : World} {g : Nat} {C : List Value} (h : RowC w g C) {i c sCap : Nat} {a : Addr} {ms : List En} (hs : SrcK w a (cellsOf enE ms)) (hn : i + ms.length ≤ c) (hl : c * 2 ≤ C.length) (ty : TypeId) :
    (Builtin.append_ #[62, 62] ty #[.slice (some ⟨g, 0, none⟩) i c, .slice (some a) ms.length sCap]).run Try.prog w = .ok (.slice (some ⟨g, 0, none⟩) (i + ms.length) c) (putC w g (layC C (i * 2) (cellsOf enE ms))) := by
  obtain ⟨i0, hi, -, hz, -⟩ := infoEn_parts
  have h1 := loadC hs
  have h2 := store_rowC (o := i * 2) (ms := cellsOf enE ms) h (by rw [cellsOf_length enE_len]; omega) (fun u hu => cellsOf_one enE_one hu)
  have e : (⟨g, 0, none⟩ : Addr).add (i * 2) = ⟨g, i * 2, none⟩ := by rw [add_plain]; simp
  simp [Builtin.append_, run_underlying Try.underlying62, Builtin.lenOf, Builtin.firstCells, sizeOf, typeInfo, hi, hz, h1, h2, hn, e]
theorem zeroC : Builtin.zeroCells (#[.int .i64 0, .slice none 0 0] : Array Value) 1 = #[.int .i64 0, .slice none 0 0] := by kernel_rfl
theorem aggC : (Value.agg #[.int .i64 0, .slice none 0 0]).cells = #[.int .i64 0, .slice none 0 0] := by rfl
theorem run_clearC {w : World} {g : Nat} {C : List Value} (h : RowC w g C) {m c : Nat} (ho : m * 2 + 2 ≤ C.length) (ty : TypeId) :
    (Builtin.clear_ #[62] ty #[.slice (some ⟨g, m * 2, none⟩) 1 c]).run Try.prog w = .ok (.tuple #[]) (putC w g (layC C (m * 2) [.int .i64 0, .slice none 0 0])) := by
  obtain ⟨i0, hi, hz0, hz, -⟩ := infoEn_parts
  have h2 := store_rowC (o := m * 2) (ms := [.int .i64 0, .slice none 0 0]) h (by simp; omega) (by intro u hu; simp at hu; rcases hu with rfl | rfl <;> rfl)
  simp [Builtin.clear_, run_underlying Try.underlying62, zeroValue, typeInfo, hi, hz0, aggC, zeroC, h2]
theorem wpList_clear_eq {w w' : World} {ops : Array Oper} {rest : List Oper} {o : Oper} {a : Act} {Q : Exit → Act → World → Prop} {v sv : Value} {t : TypeId} (hg : o.guard = none) (s : Operand)
    (hop : o.op = Op.call { callee := Callee.builtin Builtin.clear, args := #[s], argTypes := #[t] }) (hs : a.eval s = sv) (hrun : (Builtin.clear_ #[t] o.type #[sv]).run Try.prog w = .ok v w')
    (hK : wpList Try.prog ops Q rest (a.put o.dst v) w') : wpList Try.prog ops Q (o :: rest) a w := by
  refine wpList_plain hg fun K hK' => ?_
  unfold Oper.wp
  simp [execOp, hop, resolve, invoke, builtin, hs, hrun, Result.andThen]
  exact hK' _ _ hK
/-- The elements from a place on, in their row. -/
theorem srcC {w : World} {g n j : Nat} {C : List Value} {E : List En} (h : RowC w g C) (hC : C.take (n * 2) = cellsOf enE E) (hj : j ≤ n) : SrcK w ⟨g, j * 2, none⟩ (cellsOf enE (E.drop j)) := fun q u hu => by
  rw [← cellsOf_drop enE_len, ← hC, List.drop_take] at hu
  have hq : q < n * 2 - j * 2 := by
    have := (List.getElem?_eq_some_iff.1 hu).1
    rw [List.length_take] at this; omega
  rw [List.getElem?_take_of_lt hq, List.getElem?_drop] at hu
  rw [add_plain, row_cell h]; simpa using hu
theorem cut_backC {w : World} {g n c j : Nat} {C : List Value} {E : List En} (h : RowC w g C) (hC : C.take (n * 2) = cellsOf enE E) (hn : E.length = n) (hj : j ≤ n) (hnc : n ≤ c) : ∃ a k, (∀ w2, (Instr.slice 62 (.slice (some ⟨g, 0, none⟩) n c) (some (.int .i64 (j : Int))) none none).run Try.prog w2 = .ok (.slice (some a) (E.drop j).length k) w2) ∧ SrcK w a (cellsOf enE (E.drop j)) := by
  have hl : (E.drop j).length = n - j := by simp [hn]
  by_cases e : c = j
  · subst e
    obtain rfl : c = n := by omega
    refine ⟨⟨g, 0, none⟩, 0, fun w2 => ?_, ?_⟩
    · rw [hl, Nat.sub_self]; exact slice_end rfl w2
    · rw [List.drop_of_length_le (by omega)]; exact SrcK.nil _ _
  · exact ⟨⟨g, j * 2, none⟩, c - j, fun w2 => by rw [hl]; exact slice_from0 hj e w2, srcC h hC hj⟩
theorem slice_lh0 {g n c lo hi : Nat} (h : lo ≤ hi) (h2 : hi ≤ c) (hc : c ≠ lo) (w : World) : (Instr.slice 62 (.slice (some ⟨g, 0, none⟩) n c) (some (.int .i64 (lo : Int))) (some (.int .i64 (hi : Int))) none).run Try.prog w = .ok (.slice (some ⟨g, lo * 2, none⟩) (hi - lo) (c - lo)) w := by
  rw [run_slice_lh (P := Try.prog) w 62 _ n c underEn .i64 .i64 (lo : Int) (hi : Int) (by omega) (by omega) (by omega), sizeEn]
  simp [Result.andThen, sliced, hc, add_plain]
/-- What Delete leaves. -/
def Deld (w : World) (v : Value) (E : List En) (e : Ending) (w' : World) : Prop := ∃ v', e = .returned v' ∧ OwnK enE 2 69 w' 0 v' E ∧ v'.ownBlock = v.ownBlock ∧ Turn (fun k => v.ownBlock = some k) w w'

set_option maxRecDepth 100000 in
set_option maxHeartbeats 2000000 in
theorem delete_any {w : World} {v : Value} {E : List En} (ho : OwnK enE 2 69 w 0 v E) {i : Nat} (hi : i < E.length) :
    Calls Try.prog 37 #[v, .int .i64 (i : Int), .int .i64 ((i : Int) + 1)] w (Deld w v (E.take i ++ E.drop (i + 1))) := by
  have hfew := ho.2
  obtain ⟨g, c, cur, rfl, hh, hnc, hm, hs, ht, -⟩ := ownsRow_pos ho.1 (by omega)
  obtain ⟨C, rfl⟩ : ∃ C : List Value, cur = C.toArray := ⟨cur.toList, rfl⟩
  have hr : RowC w g C := hh
  have hCl : C.length = c * 2 := by simpa using hs
  have hC : C.take (E.length * 2) = cellsOf enE E := by simpa using ht
  obtain ⟨n, hn⟩ : ∃ n, E.length = n := ⟨_, rfl⟩
  obtain ⟨j, hj⟩ : ∃ j, i + 1 = j := ⟨_, rfl⟩
  rw [hn] at hC hnc hi hfew ⊢
  rw [hj]
  obtain ⟨a, k, hsl, hsrc⟩ := cut_backC hr hC hn (j := j) (by omega) hnc
  have hdl : (E.drop j).length = n - j := by simp [hn]
  have hap := run_roomC (w := w.drew) (C := C) (sCap := k) hr (i := i) (c := c) hsrc (by omega) (by omega) 62
  obtain ⟨m, hm1⟩ : ∃ m, i + (E.drop j).length = m := ⟨_, rfl⟩
  rw [hm1] at hap
  have hmn : m + 1 = n := by omega
  obtain ⟨C1, hC1⟩ : ∃ C1, layC C (i * 2) (cellsOf enE (E.drop j)) = C1 := ⟨_, rfl⟩
  have hl1 : C1.length = c * 2 := by rw [← hC1, layC_length (by rw [cellsOf_length enE_len]; omega)]; exact hCl
  have hE1 : C1.take (m * 2) = cellsOf enE (E.take i ++ E.drop j) := by
    have := layC_take (C := C) (ms := cellsOf enE (E.drop j)) (o := i * 2) (by omega)
    rw [hC1, cellsOf_length enE_len, ← Nat.add_mul, hm1] at this
    rw [this, cellsOf_append, ← cellsOf_take enE_len, ← hC, List.take_take, Nat.min_eq_left (by omega)]
  rw [hC1] at hap
  have hr1 : RowC (putC w.drew g C1) g C1 := putC_row (w := w.drew) hr C1
  have ht1 : Turn (fun q => (Value.slice (some ⟨g, 0, none⟩) n c).ownBlock = some q) w (putC w.drew g C1) := (Turn.of_below (below_drew0 w)).trans (putC_turn w.drew C1 (show (Value.slice (some ⟨g, 0, none⟩) n c).ownBlock = some g from rfl)) fun _ _ h => h
  obtain ⟨w1, hw1⟩ : ∃ w1, putC w.drew g C1 = w1 := ⟨_, rfl⟩
  rw [hw1] at hap hr1 ht1
  have hcl := run_clearC hr1 (m := m) (c := c - m) (by omega) 0
  obtain ⟨C2, hC2⟩ : ∃ C2, layC C1 (m * 2) [.int .i64 0, .slice none 0 0] = C2 := ⟨_, rfl⟩
  have hl2 : C2.length = c * 2 := by rw [← hC2, layC_length (by simp; omega)]; exact hl1
  have hE2 : C2.take (m * 2) = cellsOf enE (E.take i ++ E.drop j) := by rw [← hC2, layC_take0 (by omega), hE1]
  rw [hC2] at hcl
  have hr2 : RowC (putC w1 g C2) g C2 := putC_row hr1 C2
  have ht2 : Turn (fun q => (Value.slice (some ⟨g, 0, none⟩) n c).ownBlock = some q) w (putC w1 g C2) := ht1.trans (putC_turn w1 C2 (show (Value.slice (some ⟨g, 0, none⟩) n c).ownBlock = some g from rfl)) fun _ _ h => h
  obtain ⟨w2, hw2⟩ : ∃ w2, putC w1 g C2 = w2 := ⟨_, rfl⟩
  rw [hw2] at hcl hr2 ht2
  have hlen : (E.take i ++ E.drop j).length = m := by simp; omega
  have HOW : Hid (OwnK enE 2 69 w2 0 (.slice (some ⟨g, 0, none⟩) m c) (E.take i ++ E.drop j)) :=
    ⟨⟨by rw [hlen, cellsOf_length enE_len, hlen], .inr ⟨g, c, C2.toArray, by rw [hlen], by omega, hr2, by omega, hm, by simpa using hl2, by rw [hlen]; simpa using hE2⟩⟩, by omega⟩
  have HTU := hide ht2
  obtain ⟨E2, hE2'⟩ : ∃ E2, E.take i ++ E.drop j = E2 := ⟨_, rfl⟩
  rw [hE2'] at HOW ⊢
  have hsl3 := slice_lh0 (g := g) (n := m) (c := c) (lo := m) (hi := n) (by omega) (by omega) (by omega) w1
  rw [show n - m = 1 by omega] at hsl3
  have hij : ¬ ((i : Int) = (j : Int)) := by omega
  have hij2 : ¬ (i = j) := by omega
  have hle : (i : Int) ≤ (j : Int) := by omega
  have hjn : (j : Int) ≤ (n : Int) := by omega
  have hjc : (n : Int) ≤ (c : Int) := by omega
  have hmn2 : (m : Int) ≤ (n : Int) := by omega
  rw [show (i : Int) + 1 = (j : Int) by omega]
  have HAP := hide hap
  have HSL := hide hsl
  have HIC := hide (show i ≤ c by omega)
  have HDL := hide hm1
  have HMN := hide hmn
  clear ho hh hs ht hr hC hsrc hap hsl hC1 hl1 hE1 hr1 ht1 hw1 hC2 hl2 hE2 hr2 ht2 hw2 hlen hE2' hCl hn hm1 hmn hdl hfew hm hj
  go_enter Try.func37, Try.ntmps37
  go_wp2_with fail
  have hap := HAP.out
  have hsl := HSL.out
  have hic := HIC.out
  refine wp_region_held_drew (S := fun _ => True) (by kernel_rfl) trivial (fun _ => ?_)
  refine take_want 0 (some 20) (.slice (some ⟨g, 0, none⟩) n c) rfl rfl rfl (by kernel_rfl) (by kernel_rfl) (by kernel_rfl) (fun _ _ _ h => h) (fun wx hx => exec_move rfl rfl) trivial ?_
  simp only [Act.put, List.setIfInBounds_toArray, List.set_cons_zero, List.set_cons_succ]
  refine take_want 1 (some 21) (.int .i64 (i : Int)) rfl rfl rfl (by kernel_rfl) (by kernel_rfl) (by kernel_rfl) (fun _ _ _ h => h) (fun wx hx => exec_move rfl rfl) trivial ?_
  simp only [Act.put, List.setIfInBounds_toArray, List.set_cons_zero, List.set_cons_succ]
  refine take_want 2 (some 22) (.slice (some ⟨g, 0, none⟩) i c) rfl rfl rfl (by kernel_rfl) (by kernel_rfl) (by kernel_rfl) (fun _ _ _ h => h) (fun wx hx => exec_slice_h rfl ((run_sliceAt_slice wx _ _ _ _ _ underEn).trans (slice_to hic wx)) rfl rfl) trivial ?_
  simp only [Act.put, List.setIfInBounds_toArray, List.set_cons_zero, List.set_cons_succ]
  refine take_want 3 (some 23) (.slice (some ⟨g, 0, none⟩) n c) rfl rfl rfl (by kernel_rfl) (by kernel_rfl) (by kernel_rfl) (fun _ _ _ h => h) (fun wx hx => exec_move rfl rfl) trivial ?_
  simp only [Act.put, List.setIfInBounds_toArray, List.set_cons_zero, List.set_cons_succ]
  refine take_want 4 (some 24) (.int .i64 (j : Int)) rfl rfl rfl (by kernel_rfl) (by kernel_rfl) (by kernel_rfl) (fun _ _ _ h => h) (fun wx hx => exec_move rfl rfl) trivial ?_
  simp only [Act.put, List.setIfInBounds_toArray, List.set_cons_zero, List.set_cons_succ]
  refine take_want 5 (some 25) (.slice (some a) (E.drop j).length k) rfl rfl rfl (by kernel_rfl) (by kernel_rfl) (by kernel_rfl) (fun _ _ _ h => h) (fun wx hx => exec_slice_l rfl ((run_sliceAt_slice wx _ _ _ _ _ underEn).trans (hsl wx)) rfl rfl) trivial ?_
  simp only [Act.put, List.setIfInBounds_toArray, List.set_cons_zero, List.set_cons_succ]
  refine only_value 6 (some 26) rfl rfl rfl (by kernel_rfl) (exec_append rfl hap rfl rfl) trivial ?_
  simp only [Act.put, List.setIfInBounds_toArray, List.set_cons_zero, List.set_cons_succ]
  refine take_want 7 (some 0) (.slice (some ⟨g, 0, none⟩) m c) rfl rfl rfl (by kernel_rfl) (by kernel_rfl) (by kernel_rfl) (fun _ _ _ h => h) (fun wx hx => exec_assign rfl rfl) trivial ?_
  simp only [Act.put, List.setIfInBounds_toArray, List.set_cons_zero]
  refine wpAnyH_done (by kernel_rfl) ?_ _
  clear hap hsl hic
  have hm1n : m < n := by have := HMN.out; omega
  go_wp2_with (at_builtin; refine wpList_clear_eq rfl _ rfl rfl hcl ?_; clear hcl)
  go_ret
  exact ⟨_, rfl, HOW.out, rfl, HTU.out⟩

theorem mem_cut {E : List En} {p : Nat} {e : En} (h : e ∈ E.take p ++ E.drop (p + 1)) : e ∈ E := by
  rcases List.mem_append.1 h with h | h
  · exact List.mem_of_mem_take h
  · exact List.mem_of_mem_drop h
theorem up_cut {E : List En} {p : Nat} (h : Up (E.map En.num)) : Up ((E.take p ++ E.drop (p + 1)).map En.num) := by
  unfold Up at *
  refine h.sublist (List.Sublist.map _ ?_)
  have h1 : (E.drop (p + 1)).Sublist (E.drop p) := by rw [← List.drop_drop]; exact List.drop_sublist _ _
  have := (List.Sublist.refl (E.take p)).append h1
  rwa [List.take_append_drop] at this
/-- A table whose row was cut. -/
theorem TbAt.cut {w w' : World} {F : Nat → Prop} {b : Nat} {v : Value} {E : List En} {last : Int} (h : TbAt w F b v E last) {p : Nat} {a : Option Addr} {n c : Nat} (ho : OwnK enE 2 69 w' 0 (.slice a n c) (E.take p ++ E.drop (p + 1))) (hv : (Value.slice a n c).ownBlock = v.ownBlock) (ht : Turn (fun k => v.ownBlock = some k) w w') :
    w'.cell? ⟨b, 0, none⟩ = some v ∧ w'.frozen? ⟨b, 0, none⟩ = false ∧ Tb (w'.setCell ⟨b, 0, none⟩ (.slice a n c)) F b (E.take p ++ E.drop (p + 1)) last ∧ Turn F w (w'.setCell ⟨b, 0, none⟩ (.slice a n c)) := by
  have hbv : v.ownBlock ≠ some b := fun e => (h.fv b e).2 rfl
  have hb1 : w'.heap[b]? = some (.cells #[v, .int .i64 last] 64 (0, 0)) := by rw [ht.block b (h.flt b h.fb) hbv]; exact h.blk
  have hne : ∀ k, k ≠ b → (w'.setCell ⟨b, 0, none⟩ (.slice a n c)).heap[k]? = w'.heap[k]? := fun k hk => set_other _ hk
  have hb5 : (w'.setCell ⟨b, 0, none⟩ (.slice a n c)).heap[b]? = some (.cells #[.slice a n c, .int .i64 last] 64 (0, 0)) := by
    have := set_cell_row (j := 0) hb1 (.slice a n c); simpa using this
  refine ⟨row_cell hb1 0, row_frozen hb1 0, ⟨_, hb5, ?_, h.fb, fun k hk => h.fv k (by rw [← hv]; exact hk), fun e he => ?_, fun k hk => ?_, up_cut h.up, fun e he => h.num e (mem_cut he), h.lst⟩, ?_⟩
  · exact ho.same fun k o hk ho => by rw [hne k (fun e => hbv (by rw [← hv, hk, e]))]; exact ho
  · have h0 := (h.sp e (mem_cut he)).keep (w' := w'.setCell ⟨b, 0, none⟩ (.slice a n c)) fun k hk hz => by rw [hne k hz.2.1, ht.block k hk hz.2.2]
    exact h0.mono fun k _ hz => ⟨hz.1, hz.2.1, by rw [hv]; exact hz.2.2⟩
  · rw [setCell_size]; exact Nat.lt_of_lt_of_le (h.flt k hk) ht.size
  · have t1 : Turn F w w' := ⟨ht.os, ht.tape, ht.output, ht.size, fun k hk hn => ht.block k hk (fun e => hn (h.fv k e).1)⟩
    exact t1.trans (turn_set w' _ h.fb) fun _ _ h => h
/-- What Done leaves. -/
def Doned (w : World) (F : Nat → Prop) (b : Nat) (E : List En) (last k : Int) (e : Ending) (w' : World) : Prop :=
  (e = .returned (errV 130) ∧ (∀ x ∈ E, x.num ≠ k) ∧ Below w.heap.size w w') ∨
  (∃ p x, e = .returned (errV 131) ∧ E[p]? = some x ∧ x.num = k ∧ freeB E x p = false ∧ Below w.heap.size w w') ∨
  (∃ p x, e = .returned (errV 0) ∧ E[p]? = some x ∧ x.num = k ∧ freeB E x p = true ∧ Tb w' F b (E.take p ++ E.drop (p + 1)) last ∧ Turn F w w')

set_option maxRecDepth 100000 in
set_option maxHeartbeats 2000000 in
theorem done_any {w : World} {F : Nat → Prop} {b : Nat} {E : List En} {last : Int} (h : Tb w F b E last) (k : Int) : Calls Try.prog 18 #[.pointer (some ⟨b, 0, none⟩), .int .i64 k] w (Doned w F b E last k) := by
  have HT := hide h
  have hF := find_any h k
  clear h
  go_enter Try.func18, Try.ntmps18
  go_wp2_with fail
  refine hF.mono ?_
  rintro e w1 ⟨⟨p, q, rfl, h1, h2, h3⟩, hb⟩
  have HB := hide hb
  have HT1 := hide (HT.out.below hb)
  clear hb h1 HT
  cases q with
  | false =>
    have H3 := hide (h3 rfl)
    clear h2 h3
    go_wp2_with fail
    go_ret
    exact .inl ⟨rfl, H3.out, HB.out⟩
  | true =>
    obtain ⟨x, hx, rfl⟩ := h2 rfl
    have HX := hide hx
    clear h2 h3
    have hR := isReady_any HT1.out hx
    clear hx
    go_wp2_with fail
    refine hR.mono ?_
    rintro e w2 ⟨rfl, hb2⟩
    have HB2 := hide (nextB HB.out hb2)
    have HT2 := hide (HT1.out.below hb2)
    clear hb2 HT1 HB
    cases hf : freeB E x p with
    | false =>
      have HF := hide hf
      clear hf
      go_wp2_with fail
      go_ret
      exact .inr (.inl ⟨p, x, rfl, HX.out, rfl, HF.out, HB2.out⟩)
    | true =>
      have HF := hide hf
      clear hf
      obtain ⟨v, ht⟩ := HT2.out
      have c0 := ht.c0
      have hp := (List.getElem?_eq_some_iff.1 HX.out).1
      have hD := delete_any ht.own hp
      have HTA := hide ht
      have hp3 : IntKind.i64.wrap ((p : Int) + 1) = (p : Int) + 1 := IntWalk.i64_in _ ⟨by omega, by have := ht.own.2; omega⟩
      obtain ⟨a, n, c, rfl, -⟩ := ht.own.form
      clear ht hp
      go_wp2_with fail
      refine hD.mono ?_
      rintro e w3 ⟨v', rfl, ho, hv, htu⟩
      obtain ⟨a2, n2, c2, rfl, -⟩ := ho.form
      obtain ⟨k0, k1, htb, htf⟩ := HTA.out.cut ho hv htu
      have HTB := hide htb
      have HTF := hide ((Turn.of_below HB2.out).trans htf fun _ _ h => h)
      clear ho hv htu htb htf c0 hD
      go_wp2_with fail
      go_ret
      exact .inr (.inr ⟨p, x, rfl, HX.out, rfl, HF.out, HTB.out, HTF.out⟩)
end Go.Proofs.Ytjofbehmhdjohaa
