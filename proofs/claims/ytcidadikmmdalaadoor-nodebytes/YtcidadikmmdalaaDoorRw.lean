/- Rows of pairs: cut, copied, appended in place, cleared. -/
import Derived.Test.YtcidadikmmdalaaDoorEx
import Derived.Laws.CopyRow
import Derived.Lib.AppendZerosOnto
namespace Go.Proofs.YtcidadikmmdalaaDoor
open Go.RowKit Go.Extern

theorem cellsE_take : ∀ (l : List En) (o : Nat), (cellsE l).take (o * 2) = cellsE (l.take o)
  | [], o => by simp [cellsE]
  | q :: l, 0 => by simp [cellsE]
  | q :: l, o + 1 => by
    have ih := cellsE_take l o
    rw [show (o + 1) * 2 = o * 2 + 2 by omega]
    simpa [cellsE] using ih
theorem cellsE_drop : ∀ (l : List En) (o : Nat), (cellsE l).drop (o * 2) = cellsE (l.drop o)
  | [], o => by simp [cellsE]
  | q :: l, 0 => by simp [cellsE]
  | q :: l, o + 1 => by
    have ih := cellsE_drop l o
    rw [show (o + 1) * 2 = o * 2 + 2 by omega]
    simpa [cellsE] using ih
/-- Pairs laid into a list. -/
def lay (l : List En) (o : Nat) (ms : List En) : List En := l.take o ++ ms ++ l.drop (o + ms.length)
theorem lay_length {l ms : List En} {o : Nat} (h : o + ms.length ≤ l.length) : (lay l o ms).length = l.length := by simp [lay]; omega
/-- The world in which a row of pairs is another one. -/
def putE (w : World) (g : Nat) (l : List En) : World := w.setRow g (cellsE l).toArray
theorem putE_row {w : World} {g : Nat} {l : List En} (h : RowE w g l) (m : List En) : RowE (putE w g m) g m := setRow_heap _ _ _ _ _ _ h
theorem putE_other {w : World} {g k : Nat} (l : List En) (h : k ≠ g) : (putE w g l).heap[k]? = w.heap[k]? := setRow_other _ _ _ _ h
theorem putE_size (w : World) (g : Nat) (l : List En) : (putE w g l).heap.size = w.heap.size := setRow_size _ _ _
theorem putE_below {B : Nat} {w0 w : World} {g : Nat} (h : Below B w0 w) (hg : B ≤ g) (l : List En) : Below B w0 (putE w g l) :=
  ⟨h.os, h.tape, h.output, by rw [putE_size]; exact h.size, fun k hk => by rw [putE_other l (by omega)]; exact h.block k hk⟩
theorem RowE.drew {w : World} {g : Nat} {l : List En} (h : RowE w g l) : RowE w.drew g l := h
theorem store_row {w : World} {g : Nat} {l : List En} (h : RowE w g l) {o : Nat} {ms : List En} (ho : o + ms.length ≤ l.length) : (storeCells ⟨g, o * 2, none⟩ (cellsE ms)).run Tryd.prog w = .ok () (putE w g (lay l o ms)) := by
  have := run_storeCells_at Tryd.prog g (o * 2) 56 (cellsE ms) 0 (cellsE l).toArray w h (by simp [cellsE_length]; omega) (fun v hv => cellsE_mem hv)
  rw [this]
  unfold putE lay
  congr 3
  rw [Nat.add_zero, cellsE_length, ← Nat.add_mul, cellsE_take, cellsE_drop, cellsE_append, cellsE_append]
/-- Where pairs are read from. -/
def SrcE (w : World) (a : Addr) (ms : List En) : Prop := ∀ j v, (cellsE ms)[j]? = some v → w.cell? (a.add j) = some v
theorem SrcE.nil (w : World) (a : Addr) : SrcE w a [] := fun j v h => by simp [cellsE] at h
theorem RowE.src {w : World} {g : Nat} {l : List En} (h : RowE w g l) (o n : Nat) : SrcE w ⟨g, o * 2, none⟩ ((l.drop o).take n) := fun j v hv => by
  rw [← cellsE_take, ← cellsE_drop] at hv
  have hj : j < n * 2 := by
    have := (List.getElem?_eq_some_iff.1 hv).1
    rw [List.length_take] at this; omega
  rw [List.getElem?_take_of_lt hj, List.getElem?_drop] at hv
  rw [add_plain, row_cell h]; simpa using hv
theorem RowE.src0 {w : World} {g : Nat} {l : List En} (h : RowE w g l) (n : Nat) : SrcE w ⟨g, 0, none⟩ (l.take n) := by
  have := h.src 0 n; simpa using this
theorem SrcE.load {w : World} {a : Addr} {ms : List En} (h : SrcE w a ms) : (loadCells a (ms.length * 2)).run Tryd.prog w = .ok (cellsE ms).toArray w := by
  rw [← cellsE_length]; exact run_loadCells_list (P := Tryd.prog) w a (cellsE ms) h
theorem infoE_parts : ∃ i0, Tryd.prog.info? 56 = some i0 ∧ i0.zero = some (.agg #[.int .i64 0, .int .i64 0]) ∧ i0.size = 2 ∧ i0.bytes = 16 := by
  obtain ⟨i0, hi, hi2⟩ := Option.map_eq_some_iff.1 infoE
  simp only [Prod.mk.injEq] at hi2
  exact ⟨i0, hi, hi2.1, hi2.2.1, hi2.2.2⟩
theorem run_copyE {w : World} {g : Nat} {l : List En} (h : RowE w g l) {o dLen dCap sLen sCap : Nat} {a : Addr} {ms : List En} (hs : SrcE w a ms) (hm : ms.length = Nat.min sLen dLen) (ho : o + ms.length ≤ l.length) (ty : TypeId) :
    (Builtin.copy_ #[53, 53] ty #[.slice (some ⟨g, o * 2, none⟩) dLen dCap, .slice (some a) sLen sCap]).run Tryd.prog w = .ok (goInt ms.length) (putE w g (lay l o ms)) := by
  obtain ⟨i0, hi, -, hz, -⟩ := infoE_parts
  have h1 := hs.load
  have h2 := store_row h ho
  simp [Builtin.copy_, run_underlying Tryd.underlying53, Builtin.lenOf, Builtin.firstCells, sizeOf, typeInfo, hi, hz, ← hm, h1, h2]
theorem run_roomE {w : World} {g : Nat} {l : List En} (h : RowE w g l) {i n sLen sCap : Nat} {a : Addr} {ms : List En} (hs : SrcE w a ms) (hm : ms.length = sLen) (hn : i + sLen ≤ n) (hl : n ≤ l.length) (ty : TypeId) :
    (Builtin.append_ #[53, 53] ty #[.slice (some ⟨g, 0, none⟩) i n, .slice (some a) sLen sCap]).run Tryd.prog w = .ok (.slice (some ⟨g, 0, none⟩) (i + sLen) n) (putE w g (lay l i ms)) := by
  obtain ⟨i0, hi, -, hz, -⟩ := infoE_parts
  subst hm
  have h1 := hs.load
  have h2 := store_row (o := i) (ms := ms) h (by omega)
  have e : (⟨g, 0, none⟩ : Addr).add (i * 2) = ⟨g, i * 2, none⟩ := by rw [add_plain]; simp
  simp [Builtin.append_, run_underlying Tryd.underlying53, Builtin.lenOf, Builtin.firstCells, sizeOf, typeInfo, hi, hz, h1, h2, hn, e]
theorem run_roomNil {w : World} {g i n : Nat} (ty : TypeId) (hn : i ≤ n) :
    (Builtin.append_ #[53, 53] ty #[.slice (some ⟨g, 0, none⟩) i n, .slice none 0 0]).run Tryd.prog w = .ok (.slice (some ⟨g, 0, none⟩) i n) w := by
  obtain ⟨i0, hi, -, hz, -⟩ := infoE_parts
  simp [Builtin.append_, run_underlying Tryd.underlying53, Builtin.lenOf, Builtin.firstCells, sizeOf, typeInfo, hi, hn, storeCells]
theorem zero_cells (n : Nat) : Builtin.zeroCells (#[.int .i64 0, .int .i64 0] : Array Value) n = (cellsE (List.replicate n ((0, 0) : En))).toArray := by
  rw [← made_cells]
  apply Array.ext
  · simp [Builtin.zeroCells, madeCells]
  · intro i h1 h2
    simp [Builtin.zeroCells, madeCells]
theorem agg_cells : (Value.agg #[.int .i64 0, .int .i64 0]).cells = #[.int .i64 0, .int .i64 0] := by rfl
theorem run_clearE {w : World} {g : Nat} {l : List En} (h : RowE w g l) {o n c : Nat} (hn : 0 < n) (ho : o + n ≤ l.length) (ty : TypeId) :
    (Builtin.clear_ #[53] ty #[.slice (some ⟨g, o * 2, none⟩) n c]).run Tryd.prog w = .ok (.tuple #[]) (putE w g (lay l o (List.replicate n (0, 0)))) := by
  obtain ⟨i0, hi, hz0, hz, -⟩ := infoE_parts
  have h2 := store_row (o := o) (ms := List.replicate n (0, 0)) h (by simpa using ho)
  have h3 := zero_cells n
  obtain ⟨m, rfl⟩ : ∃ m, n = m + 1 := ⟨n - 1, by omega⟩
  simp [Builtin.clear_, run_underlying Tryd.underlying53, zeroValue, typeInfo, hi, hz0, agg_cells, h3, h2]
theorem nextcap_le {need old : Nat} (h : need ≤ 1000) (h2 : old ≤ 200) : Builtin.nextslicecap need old * 16 ≤ 281474976710656 := by
  unfold Builtin.nextslicecap
  split
  · omega
  · split
    · omega
    · omega
theorem run_growE {w : World} {g : Nat} {l : List En} (h : RowE w g l) {i n k : Nat} (hl : l.length = n) (hi : i ≤ n) (hn : n ≤ 200) (hk : n < i + k) (hk2 : k ≤ 300) (ty : TypeId) :
    ∃ C, i + k ≤ C ∧ C ≤ maxLen ∧ (Builtin.append_ #[53, 3] ty #[.slice (some ⟨g, 0, none⟩) i n, .int .i64 (k : Int)]).run Tryd.prog w =
      .ok (.slice (some ⟨w.heap.size, 0, none⟩) (i + k) C) (w.drew.alloc (.cells (cellsE (l.take i ++ List.replicate (C - i) (0, 0))).toArray 56)) := by
  obtain ⟨i0, hi0, hz0, hz, hb⟩ := infoE_parts
  have hold : (Builtin.firstCells i0.size i (.slice (some ⟨g, 0, none⟩) i n)).run Tryd.prog w.drew = .ok (cellsE (l.take i)).toArray w.drew := by
    have := (h.drew.src0 i).load
    rw [show (l.take i).length = i by simp; omega] at this
    simpa [Builtin.firstCells, hz] using this
  have := Lib.run_append_grow_zeros (P := Tryd.prog) w 53 3 ty 56 i0 _ .i64 .i64 Tryd.underlying53 Tryd.underlying3 hi0 hz0 (some ⟨g, 0, none⟩) i n (cellsE (l.take i)) hold k (by omega) (by omega) (by omega) (by omega) (by rw [hb]; omega) (by rw [hb]; exact nextcap_le (by omega) hn)
  have hge := grownCap_ge w (i + k) n 56
  have hle := grownCap_le_maxLen w (i + k) n 56 (by unfold maxLen; omega)
  obtain ⟨C, hC⟩ : ∃ C, grownCap w (i + k) n 56 = C := ⟨_, rfl⟩
  rw [hC] at this hge hle
  have e : (cellsE (l.take i)).toArray ++ (cellsE (List.replicate k ((0, 0) : En))).toArray ++ (cellsE (List.replicate (C - (i + k)) ((0, 0) : En))).toArray = (cellsE (l.take i ++ List.replicate (C - i) (0, 0))).toArray := by
    rw [show C - i = k + (C - (i + k)) by omega, ← List.replicate_append_replicate, cellsE_append, cellsE_append]
    simp
  rw [agg_cells, zero_cells, zero_cells, e] at this
  exact ⟨C, hge, hle, this⟩
theorem sizeP (w : World) : (sizeOf (Tryd.prog.elem 53)).run Tryd.prog w = .ok 2 w := by kernel_rfl
theorem underP : Tryd.prog.underlying 53 = some (.slice (Tryd.prog.elem 53)) := by kernel_rfl
theorem slice_from {g o n c lo : Nat} (h : lo ≤ n) (hc : c ≠ lo) (w : World) : (Instr.slice 53 (.slice (some ⟨g, o, none⟩) n c) (some (.int .i64 (lo : Int))) none none).run Tryd.prog w = .ok (.slice (some ⟨g, o + lo * 2, none⟩) (n - lo) (c - lo)) w := by
  rw [run_slice_l (P := Tryd.prog) w 53 _ n c underP .i64 (lo : Int) (by omega) (by omega), sizeP]
  simp [Result.andThen, sliced, hc, add_plain]
theorem slice_from0 {g n c lo : Nat} (h : lo ≤ n) (hc : c ≠ lo) (w : World) : (Instr.slice 53 (.slice (some ⟨g, 0, none⟩) n c) (some (.int .i64 (lo : Int))) none none).run Tryd.prog w = .ok (.slice (some ⟨g, lo * 2, none⟩) (n - lo) (c - lo)) w := by
  have := slice_from (g := g) (o := 0) h hc w
  rwa [Nat.zero_add] at this
theorem slice_lh0 {g n c lo hi : Nat} (h : lo ≤ hi) (h2 : hi ≤ c) (hc : c ≠ lo) (w : World) : (Instr.slice 53 (.slice (some ⟨g, 0, none⟩) n c) (some (.int .i64 (lo : Int))) (some (.int .i64 (hi : Int))) none).run Tryd.prog w = .ok (.slice (some ⟨g, lo * 2, none⟩) (hi - lo) (c - lo)) w := by
  rw [run_slice_lh (P := Tryd.prog) w 53 _ n c underP .i64 .i64 (lo : Int) (hi : Int) (by omega) (by omega) (by omega), sizeP]
  simp [Result.andThen, sliced, hc, add_plain]
theorem slice_end {g o n c : Nat} (h : c = n) (w : World) : (Instr.slice 53 (.slice (some ⟨g, o, none⟩) n c) (some (.int .i64 (n : Int))) none none).run Tryd.prog w = .ok (.slice (some ⟨g, o, none⟩) 0 0) w := by
  subst h
  rw [run_slice_l (P := Tryd.prog) w 53 _ c c underP .i64 (c : Int) (by omega) (by omega), sizeP]
  simp [Result.andThen, sliced]
theorem slice_to {g o n c hi : Nat} (h : hi ≤ c) (w : World) : (Instr.slice 53 (.slice (some ⟨g, o, none⟩) n c) none (some (.int .i64 (hi : Int))) none).run Tryd.prog w = .ok (.slice (some ⟨g, o, none⟩) hi c) w := by
  rw [run_slice_h (P := Tryd.prog) w 53 _ n c underP .i64 (hi : Int) (by omega) (by omega), sizeP]
  simp [Result.andThen, sliced, add_plain]
theorem slice_lh {g o n c lo hi : Nat} (h : lo ≤ hi) (h2 : hi ≤ c) (hc : c ≠ lo) (w : World) : (Instr.slice 53 (.slice (some ⟨g, o, none⟩) n c) (some (.int .i64 (lo : Int))) (some (.int .i64 (hi : Int))) none).run Tryd.prog w = .ok (.slice (some ⟨g, o + lo * 2, none⟩) (hi - lo) (c - lo)) w := by
  rw [run_slice_lh (P := Tryd.prog) w 53 _ n c underP .i64 .i64 (lo : Int) (hi : Int) (by omega) (by omega) (by omega), sizeP]
  simp [Result.andThen, sliced, hc, add_plain]
section
variable {ρ : Operand → Value} {o : Oper} {w w' : World}
theorem exec_slice_l {t : TypeId} {x lo : Operand} {xv lv v : Value} (ho : o.op = .slice t x (some lo) none none) (hr : (Instr.sliceAt t xv (some lv) none none).run Tryd.prog w = .ok v w) (hx : ρ x = xv) (hl : ρ lo = lv) : (execOp ρ o).run Tryd.prog w = .ok (.value v) w := by
  unfold execOp; simp [ho, hx, hl, hr]
theorem exec_slice_h {t : TypeId} {x hi : Operand} {xv hv v : Value} (ho : o.op = .slice t x none (some hi) none) (hr : (Instr.sliceAt t xv none (some hv) none).run Tryd.prog w = .ok v w) (hx : ρ x = xv) (hh : ρ hi = hv) : (execOp ρ o).run Tryd.prog w = .ok (.value v) w := by
  unfold execOp; simp [ho, hx, hh, hr]
theorem exec_copy {t t' : TypeId} {x y : Operand} {v xv yv : Value} (ho : o.op = .call { callee := .builtin .copy, args := #[x, y], argTypes := #[t, t'] }) (hr : (Builtin.copy_ #[t, t'] o.type #[xv, yv]).run Tryd.prog w = .ok v w') (hx : ρ x = xv) (hy : ρ y = yv) : (execOp ρ o).run Tryd.prog w = .ok (.value v) w' := by
  unfold execOp; simp [ho, resolve, invoke, builtin, hx, hy, hr]
end
theorem wpList_copy_eq {w w' : World} {ops : Array Oper} {rest : List Oper} {o : Oper} {a : Act} {Q : Exit → Act → World → Prop} {v sv xv : Value} {t t' : TypeId} (hg : o.guard = none) (s x : Operand)
    (hop : o.op = Op.call { callee := Callee.builtin Builtin.copy, args := #[s, x], argTypes := #[t, t'] }) (hs : a.eval s = sv) (hx : a.eval x = xv) (hrun : (Builtin.copy_ #[t, t'] o.type #[sv, xv]).run Tryd.prog w = .ok v w')
    (hK : wpList Tryd.prog ops Q rest (a.put o.dst v) w') : wpList Tryd.prog ops Q (o :: rest) a w := by
  refine wpList_plain hg fun K hK' => ?_
  unfold Oper.wp
  simp [execOp, hop, resolve, invoke, builtin, hs, hx, hrun, Result.andThen]
  exact hK' _ _ hK
theorem wpList_append2_eq {w w' : World} {ops : Array Oper} {rest : List Oper} {o : Oper} {a : Act} {Q : Exit → Act → World → Prop} {v sv xv : Value} {t t' : TypeId} (hg : o.guard = none) (s x : Operand)
    (hop : o.op = Op.call { callee := Callee.builtin Builtin.append, args := #[s, x], argTypes := #[t, t'] }) (hs : a.eval s = sv) (hx : a.eval x = xv) (hrun : (Builtin.append_ #[t, t'] o.type #[sv, xv]).run Tryd.prog w = .ok v w')
    (hK : wpList Tryd.prog ops Q rest (a.put o.dst v) w') : wpList Tryd.prog ops Q (o :: rest) a w := by
  refine wpList_plain hg fun K hK' => ?_
  unfold Oper.wp
  simp [execOp, hop, resolve, invoke, builtin, hs, hx, hrun, Result.andThen]
  exact hK' _ _ hK
theorem wpList_clear_eq {w w' : World} {ops : Array Oper} {rest : List Oper} {o : Oper} {a : Act} {Q : Exit → Act → World → Prop} {v sv : Value} {t : TypeId} (hg : o.guard = none) (s : Operand)
    (hop : o.op = Op.call { callee := Callee.builtin Builtin.clear, args := #[s], argTypes := #[t] }) (hs : a.eval s = sv) (hrun : (Builtin.clear_ #[t] o.type #[sv]).run Tryd.prog w = .ok v w')
    (hK : wpList Tryd.prog ops Q rest (a.put o.dst v) w') : wpList Tryd.prog ops Q (o :: rest) a w := by
  refine wpList_plain hg fun K hK' => ?_
  unfold Oper.wp
  simp [execOp, hop, resolve, invoke, builtin, hs, hrun, Result.andThen]
  exact hK' _ _ hK
/-- The pairs at the head of a row. -/
theorem RowE.head {w : World} {g : Nat} {l r : List En} (h : RowE w g (l ++ r)) (hok : ∀ p ∈ l, enOk p) (hl : l.length ≤ 1000) {n C : Nat} (hn : n = l.length) (hC : n ≤ C) (hm : C ≤ maxLen) : Ents w (.slice (some ⟨g, 0, none⟩) n C) l := by
  subst hn
  refine ⟨_, C, g, 0, rfl, fun _ => rfl, fun i e he => ?_, hok, by omega, by simp, hC, hm⟩
  have := h.cell (i := i) (p := e) (by rw [List.getElem?_append_left (List.getElem?_eq_some_iff.1 he).1]; exact he)
  simpa using this
end Go.Proofs.YtcidadikmmdalaaDoor
