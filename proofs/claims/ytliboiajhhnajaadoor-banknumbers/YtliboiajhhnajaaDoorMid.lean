/- A sector's bytes as a value: read out of memory, laid into it. -/
import Derived.Test.YtliboiajhhnajaaDoorSmall
namespace Go.Proofs.YtliboiajhhnajaaDoor
open Go.RowKit Go.Extern

/-- A sector's bytes as one value. -/
def conC (c : List Nat) : Array Value := (cellsB c).toArray
def conV (c : List Nat) : Value := .agg (conC c)
theorem conC_size {c : List Nat} (h : Con c) : (conC c).size = 128 := by simp [conC, cellsB_length, h.1]
theorem cellsB_one (c : List Nat) : ∀ u ∈ cellsB c, u.oneCell' = true := fun u hu => by
  simp only [cellsB, List.mem_map] at hu; obtain ⟨b, -, rfl⟩ := hu; rfl
theorem conC_one (c : List Nat) : (conC c).all (·.oneCell') = true := all_oneCell_toArray (cellsB_one c)
theorem infoC : (Tryd.prog.info? 75).map (·.size) = some 128 := by kernel_rfl
theorem infoZ : (Tryd.prog.info? 75).map (fun i => (i.zero, i.size)) = some (some (conV zeros), 128) := by kernel_rfl
theorem infoS : (Tryd.prog.info? 77).map (·.size) = some 129 := by kernel_rfl

/-- A new variable is laid. -/
theorem run_storeC (w : World) (c d : List Nat) (hc : Con c) (hd : Con d) : (Instr.storeAt 75 (.pointer (some ⟨w.heap.size, 0, none⟩)) (conV d)).run Tryd.prog (w.alloc (.cells (conC c) 75)) = .ok () (w.alloc (.cells (conC d) 75)) :=
  run_storeAt_new w 75 (conC c) (conC d) (by rw [conC_size hd]; exact infoC) (by rw [conC_size hc, conC_size hd]) (conC_one d)
theorem run_loadC {w : World} {g : Nat} {c : List Nat} {t : TypeId} {fr : Nat × Nat} (hc : Con c) (h : w.heap[g]? = some (.cells (conC c) t fr)) : (Instr.loadAt 75 (.pointer (some ⟨g, 0, none⟩))).run Tryd.prog w = .ok (conV c) w := by
  simp only [Instr.loadAt, Instr.sureAddr, Sem.run_bind, Sem.run_pure, Result.andThen_ok]
  exact run_loadVar_row w g t 75 (conC c) fr _ h Tryd.underlying75 rfl (by rw [conC_size hc]; exact infoC)

theorem secC_take {s : Sec} (h : Con s.dur) {j : Nat} (hj : j < 128) : (secC s)[j]? = (cellsB s.dur)[j]? := by
  unfold secC; rw [List.getElem?_append_left (by rw [cellsB_length, h.1]; exact hj)]
theorem secC_bad {s : Sec} (h : Con s.dur) : (secC s)[128]? = some (.bool s.bad) := by
  unfold secC; rw [List.getElem?_append_right (by rw [cellsB_length, h.1]; decide), cellsB_length, h.1]; rfl

theorem row_cell {w : World} {base : Nat} {e : TypeId} {size : Nat} {g n cap : Nat} {xs : List Value} (h : w.ownsRow base e size (.slice (some ⟨g, 0, none⟩) n cap) n xs) {j : Nat} {u : Value} (hu : xs[j]? = some u) : w.cell? ⟨g, j, none⟩ = some u := by
  have := h.cells (g := g) rfl j u hu
  rwa [Addr.add_mid, Nat.zero_add] at this

/-- A load, a store of a sector's bytes at the operation. -/
theorem wpList_load_run {w : World} {ops : Array Oper} {rest : List Oper} {o : Oper} {a : Act} {Q : Exit → Act → World → Prop} (hgd : o.guard = none) {T : TypeId} {x : Operand} (ho : o.op = .load T x) {p c : Value}
    (hrun : (Instr.loadAt T p).run Tryd.prog w = .ok c w) (hx : a.eval x = p) (h : wpList Tryd.prog ops Q rest (a.put o.dst c) w) : wpList Tryd.prog ops Q (o :: rest) a w := by
  refine wpList_plain hgd fun K hK => ?_
  unfold Oper.wp execOp
  simp only [ho, hx, hrun, Sem.run_bind, Sem.run_pure, Result.andThen_ok]
  exact hK _ _ h
theorem wpList_store_run {w w' : World} {ops : Array Oper} {rest : List Oper} {o : Oper} {a : Act} {Q : Exit → Act → World → Prop} (hgd : o.guard = none) {T : TypeId} {x y : Operand} (ho : o.op = .store T x y) {p c : Value}
    (hrun : (Instr.storeAt T p c).run Tryd.prog w = .ok () w') (hx : a.eval x = p) (hy : a.eval y = c) (h : wpList Tryd.prog ops Q rest (a.put o.dst undef) w') : wpList Tryd.prog ops Q (o :: rest) a w := by
  refine wpList_plain hgd fun K hK => ?_
  unfold Oper.wp execOp
  simp only [ho, hx, hy, hrun, Sem.run_bind, Sem.run_pure, Result.andThen_ok]
  exact hK _ _ h

/-- What a sector holds for good is read. -/
theorem run_loadDur {w : World} {g cap : Nat} {S : List Sec} (h : w.ownsRow 0 77 129 (.slice (some ⟨g, 0, none⟩) S.length cap) S.length (secsC S)) (hg : Good S) {i : Nat} {s : Sec} (hs : S[i]? = some s) :
    (Instr.loadAt 75 (.pointer (some ⟨g, i * 129, none⟩))).run Tryd.prog w = .ok (conV s.dur) w := by
  have hS : ∀ x ∈ S, (secC x).length = 129 := fun x hx => secC_length (hg.2 x hx).1
  have hc := (hg.2 s (List.mem_of_getElem? hs)).1
  refine run_loadAt_mid w g (i * 129) 75 (cellsB s.dur) _ (fun j u hu => ?_) Tryd.underlying75 rfl (by rw [cellsB_length, hc.1]; exact infoC)
  have hj : j < 128 := by have := (List.getElem?_eq_some_iff.1 hu).1; rw [cellsB_length, hc.1] at this; exact this
  refine row_cell h ?_
  unfold secsC
  rw [flat_get secC 129 S hS i s hs j (by omega), secC_take hc hj]; exact hu
theorem cell_bad {w : World} {g cap : Nat} {S : List Sec} (h : w.ownsRow 0 77 129 (.slice (some ⟨g, 0, none⟩) S.length cap) S.length (secsC S)) (hg : Good S) {i : Nat} {s : Sec} (hs : S[i]? = some s) :
    w.cell? ⟨g, i * 129 + 128, none⟩ = some (.bool s.bad) := by
  refine row_cell h ?_
  unfold secsC
  rw [flat_get secC 129 S (fun x hx => secC_length (hg.2 x hx).1) i s hs 128 (by omega), secC_bad (hg.2 s (List.mem_of_getElem? hs)).1]
/-- A write that waits is read. -/
theorem run_loadWait {w : World} {g cap : Nat} {l : List (List Nat)} (h : w.ownsRow 0 75 128 (.slice (some ⟨g, 0, none⟩) l.length cap) l.length (consC l)) (hl : ∀ c ∈ l, Con c) {j : Nat} {c : List Nat} (hc : l[j]? = some c) :
    (Instr.loadAt 75 (.pointer (some ⟨g, j * 128, none⟩))).run Tryd.prog w = .ok (conV c) w := by
  have hcc := hl c (List.mem_of_getElem? hc)
  refine run_loadAt_mid w g (j * 128) 75 (cellsB c) _ (fun k u hu => ?_) Tryd.underlying75 rfl (by rw [cellsB_length, hcc.1]; exact infoC)
  have hk : k < 128 := by have := (List.getElem?_eq_some_iff.1 hu).1; rw [cellsB_length, hcc.1] at this; exact this
  refine row_cell h ?_
  unfold consC
  rw [flat_get cellsB 128 l (fun x hx => by rw [cellsB_length, (hl x hx).1]) j c hc k hk]; exact hu

/-- The write that a pick tells of a sector. -/
def Sec.pick (s : Sec) (n : Int) : List Nat := if n < 1 then s.dur else s.wait.getD (min n.toNat s.wait.length - 1) s.dur
theorem Sec.pick_con {s : Sec} (h : GoodSec s) (n : Int) : Con (s.pick n) := by
  unfold Sec.pick
  split
  · exact h.1
  · rw [List.getD_eq_getElem?_getD]
    cases hc : s.wait[min n.toNat s.wait.length - 1]? with
    | none => exact h.1
    | some c => exact h.2 c (List.mem_of_getElem? hc)

/-- What choose leaves: the answer in a new block. -/
theorem allocC_below (w : World) (c : List Nat) : Below w.heap.size w (w.alloc (.cells (conC c) 75)) := (Below.refl _ _).alloc (Nat.le_refl _) _
end Go.Proofs.YtliboiajhhnajaaDoor
