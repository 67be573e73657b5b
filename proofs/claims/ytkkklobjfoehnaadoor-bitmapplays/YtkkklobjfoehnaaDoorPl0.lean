/- A script in memory; a bitmap beside the document's flags. -/
import Derived.Test.YtkkklobjfoehnaaDoorHd
import Derived.Laws.OwnMore
namespace Go.Proofs.YtkkklobjfoehnaaDoor
open Go.RowKit Go.Extern

/-- One call of a script. -/
structure OpR where
  kind : Int
  n : Int
  nv : Value
  ns : List Int
/-- The value 'v' is a slice of the calls 'ops'. -/
def Script (w : World) (v : Value) (ops : List OpR) : Prop :=
  ∃ ao cap g off, v = .slice ao ops.length cap ∧ (0 < ops.length → ao = some ⟨g, off, none⟩) ∧
    (∀ (i : Nat) o, ops[i]? = some o → w.cell? ⟨g, off + i * 3, none⟩ = some (.int .i64 o.kind) ∧ w.cell? ⟨g, off + i * 3 + 1, none⟩ = some (.int .i64 o.n) ∧ w.cell? ⟨g, off + i * 3 + 2, none⟩ = some o.nv ∧ Ints w o.nv o.ns ∧ I64 o.n)
theorem madeBools (n : Nat) : (madeCells (Value.bool false).cells (n * 1)).toList = boolsC (List.replicate n false) := by
  rw [boolsC_false]
  refine List.ext_getElem? fun i => ?_
  simp only [madeCells, Nat.mul_one, Array.toList_map, Array.toList_range, List.getElem?_map, List.getElem?_replicate]
  by_cases h : i < n
  · simp [h, Value.cells, Nat.mod_one]
  · simp [h]
theorem make_bools (w : World) (n : Nat) (hn : n ≤ 4096) : ∃ w1, (Instr.makeSlice 30 (.int .i64 (n : Int)) (.int .i64 (n : Int))).run Tryd.prog w = .ok (.slice (some ⟨w.heap.size, 0, none⟩) n n) w1 ∧ OwnB w1 w.heap.size (.slice (some ⟨w.heap.size, 0, none⟩) n n) (List.replicate n false) ∧ Below w.heap.size w w1 := by
  obtain ⟨i0, hi, hz0, hz1, hz2⟩ := info3 infoBool
  obtain ⟨w1, h1, h2, h3⟩ := run_makeSlice_full (P := Tryd.prog) w w.heap.size 30 4 i0 (.bool false) 1 Tryd.underlying30 hi hz0 hz1 .i64 .i64 n (by omega) (by rw [hz2]; omega) (by unfold maxLen; omega) (Nat.le_refl _)
  rw [madeBools] at h2
  refine ⟨w1, h1, ?_, (Below.refl _ _).grown h3 (Nat.le_refl _) (by simp)⟩
  unfold OwnB
  rw [boolsC_length, List.length_replicate]
  exact h2
theorem exec_make {ρ : Operand → Value} {o : Oper} {w w' : World} {t : TypeId} {x y : Operand} {v xv yv : Value} (ho : o.op = .makeSlice t x y) (hr : (Instr.makeSlice t xv yv).run Tryd.prog w = .ok v w') (hx : ρ x = xv) (hy : ρ y = yv) : (execOp ρ o).run Tryd.prog w = .ok (.value v) w' := by
  unfold execOp; simp [ho, hx, hy, hr]
theorem wpList_make {w w' : World} {ops : Array Oper} {rest : List Oper} {o : Oper} {a : Act} {Q : Exit → Act → World → Prop} {t : TypeId} {x y : Operand} {v xv yv : Value} (hgd : o.guard = none) (ho : o.op = .makeSlice t x y)
    (hr : (Instr.makeSlice t xv yv).run Tryd.prog w = .ok v w') (hx : a.eval x = xv) (hy : a.eval y = yv) (h : wpList Tryd.prog ops Q rest (a.put o.dst v) w') : wpList Tryd.prog ops Q (o :: rest) a w :=
  wpList_exec hgd (exec_make ho hr hx hy) h
theorem clear1_any {w : World} {F : Nat → Prop} {b : Nat} {l : List Bool} (h : Bm w F b l) (hF : ∀ k, F k → k < w.heap.size) (n : Int) (hn : I64 n) :
    Calls Tryd.prog 11 #[.pointer (some ⟨b, 0, none⟩), .slice (some ⟨w.heap.size, 0, none⟩) 1 1] (w.alloc (.cells #[.int .i64 n] 3)) fun e w' => ∃ u, e = .returned u ∧ Put F b (put1 l n false) w w' := by
  have hv := ints_lit w [n] (fun x hx => by rw [List.mem_singleton.1 hx]; exact hn) (by simp)
  have hb := bel_alloc w (.cells #[.int .i64 n] 3)
  cases hi : inB l n with
  | true =>
    refine (clear_ok (h.below hb) _ [n] hv (fun k hk hq => ?_) (by simpa using hi)).mono ?_
    · simp only [Value.ownBlock, Option.some.injEq] at hk
      have := hF k hq
      omega
    · rintro e w' ⟨rfl, hp⟩
      refine ⟨_, rfl, ?_, (Turn.of_below hb).trans hp.turn (fun _ _ h => h)⟩
      have e : put1 l n false = putS l [n] false := by unfold put1 putS; rw [if_pos hi]; rfl
      rw [e]; exact hp.bm
  | false =>
    refine (clear_bad (h.below hb) _ [n] hv (by simpa using hi)).mono ?_
    rintro e w' ⟨rfl, rfl⟩
    refine ⟨_, rfl, ?_, Turn.of_below hb⟩
    have e : put1 l n false = l := by unfold put1; rw [if_neg (by simp [hi])]
    rw [e]; exact h.below hb
/-- A bitmap of the flags 'lm' beside the flags 'll', all new since 'w'. -/
structure PS (w : World) (F : Nat → Prop) (b : Nat) (lv : Value) (lm ll : List Bool) (wr : World) : Prop where
  bm : Bm wr F b lm
  own : OwnB wr w.heap.size lv ll
  fr : ∀ k, F k → w.heap.size ≤ k ∧ k < wr.heap.size
  ap : ∀ k, lv.ownBlock = some k → ¬ F k
  bel : Below w.heap.size w wr
section
variable {w : World} {F : Nat → Prop} {b : Nat} {lv : Value} {lm ll : List Bool} {wr : World}
theorem PS.below (h : PS w F b lv lm ll wr) {wy : World} (hb : Below wr.heap.size wr wy) : PS w F b lv lm ll wy :=
  ⟨h.bm.below hb, h.own.below hb, fun k hk => ⟨(h.fr k hk).1, Nat.lt_of_lt_of_le (h.fr k hk).2 hb.size⟩, h.ap, below_next h.bel hb⟩
theorem PS.put (h : PS w F b lv lm ll wr) {l' : List Bool} {wy : World} (hp : Put F b l' wr wy) : PS w F b lv l' ll wy :=
  ⟨hp.bm, h.own.turn hp.turn h.ap, fun k hk => ⟨(h.fr k hk).1, Nat.lt_of_lt_of_le (h.fr k hk).2 hp.turn.size⟩, h.ap, h.bel.trans (hp.turn.below h.bel.size (fun k hk => (h.fr k hk).1))⟩
theorem PS.flags (h : PS w F b lv lm ll wr) {x : Value} {l' : List Bool} {wy : World} (hb : Below wr.heap.size wr wy) (ho : OwnB wy wr.heap.size x l') : PS w F b x lm l' wy :=
  ⟨h.bm.below hb, ownsRow_base ho h.bel.size, fun k hk => ⟨(h.fr k hk).1, Nat.lt_of_lt_of_le (h.fr k hk).2 hb.size⟩, fun k hk hF => by have := (ho.lt k hk).1; have := (h.fr k hF).2; omega, below_next h.bel hb⟩
theorem PS.grown (h : PS w F b lv lm ll wr) {l' : List Bool} {wy : World} (hp : Grown F b l' wr wy) : PS w (ext F wr wy) b lv l' ll wy :=
  ⟨hp.bm, h.own.turn hp.turn h.ap, fun k hk => by
    have hs := hp.turn.size
    have hz := h.bel.size
    rcases hk with hk | hk
    · have := h.fr k hk; omega
    · omega, fun k hk hF => by
    rcases hF with hF | hF
    · exact h.ap k hk hF
    · have := (h.own.lt k hk).2; omega, h.bel.trans (hp.turn.below h.bel.size (fun k hk => (h.fr k hk).1))⟩
theorem PS.more (h : PS w F b lv lm ll wr) {x : Value} {l' : List Bool} {wy : World} (hg : Grew 4 wr lv w.heap.size wy x (boolsC l')) : PS w F b x lm l' wy := by
  have hs := hg.grown.size
  refine ⟨h.bm.of_blocks fun k o hk ho => ?_, hg.own, fun k hk => ⟨(h.fr k hk).1, Nat.lt_of_lt_of_le (h.fr k hk).2 hs⟩, fun k hk hF => ?_, h.bel.trans (hg.below h.bel.size (fun k hk => (h.own.lt k hk).1))⟩
  · rw [hg.grown.block k (heap_lt ho) (fun e => h.ap k e.symm hk)]; exact ho
  · rcases hg.at_ with e | e
    · exact h.ap k (by rw [← e]; exact hk) hF
    · rw [e] at hk
      have := Option.some.inj hk
      have := (h.fr k hF).2
      omega
/-- The clone is gone on with; the other one may turn. -/
theorem PS.clone (h : PS w F b lv lm ll wr) {bc : Nat} {w2 w3 w4 : World} (hf : Fresh lm wr bc w2) {l1 l2 : List Bool} (h1 : Put F b l1 w2 w3) (h2 : Put F b l2 w3 w4) : PS w (newF wr w2) bc lv lm ll w4 := by
  have s0 := h.bel.size
  have s1 := hf.bel.size
  have s2 := h1.turn.size
  have s3 := h2.turn.size
  have hFn : ∀ k, newF wr w2 k → ¬ F k := fun k hk hF => by have := (h.fr k hF).2; have := hk.1; omega
  refine ⟨(hf.bm.turn h1.turn hFn).turn h2.turn hFn, ((h.own.below hf.bel).turn h1.turn h.ap).turn h2.turn h.ap, fun k hk => ?_, fun k hk hF => ?_, ?_⟩
  · have := hk.1; have := hk.2; omega
  · have := (h.own.lt k hk).2; have := hF.1; omega
  · have hb := below_next h.bel hf.bel
    exact (hb.trans (h1.turn.below hb.size (fun k hk => (h.fr k hk).1))).trans (h2.turn.below (by omega) (fun k hk => (h.fr k hk).1))
end
/-- append(l, make([]bool, n)...). -/
theorem append_flags {w : World} {F : Nat → Prop} {b : Nat} {lv : Value} {lm ll : List Bool} {wr : World} (h : PS w F b lv lm ll wr) (n : Nat) (hn : ll.length + n ≤ 4096) :
    ∃ v' w', (Builtin.append_ #[30, 3] 30 #[lv, .int .i64 (n : Int)]).run Tryd.prog wr = .ok v' w' ∧ PS w F b v' lm (ll ++ List.replicate n false) w' := by
  obtain ⟨i0, hi, hz0, hz1, hz2⟩ := info3 infoBool
  obtain ⟨v', w', hrun, hg⟩ := append_zeros (P := Tryd.prog) (ty := 30) wr Tryd.underlying30 Tryd.underlying3 hi hz0 hz1 hz2 rfl rfl (by decide) w.heap.size lv (boolsC ll) h.own n (by rw [boolsC_length]; omega) h.bel.size
  refine ⟨v', w', hrun, h.more ?_⟩
  rw [boolsC_append, boolsC_false]; exact hg
theorem wpList_appendZB {w w' : World} {ops : Array Oper} {rest : List Oper} {o : Oper} {a : Act} {Q : Exit → Act → World → Prop} {x y : Operand} {v xv yv : Value} (hgd : o.guard = none) (ho : o.op = .call { callee := .builtin .append, args := #[x, y], argTypes := #[30, 3] })
    (hr : (Builtin.append_ #[30, 3] 30 #[xv, yv]).run Tryd.prog w = .ok v w') (hty : o.type = 30) (hx : a.eval x = xv) (hy : a.eval y = yv)
    (h : wpList Tryd.prog ops Q rest (a.put o.dst v) w') : wpList Tryd.prog ops Q (o :: rest) a w :=
  wpList_exec hgd (by unfold execOp; simp [ho, resolve, invoke, builtin, hx, hy, hty, hr]) h
end Go.Proofs.YtkkklobjfoehnaaDoor
