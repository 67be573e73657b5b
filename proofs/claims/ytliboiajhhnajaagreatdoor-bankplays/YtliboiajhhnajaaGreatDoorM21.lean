import Derived.Test.YtliboiajhhnajaaGreatDoorM14
import Derived.Test.YtliboiajhhnajaaGreatDoorM20
/- A sector that the document's own Fill makes. -/
namespace Go.Proofs.YtliboiajhhnajaaGreatDoor
open Go.RowKit Go.Extern

/-- A new sector in a block of its own, being filled; nothing else has turned since 'wo'. -/
structure ZAt (wo wz : World) (B1 gz gx capx : Nat) (c : List Nat) : Prop where
  blk : wz.heap[B1]? = some (.cells #[.slice (some ⟨gz, 0, none⟩) 1 1, .bool false] 96 (0, 0))
  row : wz.ownsRow 0 28 1 (.slice (some ⟨gz, 0, none⟩) 1 1) 1 [.slice (some ⟨gx, 0, none⟩) 128 capx]
  own : Own wz 0 (.slice (some ⟨gx, 0, none⟩) 128 capx) c
  bel : Below wo.heap.size wo wz
  nz : wo.heap.size ≤ gz
  nx : wo.heap.size ≤ gx
  nb : wo.heap.size ≤ B1
section
variable {wo wz : World} {B1 gz gx capx : Nat} {c : List Nat}
theorem ZAt.c0 (h : ZAt wo wz B1 gz gx capx c) : wz.cell? ⟨B1, 0, none⟩ = some (.slice (some ⟨gz, 0, none⟩) 1 1) := two_cell0 h.blk
theorem ZAt.cz (h : ZAt wo wz B1 gz gx capx c) : wz.cell? ⟨gz, 0, none⟩ = some (.slice (some ⟨gx, 0, none⟩) 128 capx) := row_cell h.row (j := 0) rfl
theorem ZAt.len (h : ZAt wo wz B1 gz gx capx c) : c.length = 128 := by
  obtain ⟨ao, cap, e⟩ := h.own.form
  injection e with _ e2
  exact e2.symm
theorem ZAt.cx (h : ZAt wo wz B1 gz gx capx c) {k : Nat} (hk : k < 128) : (∃ y : Nat, wz.cell? ⟨gx, k, none⟩ = some (.int .u8 (y : Int))) ∧ wz.frozen? ⟨gx, k, none⟩ = false := by
  have hl := h.len
  obtain ⟨cur, hh⟩ := row_block h.own.1 (g := gx) rfl
  have hb : c[k]? = some (c[k]'(by omega)) := by simp
  have hrow : wz.ownsRow 0 5 1 (.slice (some ⟨gx, 0, none⟩) c.length capx) c.length (cellsB c) := by have := h.own.1; rw [hl] at this ⊢; exact this
  exact ⟨⟨_, row_cell hrow (cellsB_get hb)⟩, row_frozen hh k⟩
theorem ZAt.xb (h : ZAt wo wz B1 gz gx capx c) : gx ≠ B1 := fun e => by
  obtain ⟨cur, hh⟩ := row_block h.own.1 (g := gx) rfl
  rw [e, h.blk] at hh
  simp at hh
theorem ZAt.xz (h : ZAt wo wz B1 gz gx capx c) : gx ≠ gz := fun e => by
  obtain ⟨cur, hh⟩ := row_block h.own.1 (g := gx) rfl
  obtain ⟨cur2, hh2⟩ := row_block h.row (g := gz) rfl
  rw [e, hh2] at hh
  simp at hh
theorem ZAt.set (h : ZAt wo wz B1 gz gx capx c) (k : Nat) {x : Nat} (hx : x < 256) : ZAt wo (wz.setCell ⟨gx, k, none⟩ (.int .u8 (x : Int))) B1 gz gx capx (c.set k x) := by
  refine ⟨?_, ownsRow_of_block h.row (fun g o hg ho => ?_), h.own.set hx, ⟨h.bel.os, h.bel.tape, h.bel.output, by have := h.bel.size; simpa [World.setCell] using this, fun j hj => ?_⟩, h.nz, h.nx, h.nb⟩
  · rw [Below.heap_setCell _ _ _ _ h.xb.symm]; exact h.blk
  · simp only [Value.ownBlock, Option.some.injEq] at hg
    rw [Below.heap_setCell _ _ _ _ (by rw [← hg]; exact h.xz.symm)]; exact ho
  · rw [Below.heap_setCell _ _ _ _ (by show j ≠ gx; have := h.nx; omega)]; exact h.bel.block j hj
theorem ZAt.start {w1 : World} (hb : Below wo.heap.size wo w1) (hu : HadG (fun k => wo.heap.size ≤ k ∧ k < w1.heap.size) w1 (.slice (some ⟨gz, 0, none⟩) 1 1) [zeros]) :
    ∃ gx capx, ZAt wo (w1.alloc (.cells #[.slice (some ⟨gz, 0, none⟩) 1 1, .bool false] 96)) w1.heap.size gz gx capx zeros := by
  obtain ⟨us, h1, h2, h3, h4⟩ := hu
  obtain ⟨x, rfl⟩ : ∃ x, us = [x] := List.length_eq_one_iff.1 h2
  obtain ⟨hx, hxg⟩ := h4 0 x zeros rfl rfl
  obtain ⟨gx, capx, cur, e, -⟩ := ownsRow_pos hx.1 (by rw [zeros_con.1]; decide)
  rw [zeros_con.1] at e
  subst e
  have hgz := h3 gz rfl
  have hgx := hxg gx rfl
  have hal : Below w1.heap.size w1 (w1.alloc (.cells #[.slice (some ⟨gz, 0, none⟩) 1 1, .bool false] 96)) := (Below.refl _ _).alloc (Nat.le_refl _) _
  have hs := hb.size
  refine ⟨gx, capx, heap_alloc_new w1 _, ownsRow_of_block h1 (fun k o hv ho => ?_), hx.below hal, hb.trans (hal.mono hs), hgz.1, hgx.1, hs⟩
  rw [hal.block k (heap_lt ho)]; exact ho
theorem ZAt.had (h : ZAt wo wz B1 gz gx capx c) (G : Nat → Prop) : HadG (ext G wo wz) wz (.slice (some ⟨gz, 0, none⟩) 1 1) [c] := by
  refine ⟨[.slice (some ⟨gx, 0, none⟩) 128 capx], h.row, rfl, fun k hk => ?_, fun i u bs hu hs => ?_⟩
  · have := (h.row.lt k hk).2
    simp only [Value.ownBlock, Option.some.injEq] at hk
    exact .inr ⟨by have := h.nz; omega, this⟩
  · match i, hu, hs with
    | 0, hu, hs =>
      obtain rfl : Value.slice (some ⟨gx, 0, none⟩) 128 capx = u := by simpa using hu
      obtain rfl : c = bs := by simpa using hs
      refine ⟨h.own, fun k hk => ?_⟩
      have := (h.own.lt k hk).2
      simp only [Value.ownBlock, Option.some.injEq] at hk
      exact .inr ⟨by have := h.nx; omega, this⟩
/-- The sector takes its place. -/
theorem ZAt.fill {G : Nat → Prop} {b g n cap i : Nat} {T : List (Value × Sec)} {p : Value × Sec} (h : ZAt wo wz B1 gz gx capx c) (hr : RkAt wo G b (.slice (some ⟨g, 0, none⟩) n cap) T) (hi : T[i]? = some p) :
    RkAt ((wz.setCell ⟨g, i * 2, none⟩ (.slice (some ⟨gz, 0, none⟩) 1 1)).setCell ⟨g, i * 2 + 1, none⟩ (.bool false)) (ext G wo ((wz.setCell ⟨g, i * 2, none⟩ (.slice (some ⟨gz, 0, none⟩) 1 1)).setCell ⟨g, i * 2 + 1, none⟩ (.bool false))) b (.slice (some ⟨g, 0, none⟩) n cap) (T.set i (.slice (some ⟨gz, 0, none⟩) 1 1, ⟨c, false, []⟩)) ∧ Turn G wo ((wz.setCell ⟨g, i * 2, none⟩ (.slice (some ⟨gz, 0, none⟩) 1 1)).setCell ⟨g, i * 2 + 1, none⟩ (.bool false)) := by
  have hn : n = T.length := by obtain ⟨a, c, e⟩ := hr.form; injection e
  subst hn
  refine hr.put (p' := (.slice (some ⟨gz, 0, none⟩) 1 1, ⟨c, false, []⟩)) h.bel (h.had G) (fun k hk => ?_) (by simp [World.setCell]) ?_ ⟨rfl, rfl, rfl⟩
  · rw [Below.heap_setCell _ _ _ _ (fun e => hk (by rw [e]; rfl)), Below.heap_setCell _ _ _ _ (fun e => hk (by rw [e]; rfl))]
  · rw [List.length_set, rcells_set hi]
    exact ownsRow_setCell (ownsRow_setCell (hr.below h.bel).row (i * 2) _) (i * 2 + 1) _
end
theorem load_rsec {w : World} {g : Nat} {u : Value} {x : Bool} (h : w.heap[g]? = some (.cells #[u, .bool x] 96 (0, 0))) : (Instr.loadAt 96 (.pointer (some ⟨g, 0, none⟩))).run Tryz.prog w = .ok (.agg #[u, .bool x]) w := by
  simp only [Instr.loadAt, Instr.sureAddr, Sem.run_bind, Sem.run_pure, Result.andThen_ok]
  exact run_loadVar_row w g 96 96 #[u, .bool x] (0, 0) _ h Tryz.underlying96 rfl infoRS
theorem store_rsec {w : World} {g o : Nat} {v0 v1 : Value} (ao : Option Addr) (n c : Nat) (h0 : w.cell? ⟨g, o, none⟩ = some v0) (h1 : w.cell? ⟨g, o + 1, none⟩ = some v1) (f0 : w.frozen? ⟨g, o, none⟩ = false) (f1 : w.frozen? ⟨g, o + 1, none⟩ = false) :
    (Instr.storeAt 96 (.pointer (some ⟨g, o, none⟩)) (.agg #[.slice ao n c, .bool false])).run Tryz.prog w = .ok () ((w.setCell ⟨g, o, none⟩ (.slice ao n c)).setCell ⟨g, o + 1, none⟩ (.bool false)) := by go_simp
theorem store_u8 {w : World} {p : Addr} {v : Value} (x : Int) (h : w.cell? p = some v) (hf : w.frozen? p = false) : (Instr.storeAt 5 (.pointer (some p)) (.int .u8 x)).run Tryz.prog w = .ok () (w.setCell p (.int .u8 x)) := by go_simp
theorem load_u8 {w : World} {p : Addr} {v : Value} (h : w.cell? p = some v) : (Instr.loadAt 5 (.pointer (some p))).run Tryz.prog w = .ok v w := by go_simp
theorem index_bytes {w : World} {g off n cap i : Nat} (h : i < n) : (Instr.indexAt 28 (.slice (some ⟨g, off, none⟩) n cap) (.int .i64 (i : Int))).run Tryz.prog w = .ok (.pointer (some ⟨g, off + i, none⟩)) w := by
  have hlt : (i : Int) < (n : Int) := by omega
  have hge : (0 : Int) ≤ (i : Int) := by omega
  go_simp
theorem len_bytes (w : World) (a : Option Addr) (n c : Nat) : (Builtin.len_ #[28] 3 #[.slice a n c]).run Tryz.prog w = .ok (.int .i64 (n : Int)) w := by kernel_rfl
theorem exec_addN {ρ : Operand → Value} {o : Oper} {w : World} {x y : Operand} {m n : Nat} (ho : o.op = .binOp .add 3 x y 3) (hx : ρ x = .int .i64 (m : Int)) (hy : ρ y = .int .i64 (n : Int)) (hn : m + n ≤ 1000000) : (execOp ρ o).run Tryz.prog w = .ok (.value (.int .i64 ((m + n : Nat) : Int))) w := by
  unfold execOp; simp only [ho, hx, hy]
  go_simp
  rw [IntKind.wrap_i64]; omega
theorem exec_remN {ρ : Operand → Value} {o : Oper} {w : World} {x y : Operand} {m n : Nat} (ho : o.op = .binOp .rem 3 x y 3) (hx : ρ x = .int .i64 (m : Int)) (hy : ρ y = .int .i64 (n : Int)) (hn : 0 < n) (hm : m ≤ 1000000) : (execOp ρ o).run Tryz.prog w = .ok (.value (.int .i64 ((m % n : Nat) : Int))) w := by
  unfold execOp; simp only [ho, hx, hy]
  have hn0 : ¬ (n : Int) = 0 := by omega
  have hmod : Int.tmod (m : Int) (n : Int) = ((m % n : Nat) : Int) := by norm_cast
  have hlt : m % n ≤ 1000000 := Nat.le_trans (Nat.mod_le _ _) hm
  go_simp
  omega
end Go.Proofs.YtliboiajhhnajaaGreatDoor
