import Derived.Test.YtliboiajhhnajaaGreatDoorM15
/- Four lists of what was read and written, beside a disk. -/
namespace Go.Proofs.YtliboiajhhnajaaGreatDoor
open Go.RowKit Go.Extern

theorem Bytes.of_block {w w' : World} {v : Value} {bs : List Nat} (h : Bytes w v bs) (hk : ∀ k, v.ownBlock = some k → k < w.heap.size → w'.heap[k]? = w.heap[k]?) : Bytes w' v bs := by
  obtain ⟨ao, cap, g, off, rfl, h2, h3, h4⟩ := h
  refine ⟨ao, cap, g, off, rfl, h2, fun i q hq => ?_, h4⟩
  have hp : 0 < bs.length := by
    rcases Nat.eq_zero_or_pos bs.length with e | e
    · rw [List.length_eq_zero_iff.1 e] at hq; cases hq
    · exact e
  obtain rfl := h2 hp
  have hc := h3 i q hq
  rw [World.cell?_of_block (w := w) (hk g rfl (cell_lt hc))]; exact hc

/-- A list of bytes that were read or written; where each lies is told by 'P'. -/
def LRow (B : Nat) (w : World) (P : Nat → Prop) (v : Value) (bl : List (List Nat)) : Prop :=
  ∃ us, w.ownsRow B 28 1 v us.length us ∧ us.length = bl.length ∧ ∀ (i : Nat) u bs, us[i]? = some u → bl[i]? = some bs → Bytes w u bs ∧ ∀ k, u.ownBlock = some k → P k
theorem LRow.keep {B : Nat} {w w' : World} {P P' : Nat → Prop} {v : Value} {bl : List (List Nat)} (h : LRow B w P v bl) (hv : ∀ k, v.ownBlock = some k → k < w.heap.size → w'.heap[k]? = w.heap[k]?) (hP : ∀ k, P k → P' k)
    (hk : ∀ k, P k → k < w.heap.size → w'.heap[k]? = w.heap[k]?) : LRow B w' P' v bl := by
  obtain ⟨us, h1, h2, h3⟩ := h
  refine ⟨us, ownsRow_of_block h1 (fun k o hk ho => by rw [hv k hk (heap_lt ho)]; exact ho), h2, fun i u bs hu hs => ?_⟩
  obtain ⟨q1, q2⟩ := h3 i u bs hu hs
  exact ⟨q1.of_block (fun k hk' hl => hk k (q2 k hk') hl), fun k hk' => hP k (q2 k hk')⟩
theorem LRow.nil (B : Nat) (w : World) (P : Nat → Prop) : LRow B w P (.slice none 0 0) [] := ⟨[], World.ownsRow_nil _ _ _ _, rfl, by simp⟩
theorem LRow.lt {B : Nat} {w : World} {P : Nat → Prop} {v : Value} {bl : List (List Nat)} (h : LRow B w P v bl) : ∀ k, v.ownBlock = some k → B ≤ k ∧ k < w.heap.size := by
  obtain ⟨us, h1, -⟩ := h
  exact h1.lt
theorem LRow.form {B : Nat} {w : World} {P : Nat → Prop} {v : Value} {bl : List (List Nat)} (h : LRow B w P v bl) : ∃ ao cap, v = .slice ao bl.length cap := by
  obtain ⟨us, h1, h2, -⟩ := h
  rw [← h2]; exact ownsRow_form h1
theorem LRow.at_ {B : Nat} {w : World} {P : Nat → Prop} {ao : Option Addr} {n cap : Nat} {bl : List (List Nat)} (h : LRow B w P (.slice ao n cap) bl) {i : Nat} {bs : List Nat} (hs : bl[i]? = some bs) : ∃ g u, ao = some ⟨g, 0, none⟩ ∧ w.cell? ⟨g, i, none⟩ = some u ∧ Bytes w u bs := by
  obtain ⟨vs, h1, h2, h3⟩ := h
  have hi : i < vs.length := by rw [h2]; exact (List.getElem?_eq_some_iff.1 hs).1
  have hu : vs[i]? = some vs[i] := by simp [hi]
  obtain ⟨g, cap', cur, e, -⟩ := ownsRow_pos h1 (by omega)
  have hn : n = vs.length := by injection e
  have e1 : ao = some ⟨g, 0, none⟩ := by injection e
  subst hn e1
  exact ⟨g, vs[i], rfl, row_cell h1 hu, (h3 i _ bs hu hs).1⟩
/-- A list of one. -/
theorem LRow.one {B : Nat} {w : World} {P : Nat → Prop} {u : Value} {bs : List Nat} (hB : B ≤ w.heap.size) (hu : Bytes w u bs) (hP : ∀ k, u.ownBlock = some k → P k) : LRow B (w.alloc (.cells #[u] 28)) P (.slice (some ⟨w.heap.size, 0, none⟩) 1 1) [bs] := by
  have hb1 : Below w.heap.size w (w.alloc (.cells #[u] 28)) := (Below.refl _ _).alloc (Nat.le_refl _) _
  refine ⟨[u], by have := World.ownsRow_lit (base := B) (e := 28) (size := 1) w #[u] 1 hB (by unfold maxLen; omega) (by simp); simpa using this, rfl, fun i x xb hx hb => ?_⟩
  match i, hx, hb with
  | 0, hx, hb =>
    obtain rfl : u = x := by simpa using hx
    obtain rfl : bs = xb := by simpa using hb
    exact ⟨hu.below hb1, hP⟩
/-- One more is appended. -/
theorem LRow.append {B : Nat} {w : World} {P : Nat → Prop} {v : Value} {bl : List (List Nat)} (h : LRow B w P v bl) (ao : Option Addr) (n c : Nat) {bs : List Nat} (hu : Bytes w (.slice ao n c) bs) (hup : ∀ k, (Value.slice ao n c).ownBlock = some k → P k) (hB : B ≤ w.heap.size) (hl : bl.length < 1000000) (hP : ∀ k, P k → v.ownBlock ≠ some k) :
    ∃ v' w', (Builtin.append_ #[94, 94] 94 #[v, .slice (some ⟨w.heap.size, 0, none⟩) 1 1]).run Tryz.prog (w.alloc (.cells #[.slice ao n c] 28)) = .ok v' w' ∧ LRow B w' P v' (bl ++ [bs]) ∧ w.grownBy w' v.ownBlock ∧ (v'.ownBlock = v.ownBlock ∨ ∀ k, v'.ownBlock = some k → w.heap.size ≤ k) := by
  obtain ⟨i0, hi, hz0, hz1, hz2⟩ := info_parts infoBy
  have hb1 : Below w.heap.size w (w.alloc (.cells #[.slice ao n c] 28)) := (Below.refl _ _).alloc (Nat.le_refl _) _
  have hu1 := hu.below hb1
  obtain ⟨vs, h1, h2, h3⟩ := h.keep (P' := P) (w' := w.alloc (.cells #[.slice ao n c] 28)) (fun k _ hk => hb1.block k hk) (fun _ hk => hk) (fun k _ hk => hb1.block k hk)
  obtain ⟨v', w', hr, ho, hg, -, hat⟩ := run_append_own_at (P := Tryz.prog) (w.alloc (.cells #[.slice ao n c] 28)) B 94 94 28 i0 (.slice none 0 0) 1 24 Tryz.underlying94 hi hz0 hz1 hz2 rfl (by decide) v vs.length vs h1 ⟨w.heap.size, 0, none⟩ 1 1 [.slice ao n c] (by simp)
    (fun j u hj => by
      match j, hj with
      | 0, hj =>
        obtain rfl : Value.slice ao n c = u := by simpa using hj
        rw [Addr.add_mid, cell_of_row _ _ _ _ _ _ (heap_alloc_new w _)]; rfl) (by simp [Value.oneCell']) (by unfold maxLen; omega) (by omega) (by simp; omega)
  have hkeep : ∀ {x : Value} {xb : List Nat}, Bytes (w.alloc (.cells #[.slice ao n c] 28)) x xb → (∀ k, x.ownBlock = some k → P k) → Bytes w' x xb := fun {x xb} hx hp =>
    hx.of_block (fun k hk hl => hg.block k hl (fun e => hP k (hp k hk) e.symm))
  refine ⟨v', w', hr, ⟨vs ++ [.slice ao n c], by rw [List.length_append]; exact ho, by simp [h2], fun i u bs' hu' hs' => ?_⟩, (World.grownBy_alloc w _ _).trans hg, ?_⟩
  · by_cases hi2 : i < vs.length
    · rw [List.getElem?_append_left hi2] at hu'
      rw [List.getElem?_append_left (by omega)] at hs'
      obtain ⟨q1, q2⟩ := h3 i u bs' hu' hs'
      exact ⟨hkeep q1 q2, q2⟩
    · rw [List.getElem?_append_right (by omega)] at hu'
      rw [List.getElem?_append_right (by omega)] at hs'
      have e0 : i - vs.length = 0 := by
        have := (List.getElem?_eq_some_iff.1 hu').1
        simpa using this
      rw [e0] at hu'
      rw [← h2, e0] at hs'
      simp only [List.getElem?_cons_zero, Option.some.injEq] at hu' hs'
      subst hu' hs'
      exact ⟨hkeep hu1 hup, hup⟩
  · rcases hat with e | e
    · exact .inl e
    · refine .inr (fun k hk => ?_)
      rw [hk] at e
      simp only [Option.some.injEq] at e
      rw [e]; simp

/-- A block that nobody turns. -/
def FreeK (w : World) (F : Nat → Prop) (A : Nat) (vs : List Value) (k : Nat) : Prop := k < w.heap.size ∧ ¬ F k ∧ k ≠ A ∧ ∀ (i : Nat) v, vs[i]? = some v → v.ownBlock ≠ some k
section
variable {w wr w' : World} {b A : Nat} {F F' : Nat → Prop} {S S' : List Sec} {vs : List Value} {ls : Nat → List (List Nat)}
end

/-- What a sector's list holds. -/
def hadOf (S : List Sec) (i : Nat) : List (List Nat) := match S[i]? with | some s => s.dur :: s.wait | none => []
theorem pick_mem (s : Sec) (n : Int) : s.pick n ∈ s.dur :: s.wait := by
  unfold Sec.pick
  split
  · exact List.mem_cons_self
  · rcases Nat.eq_zero_or_pos s.wait.length with h | h
    · rw [List.length_eq_zero_iff.1 h]; simp
    · rw [List.getD_eq_getElem?_getD, List.getElem?_eq_getElem (by omega)]
      exact List.mem_cons_of_mem _ (List.getElem_mem _)
theorem crS_at {S : List Sec} {ps : List Int} {i : Nat} {s : Sec} (hs : S[i]? = some s) : ∃ s', (crS S ps)[i]? = some s' ∧ s'.wait = [] ∧ s'.bad = s.bad ∧ s'.top ∈ s.dur :: s.wait := by
  unfold crS
  rw [List.getElem?_map, partS_get, hs]
  refine ⟨_, rfl, rfl, ?_, ?_⟩
  · unfold crF Sec.let; split <;> rfl
  · rw [Sec.top_nil rfl]
    show (crF (pend S) ps i s).dur ∈ _
    unfold crF
    split
    · exact pick_mem s _
    · exact List.mem_cons_self
theorem crS_length (S : List Sec) (ps : List Int) : (crS S ps).length = S.length := by unfold crS; rw [List.length_map, partS_length]
theorem crS_none (S : List Sec) (ps : List Int) : pendI (crS S ps) = [] := by
  unfold pendI
  rw [show pend (crS S ps) = [] from ?_]; · rfl
  apply List.eq_nil_iff_forall_not_mem.2
  intro i hi
  obtain ⟨s, hs, hw⟩ := mem_pend.1 hi
  unfold crS at hs
  rw [List.getElem?_map] at hs
  obtain ⟨s0, -, rfl⟩ := Option.map_eq_some_iff.1 hs
  exact hw rfl
theorem hadOf_wSet {S : List Sec} {k : Nat} {d : List Nat} (hk : k < S.length) (hd : d.length = 128) (i : Nat) : hadOf (wSet S (k : Int) d) i = if i = k then hadOf S k ++ [d] else hadOf S i := by
  unfold hadOf
  by_cases hik : i = k
  · subst hik
    obtain ⟨s, hs⟩ := get_of_lt hk
    rw [wSet_eq hs hd, hs]; simp
  · rw [if_neg hik, wSet_ne (by omega)]
theorem infoBys : (Tryz.prog.info? 28).map (fun i => (i.zero, i.size, i.bytes)) = some (some (.slice none 0 0), 1, 24) := infoBy
theorem run_oneB (w : World) (ao : Option Addr) (n c : Nat) : (Instr.buildSlice 94 1 #[(0, .slice ao n c)]).run Tryz.prog w = .ok (.slice (some ⟨w.heap.size, 0, none⟩) 1 1) (w.alloc (.cells #[.slice ao n c] 28)) := by kernel_rfl
end Go.Proofs.YtliboiajhhnajaaGreatDoor

/- The four lists: made, begun, gone on with. -/
namespace Go.Proofs.YtliboiajhhnajaaGreatDoor
open Go.RowKit Go.Extern

section
variable {ρ : Operand → Value} {o : Oper} {w w' : World}
theorem exec_neqNil {x : Operand} {T : TypeId} (ho : o.op = .binOp .neq 46 x (.const .nilIface) T) (hc : ρ (.const .nilIface) = .nilIface) (hx : ρ x = .nilIface) : (execOp ρ o).run Tryz.prog w = .ok (.value (.bool false)) w := by
  unfold execOp; simp only [ho, hx, hc]; go_simp
theorem load_bytess {p : Addr} {v : Value} (h : w.cell? p = some v) : (Instr.loadAt 94 (.pointer (some p))).run Tryz.prog w = .ok v w := by go_simp
theorem store_bytess {p : Addr} {v : Value} (x : Option Addr) (n c : Nat) (h : w.cell? p = some v) (hf : w.frozen? p = false) : (Instr.storeAt 94 (.pointer (some p)) (.slice x n c)).run Tryz.prog w = .ok () (w.setCell p (.slice x n c)) := by go_simp
end
section
variable {w wr w' : World} {b A : Nat} {F F' : Nat → Prop} {S S' : List Sec} {vs : List Value} {ls : Nat → List (List Nat)}
end
end Go.Proofs.YtliboiajhhnajaaGreatDoor

/- The document's own disk in memory. -/
namespace Go.Proofs.YtliboiajhhnajaaGreatDoor
open Go.RowKit Go.Extern

/-- A list of bytes, all of it in blocks of 'G'. -/
def HadG (G : Nat → Prop) (w : World) (v : Value) (bl : List (List Nat)) : Prop :=
  ∃ us, w.ownsRow 0 28 1 v us.length us ∧ us.length = bl.length ∧ (∀ k, v.ownBlock = some k → G k) ∧ ∀ (i : Nat) u bs, us[i]? = some u → bl[i]? = some bs → Own w 0 u bs ∧ ∀ k, u.ownBlock = some k → G k
/-- A block of bytes, or of slices of bytes. -/
def ByteBlk (w : World) (k : Nat) : Prop := ∃ cur T, w.heap[k]? = some (.cells cur T (0, 0)) ∧ (T = 28 ∨ T = 5)
theorem ByteBlk.lt {w : World} {k : Nat} (h : ByteBlk w k) : k < w.heap.size := by obtain ⟨_, _, h, -⟩ := h; exact heap_lt h
theorem ByteBlk.ne {w : World} {k : Nat} (h : ByteBlk w k) {j : Nat} {cur : Array Value} {T : TypeId} (hj : w.heap[j]? = some (.cells cur T (0, 0))) (h1 : T ≠ 28) (h2 : T ≠ 5) : k ≠ j := fun e => by
  obtain ⟨c, U, hc, hu⟩ := h
  rw [e, hj] at hc
  simp only [Option.some.injEq, Obj.cells.injEq] at hc
  rcases hu with hu | hu
  · exact h1 (hc.2.1.trans hu)
  · exact h2 (hc.2.1.trans hu)
theorem HadG.keep {G G' : Nat → Prop} {w w' : World} {v : Value} {bl : List (List Nat)} (h : HadG G w v bl) (hk : ∀ k, G k → ByteBlk w k → w'.heap[k]? = w.heap[k]?) (hG : ∀ k, G k → k < w.heap.size → G' k) : HadG G' w' v bl := by
  obtain ⟨us, h1, h2, h3, h4⟩ := h
  refine ⟨us, ownsRow_of_block h1 (fun k o hv ho => ?_), h2, fun k hv => hG k (h3 k hv) (h1.lt k hv).2, fun i u bs hu hs => ?_⟩
  · obtain ⟨cur, hc⟩ := row_block h1 hv
    rw [hk k (h3 k hv) ⟨cur, _, hc, .inl rfl⟩]; exact ho
  · obtain ⟨⟨q1, q2⟩, q3⟩ := h4 i u bs hu hs
    refine ⟨⟨ownsRow_of_block q1 (fun k o hv ho => ?_), q2⟩, fun k hv => hG k (q3 k hv) (q1.lt k hv).2⟩
    obtain ⟨cur, hc⟩ := row_block q1 hv
    rw [hk k (q3 k hv) ⟨cur, _, hc, .inr rfl⟩]; exact ho
theorem HadG.form {G : Nat → Prop} {w : World} {v : Value} {bl : List (List Nat)} (h : HadG G w v bl) : ∃ ao cap, v = .slice ao bl.length cap := by
  obtain ⟨us, h1, h2, -⟩ := h
  rw [← h2]; exact ownsRow_form h1
theorem HadG.at_ {G : Nat → Prop} {w : World} {ao : Option Addr} {n cap : Nat} {bl : List (List Nat)} (h : HadG G w (.slice ao n cap) bl) {i : Nat} {bs : List Nat} (hs : bl[i]? = some bs) : ∃ g u, ao = some ⟨g, 0, none⟩ ∧ w.cell? ⟨g, i, none⟩ = some u ∧ Own w 0 u bs ∧ ∀ k, u.ownBlock = some k → G k := by
  obtain ⟨vs, h1, h2, h3, h4⟩ := h
  have hi : i < vs.length := by rw [h2]; exact (List.getElem?_eq_some_iff.1 hs).1
  have hu : vs[i]? = some vs[i] := by simp [hi]
  obtain ⟨g, cap', cur, e, -⟩ := ownsRow_pos h1 (by omega)
  have hn : n = vs.length := by injection e
  have e1 : ao = some ⟨g, 0, none⟩ := by injection e
  subst hn e1
  exact ⟨g, vs[i], rfl, row_cell h1 hu, h4 i _ bs hu hs⟩
/-- A list of one that is new. -/
theorem HadG.one {G : Nat → Prop} {w : World} {u : Value} {bs : List Nat} (hu : Own w 0 u bs) (hP : ∀ k, u.ownBlock = some k → G k) (hn : G w.heap.size) : HadG G (w.alloc (.cells #[u] 28)) (.slice (some ⟨w.heap.size, 0, none⟩) 1 1) [bs] := by
  have hb1 : Below w.heap.size w (w.alloc (.cells #[u] 28)) := (Below.refl _ _).alloc (Nat.le_refl _) _
  refine ⟨[u], by have := World.ownsRow_lit (base := 0) (e := 28) (size := 1) w #[u] 1 (Nat.zero_le _) (by unfold maxLen; omega) (by simp); simpa using this, rfl, fun k hk => ?_, fun i x xb hx hb => ?_⟩
  · simp only [Value.ownBlock, Option.some.injEq] at hk; rw [← hk]; exact hn
  · match i, hx, hb with
    | 0, hx, hb =>
      obtain rfl : u = x := by simpa using hx
      obtain rfl : bs = xb := by simpa using hb
      exact ⟨hu.below hb1, hP⟩

theorem set_same {α : Type} {l : List α} {j : Nat} {x : α} (h : l[j]? = some x) : l.set j x = l := by
  apply List.ext_getElem?
  intro i
  rw [List.getElem?_set]
  split
  · next e =>
    subst e
    rw [if_pos (List.getElem?_eq_some_iff.1 h).1, h]
  · rfl

def rsecC (p : Value × Sec) : List Value := [p.1, .bool p.2.bad]
def rcells (T : List (Value × Sec)) : List Value := T.flatMap rsecC
theorem rcells_length (T : List (Value × Sec)) : (rcells T).length = T.length * 2 := flat_length rsecC 2 T (fun _ _ => rfl)
theorem rcells_get0 {T : List (Value × Sec)} {i : Nat} {p : Value × Sec} (h : T[i]? = some p) : (rcells T)[i * 2]? = some p.1 := flat_get rsecC 2 T (fun _ _ => rfl) i p h 0 (by omega)
theorem rcells_get1 {T : List (Value × Sec)} {i : Nat} {p : Value × Sec} (h : T[i]? = some p) : (rcells T)[i * 2 + 1]? = some (.bool p.2.bad) := flat_get rsecC 2 T (fun _ _ => rfl) i p h 1 (by omega)
theorem rcells_snoc (T : List (Value × Sec)) (p : Value × Sec) : rcells (T ++ [p]) = rcells T ++ rsecC p := by simp [rcells]
theorem rcells_set {T : List (Value × Sec)} : ∀ {i : Nat} {p p' : Value × Sec}, T[i]? = some p → rcells (T.set i p') = ((rcells T).set (i * 2) p'.1).set (i * 2 + 1) (.bool p'.2.bad) := by
  induction T with
  | nil => intro i p p' h; simp at h
  | cons a l ih =>
    intro i p p' h
    cases i with
    | zero => simp [rcells, rsecC]
    | succ n =>
      have h' : l[n]? = some p := by simpa using h
      have := ih (p' := p') h'
      simp [rcells, rsecC] at this ⊢
      rw [this]
      rw [show (n + 1) * 2 = n * 2 + 1 + 1 by omega]
      simp

/-- The document's own disk: block 'b', its blocks 'G', its sectors. -/
structure RkAt (w : World) (G : Nat → Prop) (b : Nat) (v : Value) (T : List (Value × Sec)) : Prop where
  blk : w.heap[b]? = some (.cells #[v] 40 (0, 0))
  row : w.ownsRow 0 96 2 v T.length (rcells T)
  val : ∀ (i : Nat) p, T[i]? = some p → HadG G w p.1 (p.2.dur :: p.2.wait)
  inB : G b
  inV : ∀ k, v.ownBlock = some k → G k
def Rk (w : World) (G : Nat → Prop) (b : Nat) (S : List Sec) : Prop := ∃ v T, RkAt w G b v T ∧ T.map (·.2) = S

section
variable {w w' : World} {G F : Nat → Prop} {b : Nat} {v : Value} {T : List (Value × Sec)} {S : List Sec}
theorem RkAt.keep (h : RkAt w G b v T) (hk : ∀ k, G k → k < w.heap.size → w'.heap[k]? = w.heap[k]?) : RkAt w' G b v T :=
  ⟨by rw [hk b h.inB (heap_lt h.blk)]; exact h.blk, ownsRow_of_block h.row (fun k o hv ho => by rw [hk k (h.inV k hv) (heap_lt ho)]; exact ho), fun i p hp => (h.val i p hp).keep (fun k hg hb => hk k hg hb.lt) (fun _ hg _ => hg), h.inB, h.inV⟩
theorem Rk.keep (h : Rk w G b S) (hk : ∀ k, G k → k < w.heap.size → w'.heap[k]? = w.heap[k]?) : Rk w' G b S := by
  obtain ⟨v, T, h1, h2⟩ := h; exact ⟨v, T, h1.keep hk, h2⟩
theorem Rk.below (h : Rk w G b S) (hb : Below w.heap.size w w') : Rk w' G b S := h.keep (fun k _ hk => hb.block k hk)
theorem RkAt.below (h : RkAt w G b v T) (hb : Below w.heap.size w w') : RkAt w' G b v T := h.keep (fun k _ hk => hb.block k hk)
theorem Rk.turn (h : Rk w G b S) (ht : Turn F w w') (hd : ∀ k, G k → ¬ F k) : Rk w' G b S := h.keep (fun k hg hk => ht.block k hk (hd k hg))
theorem RkAt.mono {G' : Nat → Prop} (h : RkAt w G b v T) (hG : ∀ k, G k → G' k) : RkAt w G' b v T :=
  ⟨h.blk, h.row, fun i p hp => (h.val i p hp).keep (fun _ _ _ => rfl) (fun k hg _ => hG k hg), hG b h.inB, fun k hk => hG k (h.inV k hk)⟩
theorem Rk.mono {G' : Nat → Prop} (h : Rk w G b S) (hG : ∀ k, G k → G' k) : Rk w G' b S := by obtain ⟨v, T, h1, h2⟩ := h; exact ⟨v, T, h1.mono hG, h2⟩
theorem RkAt.cell (h : RkAt w G b v T) : w.cell? ⟨b, 0, none⟩ = some v := by rw [cell_of_row w b _ _ _ _ h.blk]; rfl
theorem RkAt.form (h : RkAt w G b v T) : ∃ ao cap, v = .slice ao T.length cap := ownsRow_form h.row
theorem RkAt.at_ {ao : Option Addr} {n cap : Nat} (h : RkAt w G b (.slice ao n cap) T) {i : Nat} {p : Value × Sec} (hi : T[i]? = some p) : ∃ g, ao = some ⟨g, 0, none⟩ ∧ n = T.length ∧ w.cell? ⟨g, i * 2, none⟩ = some p.1 ∧ w.cell? ⟨g, i * 2 + 1, none⟩ = some (.bool p.2.bad) ∧ ∃ cur, w.heap[g]? = some (.cells cur 96 (0, 0)) := by
  have hl := (List.getElem?_eq_some_iff.1 hi).1
  obtain ⟨g, cap', cur, e, hg, -⟩ := ownsRow_pos h.row (by omega)
  have hn : n = T.length := by injection e
  have e1 : ao = some ⟨g, 0, none⟩ := by injection e
  subst hn e1
  exact ⟨g, rfl, rfl, row_cell h.row (rcells_get0 hi), row_cell h.row (rcells_get1 hi), cur, hg⟩
theorem RkAt.get (h : T.map (·.2) = S) {i : Nat} {s : Sec} (hs : S[i]? = some s) : ∃ u, T[i]? = some (u, s) := by
  rw [← h, List.getElem?_map] at hs
  obtain ⟨⟨u, s'⟩, h1, h2⟩ := Option.map_eq_some_iff.1 hs
  simp only at h2
  subst h2
  exact ⟨u, h1⟩
/-- A sector laid anew. -/
theorem RkAt.put (h : RkAt w G b v T) {i : Nat} {p' : Value × Sec} {w5 w6 : World} (hb : Below w.heap.size w w5) (hu : HadG (ext G w w5) w5 p'.1 (p'.2.dur :: p'.2.wait)) (hg : ∀ k, v.ownBlock ≠ some k → w6.heap[k]? = w5.heap[k]?) (hsz : w6.heap.size = w5.heap.size)
    (hr : w6.ownsRow 0 96 2 v (T.set i p').length (rcells (T.set i p'))) (hos : w6.os = w5.os ∧ w6.tape = w5.tape ∧ w6.output = w5.output) : RkAt w6 (ext G w w6) b v (T.set i p') ∧ Turn G w w6 := by
  have hs := hb.size
  have hvb : ∀ cur X (k : Nat), w5.heap[k]? = some (.cells cur X (0, 0)) → X ≠ 96 → v.ownBlock ≠ some k := fun cur X k hk hx e => by
    obtain ⟨cur2, hh⟩ := row_block (h.below hb).row e
    rw [hk] at hh
    simp only [Option.some.injEq, Obj.cells.injEq] at hh
    exact hx hh.2.1
  have hby : ∀ k, ByteBlk w5 k → w6.heap[k]? = w5.heap[k]? := fun k hk => by
    obtain ⟨cur, X, h1, h2⟩ := hk
    exact hg k (hvb cur X k h1 (by rcases h2 with rfl | rfl <;> decide))
  refine ⟨⟨?_, hr, fun j q hq => ?_, .inl h.inB, fun k hk => .inl (h.inV k hk)⟩, ⟨hos.1.trans hb.os, hos.2.1.trans hb.tape, hos.2.2.trans hb.output, by omega, fun k hk hn => ?_⟩⟩
  · rw [hg b (hvb _ _ b (h.below hb).blk (by decide))]; exact (h.below hb).blk
  · by_cases hj : i = j
    · rw [List.getElem?_set, if_pos hj] at hq
      split at hq
      · cases hq
        exact hu.keep (fun k _ hk => hby k hk) (fun k hk _ => by rcases hk with hk | hk; exact .inl hk; exact .inr (by omega))
      · cases hq
    · rw [List.getElem?_set_ne hj] at hq
      exact ((h.below hb).val j q hq).keep (fun k _ hk => hby k hk) (fun k hk _ => .inl hk)
  · rw [hg k (fun e => hn (h.inV k e))]; exact hb.block k hk
/-- A cell of a row laid anew. -/
theorem ownsRow_setCell {e : TypeId} {z g n cap : Nat} {xs : List Value} (h : w.ownsRow 0 e z (.slice (some ⟨g, 0, none⟩) n cap) n xs) (j : Nat) (u : Value) : (w.setCell ⟨g, j, none⟩ u).ownsRow 0 e z (.slice (some ⟨g, 0, none⟩) n cap) n (xs.set j u) := by
  obtain ⟨h1, h2⟩ := h
  refine ⟨by rw [List.length_set]; exact h1, ?_⟩
  rcases h2 with ⟨h, -⟩ | ⟨g', cap', cur, hv, hg, hh, hc, hm, hs, ht⟩
  · cases h
  · simp only [Value.slice.injEq, Option.some.injEq, Addr.mk.injEq, and_true, true_and] at hv
    obtain ⟨rfl, rfl⟩ := hv
    refine .inr ⟨g, cap, cur.setIfInBounds j u, rfl, hg, ?_, hc, hm, by simpa using hs, ?_⟩
    · rw [setCell_eq_setRow w g j _ _ _ _ hh]
      exact setRow_heap w g _ _ _ _ hh
    · rw [Array.toList_setIfInBounds, List.take_set, ht]
/-- A sector's list laid anew. -/
theorem RkAt.values {g n cap : Nat} (h : RkAt w G b (.slice (some ⟨g, 0, none⟩) n cap) T) {i : Nat} {u u' : Value} {s s' : Sec} (hi : T[i]? = some (u, s)) {w5 : World} (hb : Below w.heap.size w w5) (hu : HadG (ext G w w5) w5 u' (s'.dur :: s'.wait)) (hbad : s'.bad = s.bad) :
    RkAt (w5.setCell ⟨g, i * 2, none⟩ u') (ext G w (w5.setCell ⟨g, i * 2, none⟩ u')) b (.slice (some ⟨g, 0, none⟩) n cap) (T.set i (u', s')) ∧ Turn G w (w5.setCell ⟨g, i * 2, none⟩ u') := by
  have hn : n = T.length := by obtain ⟨a, c, e⟩ := h.form; injection e
  subst hn
  refine h.put (p' := (u', s')) hb hu (fun k hk => Below.heap_setCell _ _ _ _ (fun e => hk (by rw [e]; rfl))) (by simp [World.setCell]) ?_ ⟨rfl, rfl, rfl⟩
  rw [List.length_set, rcells_set hi]
  have h1 := ownsRow_setCell (h.below hb).row (i * 2) u'
  rw [show ((rcells T).set (i * 2) u').set (i * 2 + 1) (.bool s'.bad) = (rcells T).set (i * 2) u' from ?_]
  · exact h1
  · apply set_same
    rw [List.getElem?_set_ne (by omega), hbad]
    exact rcells_get1 hi
end
end Go.Proofs.YtliboiajhhnajaaGreatDoor
