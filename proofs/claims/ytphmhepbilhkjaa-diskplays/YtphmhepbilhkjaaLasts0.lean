/- Four lists of what was read and written, beside a disk. -/
import Derived.Test.YtphmhepbilhkjaaHad
namespace Go.Proofs.Ytphmhepbilhkjaa
open Go.RowKit Go.Extern

theorem Bytes.of_block {w w' : World} {v : Value} {bs : List Nat} (h : Bytes w v bs) (hk : ∀ k, v.ownBlock = some k → k < w.heap.size → w'.heap[k]? = w.heap[k]?) : Bytes w' v bs := by
  obtain ⟨ao, cap, g, off, rfl, h2, h3, h4⟩ := h
  refine ⟨ao, cap, g, off, rfl, h2, fun i q hq => ?_, h4⟩
  have hp : 0 < bs.length := by
    rcases Nat.eq_zero_or_pos bs.length with e | e
    · rw [List.length_eq_zero_iff.1 e] at hq; cases hq
    · exact e
  obtain rfl := h2 hp
  have hc := h3 i q hq
  rw [World.cell?_of_block (w := w) (hk g rfl (cell_lt hc))]; exact hc

/-- A list of bytes that were read or written; where each lies is told by 'P'. -/
def LRow (B : Nat) (w : World) (P : Nat → Prop) (v : Value) (bl : List (List Nat)) : Prop :=
  ∃ us, w.ownsRow B 32 1 v us.length us ∧ us.length = bl.length ∧ ∀ (i : Nat) u bs, us[i]? = some u → bl[i]? = some bs → Bytes w u bs ∧ ∀ k, u.ownBlock = some k → P k
theorem LRow.keep {B : Nat} {w w' : World} {P P' : Nat → Prop} {v : Value} {bl : List (List Nat)} (h : LRow B w P v bl) (hv : ∀ k, v.ownBlock = some k → k < w.heap.size → w'.heap[k]? = w.heap[k]?) (hP : ∀ k, P k → P' k)
    (hk : ∀ k, P k → k < w.heap.size → w'.heap[k]? = w.heap[k]?) : LRow B w' P' v bl := by
  obtain ⟨us, h1, h2, h3⟩ := h
  refine ⟨us, ownsRow_of_block h1 (fun k o hk ho => by rw [hv k hk (heap_lt ho)]; exact ho), h2, fun i u bs hu hs => ?_⟩
  obtain ⟨q1, q2⟩ := h3 i u bs hu hs
  exact ⟨q1.of_block (fun k hk' hl => hk k (q2 k hk') hl), fun k hk' => hP k (q2 k hk')⟩
theorem LRow.nil (B : Nat) (w : World) (P : Nat → Prop) : LRow B w P (.slice none 0 0) [] := ⟨[], World.ownsRow_nil _ _ _ _, rfl, by simp⟩
theorem LRow.lt {B : Nat} {w : World} {P : Nat → Prop} {v : Value} {bl : List (List Nat)} (h : LRow B w P v bl) : ∀ k, v.ownBlock = some k → B ≤ k ∧ k < w.heap.size := by
  obtain ⟨us, h1, -⟩ := h
  exact h1.lt
theorem LRow.form {B : Nat} {w : World} {P : Nat → Prop} {v : Value} {bl : List (List Nat)} (h : LRow B w P v bl) : ∃ ao cap, v = .slice ao bl.length cap := by
  obtain ⟨us, h1, h2, -⟩ := h
  rw [← h2]; exact ownsRow_form h1
theorem LRow.at_ {B : Nat} {w : World} {P : Nat → Prop} {ao : Option Addr} {n cap : Nat} {bl : List (List Nat)} (h : LRow B w P (.slice ao n cap) bl) {i : Nat} {bs : List Nat} (hs : bl[i]? = some bs) : ∃ g u, ao = some ⟨g, 0, none⟩ ∧ w.cell? ⟨g, i, none⟩ = some u ∧ Bytes w u bs := by
  obtain ⟨vs, h1, h2, h3⟩ := h
  have hi : i < vs.length := by rw [h2]; exact (List.getElem?_eq_some_iff.1 hs).1
  have hu : vs[i]? = some vs[i] := by simp [hi]
  obtain ⟨g, cap', cur, e, -⟩ := ownsRow_pos h1 (by omega)
  have hn : n = vs.length := by injection e
  have e1 : ao = some ⟨g, 0, none⟩ := by injection e
  subst hn e1
  exact ⟨g, vs[i], rfl, row_cell h1 hu, (h3 i _ bs hu hs).1⟩
/-- A list of one. -/
theorem LRow.one {B : Nat} {w : World} {P : Nat → Prop} {u : Value} {bs : List Nat} (hB : B ≤ w.heap.size) (hu : Bytes w u bs) (hP : ∀ k, u.ownBlock = some k → P k) : LRow B (w.alloc (.cells #[u] 32)) P (.slice (some ⟨w.heap.size, 0, none⟩) 1 1) [bs] := by
  have hb1 : Below w.heap.size w (w.alloc (.cells #[u] 32)) := (Below.refl _ _).alloc (Nat.le_refl _) _
  refine ⟨[u], by have := World.ownsRow_lit (base := B) (e := 32) (size := 1) w #[u] 1 hB (by unfold maxLen; omega) (by simp); simpa using this, rfl, fun i x xb hx hb => ?_⟩
  match i, hx, hb with
  | 0, hx, hb =>
    obtain rfl : u = x := by simpa using hx
    obtain rfl : bs = xb := by simpa using hb
    exact ⟨hu.below hb1, hP⟩
/-- One more is appended. -/
theorem LRow.append {B : Nat} {w : World} {P : Nat → Prop} {v : Value} {bl : List (List Nat)} (h : LRow B w P v bl) (ao : Option Addr) (n c : Nat) {bs : List Nat} (hu : Bytes w (.slice ao n c) bs) (hup : ∀ k, (Value.slice ao n c).ownBlock = some k → P k) (hB : B ≤ w.heap.size) (hl : bl.length < 1000000) (hP : ∀ k, P k → v.ownBlock ≠ some k) :
    ∃ v' w', (Builtin.append_ #[49, 49] 49 #[v, .slice (some ⟨w.heap.size, 0, none⟩) 1 1]).run Try.prog (w.alloc (.cells #[.slice ao n c] 32)) = .ok v' w' ∧ LRow B w' P v' (bl ++ [bs]) ∧ w.grownBy w' v.ownBlock ∧ (v'.ownBlock = v.ownBlock ∨ ∀ k, v'.ownBlock = some k → w.heap.size ≤ k) := by
  obtain ⟨i0, hi, hz0, hz1, hz2⟩ := info_parts infoBy
  have hb1 : Below w.heap.size w (w.alloc (.cells #[.slice ao n c] 32)) := (Below.refl _ _).alloc (Nat.le_refl _) _
  have hu1 := hu.below hb1
  obtain ⟨vs, h1, h2, h3⟩ := h.keep (P' := P) (w' := w.alloc (.cells #[.slice ao n c] 32)) (fun k _ hk => hb1.block k hk) (fun _ hk => hk) (fun k _ hk => hb1.block k hk)
  obtain ⟨v', w', hr, ho, hg, -, hat⟩ := run_append_own_at (P := Try.prog) (w.alloc (.cells #[.slice ao n c] 32)) B 49 49 32 i0 (.slice none 0 0) 1 24 Try.underlying49 hi hz0 hz1 hz2 rfl (by decide) v vs.length vs h1 ⟨w.heap.size, 0, none⟩ 1 1 [.slice ao n c] (by simp)
    (fun j u hj => by
      match j, hj with
      | 0, hj =>
        obtain rfl : Value.slice ao n c = u := by simpa using hj
        rw [Addr.add_mid, cell_of_row _ _ _ _ _ _ (heap_alloc_new w _)]; rfl) (by simp [Value.oneCell']) (by unfold maxLen; omega) (by omega) (by simp; omega)
  have hkeep : ∀ {x : Value} {xb : List Nat}, Bytes (w.alloc (.cells #[.slice ao n c] 32)) x xb → (∀ k, x.ownBlock = some k → P k) → Bytes w' x xb := fun {x xb} hx hp =>
    hx.of_block (fun k hk hl => hg.block k hl (fun e => hP k (hp k hk) e.symm))
  refine ⟨v', w', hr, ⟨vs ++ [.slice ao n c], by rw [List.length_append]; exact ho, by simp [h2], fun i u bs' hu' hs' => ?_⟩, (World.grownBy_alloc w _ _).trans hg, ?_⟩
  · by_cases hi2 : i < vs.length
    · rw [List.getElem?_append_left hi2] at hu'
      rw [List.getElem?_append_left (by omega)] at hs'
      obtain ⟨q1, q2⟩ := h3 i u bs' hu' hs'
      exact ⟨hkeep q1 q2, q2⟩
    · rw [List.getElem?_append_right (by omega)] at hu'
      rw [List.getElem?_append_right (by omega)] at hs'
      have e0 : i - vs.length = 0 := by
        have := (List.getElem?_eq_some_iff.1 hu').1
        simpa using this
      rw [e0] at hu'
      rw [← h2, e0] at hs'
      simp only [List.getElem?_cons_zero, Option.some.injEq] at hu' hs'
      subst hu' hs'
      exact ⟨hkeep hu1 hup, hup⟩
  · rcases hat with e | e
    · exact .inl e
    · refine .inr (fun k hk => ?_)
      rw [hk] at e
      simp only [Option.some.injEq] at e
      rw [e]; simp

/-- A block that nobody turns. -/
def FreeK (w : World) (F : Nat → Prop) (A : Nat) (vs : List Value) (k : Nat) : Prop := k < w.heap.size ∧ ¬ F k ∧ k ≠ A ∧ ∀ (i : Nat) v, vs[i]? = some v → v.ownBlock ≠ some k
/-- The four lists, beside a disk. -/
structure La (w wr : World) (b A : Nat) (F : Nat → Prop) (S : List Sec) (vs : List Value) (ls : Nat → List (List Nat)) : Prop where
  dk : Dk wr F b S
  fb : ∀ k, F k → w.heap.size ≤ k ∧ k < wr.heap.size
  bel : Below w.heap.size w wr
  arr : wr.heap[A]? = some (.cells vs.toArray 56 (0, 0))
  vl : vs.length = 4
  fa : w.heap.size ≤ A ∧ ¬ F A
  row : ∀ (i : Nat) v, vs[i]? = some v → LRow w.heap.size wr (FreeK wr F A vs) v (ls i)
  off : ∀ (i : Nat) v k, vs[i]? = some v → v.ownBlock = some k → ¬ F k ∧ k ≠ A
  sep : ∀ (i i' : Nat) v v' k, i ≠ i' → vs[i]? = some v → vs[i']? = some v' → v.ownBlock = some k → v'.ownBlock ≠ some k

section
variable {w wr w' : World} {b A : Nat} {F F' : Nat → Prop} {S S' : List Sec} {vs : List Value} {ls : Nat → List (List Nat)}
theorem La.turn (h : La w wr b A F S vs ls) (hd : Dk w' F' b S') (ht : Turn F wr w') (hF : ∀ k, F' k → ext F wr w' k) : La w w' b A F' S' vs ls := by
  have hnot : ∀ k, k < wr.heap.size → ¬ F k → ¬ F' k := fun k hk hn hx => by
    rcases hF k hx with hx | hx
    · exact hn hx
    · omega
  have hsz := ht.size
  have hA := heap_lt h.arr
  refine ⟨hd, fun k hk => ?_, h.bel.trans (ht.below h.bel.size (fun k hk => (h.fb k hk).1)), ?_, h.vl, ⟨h.fa.1, hnot A hA h.fa.2⟩, fun i v hv => ?_, fun i v k hv hk => ?_, h.sep⟩
  · have := h.bel.size
    rcases hF k hk with hx | hx
    · have := h.fb k hx; omega
    · omega
  · rw [ht.block A hA h.fa.2]; exact h.arr
  · refine (h.row i v hv).keep (fun k hk hl => ht.block k hl (h.off i v k hv hk).1) (fun k hk => ⟨by have := hk.1; omega, hnot k hk.1 hk.2.1, hk.2.2⟩) (fun k hk hl => ht.block k hl hk.2.1)
  · exact ⟨hnot k ((h.row i v hv).lt k hk).2 (h.off i v k hv hk).1, (h.off i v k hv hk).2⟩
theorem La.below (h : La w wr b A F S vs ls) (hb : Below wr.heap.size wr w') : La w w' b A F S vs ls :=
  h.turn (h.dk.below hb) (Turn.of_below hb) (fun _ hk => .inl hk)
/-- A list laid anew. -/
theorem La.put (h : La w wr b A F S vs ls) {i : Nat} {v v' : Value} {w5 : World} {bl : List (List Nat)} (hi : vs[i]? = some v) (hg : wr.grownBy w5 v.ownBlock) (hv' : v'.ownBlock = v.ownBlock ∨ ∀ k, v'.ownBlock = some k → wr.heap.size ≤ k) (hr : LRow w.heap.size w5 (FreeK wr F A vs) v' bl) :
    La w (w5.setCell ⟨A, i, none⟩ v') b A F S (vs.set i v') (fun j => if j = i then bl else ls j) := by
  have hsz := hg.size
  have hs6 : (w5.setCell ⟨A, i, none⟩ v').heap.size = w5.heap.size := by simp [World.setCell]
  have hA := heap_lt h.arr
  have hil := (List.getElem?_eq_some_iff.1 hi).1
  have h65 : ∀ k, k ≠ A → (w5.setCell ⟨A, i, none⟩ v').heap[k]? = w5.heap[k]? := fun k hk => Below.heap_setCell _ _ _ _ hk
  have hkk : ∀ k, k < wr.heap.size → v.ownBlock ≠ some k → k ≠ A → (w5.setCell ⟨A, i, none⟩ v').heap[k]? = wr.heap[k]? := fun k hk hn ha => by
    rw [h65 k ha, hg.block k hk (fun e => hn e.symm)]
  have hnv : ∀ k, v'.ownBlock = some k → v.ownBlock = some k ∨ wr.heap.size ≤ k := fun k hk => by
    rcases hv' with e | e
    · exact .inl (by rw [← e]; exact hk)
    · exact .inr (e k hk)
  have hset : ∀ (j : Nat) u, (vs.set i v')[j]? = some u → (j = i ∧ u = v') ∨ (j ≠ i ∧ vs[j]? = some u) := fun j u hu => by
    rw [List.getElem?_set] at hu
    by_cases hj : i = j
    · rw [if_pos hj, if_pos hil] at hu
      exact .inl ⟨hj.symm, by simpa using hu.symm⟩
    · rw [if_neg hj] at hu; exact .inr ⟨fun e => hj e.symm, hu⟩
  have hfree : ∀ k, FreeK wr F A vs k → FreeK (w5.setCell ⟨A, i, none⟩ v') F A (vs.set i v') k := fun k hk => by
    refine ⟨by have := hk.1; omega, hk.2.1, hk.2.2.1, fun j u hu e => ?_⟩
    rcases hset j u hu with ⟨rfl, rfl⟩ | ⟨hj, hu⟩
    · rcases hnv k e with e | e
      · exact hk.2.2.2 _ _ hi e
      · have := hk.1; omega
    · exact hk.2.2.2 _ _ hu e
  refine ⟨h.dk.of_blocks (fun k o hk ho => ?_), fun k hk => ?_, h.bel.trans ⟨hg.os, hg.tape, hg.output, by omega, fun k hk => ?_⟩, ?_, by rw [List.length_set]; exact h.vl, h.fa, fun j u hu => ?_, fun j u k hu hk => ?_, fun j j' u u' k hjj hu hu' hk e => ?_⟩
  · rw [hkk k (heap_lt ho) (fun e => (h.off i v k hi e).1 hk) (fun e => h.fa.2 (e ▸ hk))]; exact ho
  · have := h.fb k hk; omega
  · have := h.bel.size
    exact hkk k (by omega) (fun e => by have := ((h.row i v hi).lt k e).1; omega) (fun e => by have := h.fa.1; omega)
  · have ha : w5.heap[A]? = some (.cells vs.toArray 56 (0, 0)) := by rw [hg.block A hA (fun e => (h.off i v A hi e.symm).2 rfl)]; exact h.arr
    rw [setCell_eq_setRow w5 A i _ _ _ v' ha, setRow_heap w5 A _ _ _ _ ha]
    simp
  · rcases hset j u hu with ⟨rfl, rfl⟩ | ⟨hj, hu⟩
    · simp only [if_true]
      exact hr.keep (fun k hk _ => h65 k (fun e => by
        rcases hnv k hk with e2 | e2
        · exact (h.off _ v k hi e2).2 e
        · omega)) hfree (fun k hk _ => h65 k hk.2.2.1)
    · simp only [if_neg hj]
      exact (h.row j u hu).keep (fun k hk hl => hkk k hl (h.sep j i u v k hj hu hi hk) (h.off j u k hu hk).2) hfree (fun k hk hl => hkk k hl (hk.2.2.2 _ _ hi) hk.2.2.1)
  · rcases hset j u hu with ⟨rfl, rfl⟩ | ⟨hj, hu⟩
    · rcases hnv k hk with e | e
      · exact h.off _ v k hi e
      · exact ⟨fun hx => by have := h.fb k hx; omega, by omega⟩
    · exact h.off j u k hu hk
  · rcases hset j u hu with ⟨rfl, rfl⟩ | ⟨hj, hu1⟩ <;> rcases hset j' u' hu' with ⟨e1, e2⟩ | ⟨hj', hu2⟩
    · exact hjj e1.symm
    · rcases hnv k hk with e3 | e3
      · exact h.sep _ _ v u' k hjj hi hu2 e3 e
      · have := ((h.row _ u' hu2).lt k e).2; omega
    · subst e1 e2
      rcases hnv k e with e3 | e3
      · exact h.sep _ _ u v k hjj hu1 hi hk e3
      · have := ((h.row _ u hu1).lt k hk).2; omega
    · exact h.sep _ _ u u' k hjj hu1 hu2 hk e
end

/-- What a sector's list holds. -/
def hadOf (S : List Sec) (i : Nat) : List (List Nat) := match S[i]? with | some s => s.dur :: s.wait | none => []
theorem pick_mem (s : Sec) (n : Int) : s.pick n ∈ s.dur :: s.wait := by
  unfold Sec.pick
  split
  · exact List.mem_cons_self
  · rcases Nat.eq_zero_or_pos s.wait.length with h | h
    · rw [List.length_eq_zero_iff.1 h]; simp
    · rw [List.getD_eq_getElem?_getD, List.getElem?_eq_getElem (by omega)]
      exact List.mem_cons_of_mem _ (List.getElem_mem _)
theorem crS_at {S : List Sec} {ps : List Int} {i : Nat} {s : Sec} (hs : S[i]? = some s) : ∃ s', (crS S ps)[i]? = some s' ∧ s'.wait = [] ∧ s'.bad = s.bad ∧ s'.top ∈ s.dur :: s.wait := by
  unfold crS
  rw [List.getElem?_map, partS_get, hs]
  refine ⟨_, rfl, rfl, ?_, ?_⟩
  · unfold crF Sec.let; split <;> rfl
  · rw [Sec.top_nil rfl]
    show (crF (pend S) ps i s).dur ∈ _
    unfold crF
    split
    · exact pick_mem s _
    · exact List.mem_cons_self
theorem crS_length (S : List Sec) (ps : List Int) : (crS S ps).length = S.length := by unfold crS; rw [List.length_map, partS_length]
theorem crS_none (S : List Sec) (ps : List Int) : pendI (crS S ps) = [] := by
  unfold pendI
  rw [show pend (crS S ps) = [] from ?_]; · rfl
  apply List.eq_nil_iff_forall_not_mem.2
  intro i hi
  obtain ⟨s, hs, hw⟩ := mem_pend.1 hi
  unfold crS at hs
  rw [List.getElem?_map] at hs
  obtain ⟨s0, -, rfl⟩ := Option.map_eq_some_iff.1 hs
  exact hw rfl
theorem hadOf_wSet {S : List Sec} {k : Nat} {d : List Nat} (hk : k < S.length) (hd : d.length = 128) (i : Nat) : hadOf (wSet S (k : Int) d) i = if i = k then hadOf S k ++ [d] else hadOf S i := by
  unfold hadOf
  by_cases hik : i = k
  · subst hik
    obtain ⟨s, hs⟩ := get_of_lt hk
    rw [wSet_eq hs hd, hs]; simp
  · rw [if_neg hik, wSet_ne (by omega)]
theorem infoBys : (Try.prog.info? 32).map (fun i => (i.zero, i.size, i.bytes)) = some (some (.slice none 0 0), 1, 24) := infoBy
theorem run_oneB (w : World) (ao : Option Addr) (n c : Nat) : (Instr.buildSlice 49 1 #[(0, .slice ao n c)]).run Try.prog w = .ok (.slice (some ⟨w.heap.size, 0, none⟩) 1 1) (w.alloc (.cells #[.slice ao n c] 32)) := by kernel_rfl
theorem index4_0 (w : World) (v0 v1 v2 v3 : Value) : (Instr.index 56 (.agg #[v0, v1, v2, v3]) (.int .i64 ((0 : Nat) : Int))).run Try.prog w = .ok v0 w := by kernel_rfl
theorem addr4_0 (w : World) (A : Nat) : (Instr.indexAt 56 (.pointer (some ⟨A, 0, none⟩)) (.int .i64 ((0 : Nat) : Int))).run Try.prog w = .ok (.pointer (some ⟨A, 0, none⟩)) w := by kernel_rfl
theorem index4_1 (w : World) (v0 v1 v2 v3 : Value) : (Instr.index 56 (.agg #[v0, v1, v2, v3]) (.int .i64 ((1 : Nat) : Int))).run Try.prog w = .ok v1 w := by kernel_rfl
theorem addr4_1 (w : World) (A : Nat) : (Instr.indexAt 56 (.pointer (some ⟨A, 0, none⟩)) (.int .i64 ((1 : Nat) : Int))).run Try.prog w = .ok (.pointer (some ⟨A, 1, none⟩)) w := by kernel_rfl
theorem index4_2 (w : World) (v0 v1 v2 v3 : Value) : (Instr.index 56 (.agg #[v0, v1, v2, v3]) (.int .i64 ((2 : Nat) : Int))).run Try.prog w = .ok v2 w := by kernel_rfl
theorem addr4_2 (w : World) (A : Nat) : (Instr.indexAt 56 (.pointer (some ⟨A, 0, none⟩)) (.int .i64 ((2 : Nat) : Int))).run Try.prog w = .ok (.pointer (some ⟨A, 2, none⟩)) w := by kernel_rfl
theorem index4_3 (w : World) (v0 v1 v2 v3 : Value) : (Instr.index 56 (.agg #[v0, v1, v2, v3]) (.int .i64 ((3 : Nat) : Int))).run Try.prog w = .ok v3 w := by kernel_rfl
theorem addr4_3 (w : World) (A : Nat) : (Instr.indexAt 56 (.pointer (some ⟨A, 0, none⟩)) (.int .i64 ((3 : Nat) : Int))).run Try.prog w = .ok (.pointer (some ⟨A, 3, none⟩)) w := by kernel_rfl
theorem index4 {w : World} {v0 v1 v2 v3 v : Value} {q : Nat} (h : [v0, v1, v2, v3][q]? = some v) : (Instr.index 56 (.agg #[v0, v1, v2, v3]) (.int .i64 (q : Int))).run Try.prog w = .ok v w := by
  match q, h with
  | 0, h => obtain rfl : v0 = v := by simpa using h
            exact index4_0 ..
  | 1, h => obtain rfl : v1 = v := by simpa using h
            exact index4_1 ..
  | 2, h => obtain rfl : v2 = v := by simpa using h
            exact index4_2 ..
  | 3, h => obtain rfl : v3 = v := by simpa using h
            exact index4_3 ..
theorem addr4 {w : World} {A q : Nat} (h : q < 4) : (Instr.indexAt 56 (.pointer (some ⟨A, 0, none⟩)) (.int .i64 (q : Int))).run Try.prog w = .ok (.pointer (some ⟨A, q, none⟩)) w := by
  match q, h with
  | 0, _ => exact addr4_0 ..
  | 1, _ => exact addr4_1 ..
  | 2, _ => exact addr4_2 ..
  | 3, _ => exact addr4_3 ..
end Go.Proofs.Ytphmhepbilhkjaa
