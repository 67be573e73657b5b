/- Lists of bytes that were read; one disk under a script. -/
import Derived.Test.YtphmhepbilhkjaaIntsEq
namespace Go.Proofs.Ytphmhepbilhkjaa
open Go.RowKit Go.Extern

/-- The value 'v' is a slice of slices of bytes, all in blocks from 'B' on. -/
def HadR (B : Nat) (w : World) (v : Value) (bl : List (List Nat)) : Prop :=
  ∃ vs, w.ownsRow B 32 1 v vs.length vs ∧ vs.length = bl.length ∧ ∀ (i : Nat) u bs, vs[i]? = some u → bl[i]? = some bs → Own w B u bs
theorem HadR.nil (B : Nat) (w : World) : HadR B w (.slice none 0 0) [] := ⟨[], World.ownsRow_nil _ _ _ _, rfl, by simp⟩
theorem HadR.below {B : Nat} {w w' : World} {v : Value} {bl : List (List Nat)} (h : HadR B w v bl) (hb : Below w.heap.size w w') : HadR B w' v bl := by
  obtain ⟨vs, h1, h2, h3⟩ := h
  exact ⟨vs, ownsRow_of_block h1 (fun k o _ ho => by rw [hb.block k (heap_lt ho)]; exact ho), h2, fun i u bs hu hs => (h3 i u bs hu hs).below hb⟩
theorem HadR.turn {B : Nat} {F : Nat → Prop} {w w' : World} {v : Value} {bl : List (List Nat)} (h : HadR B w v bl) (ht : Turn F w w') (hF : ∀ k, F k → k < B) : HadR B w' v bl := by
  obtain ⟨vs, h1, h2, h3⟩ := h
  refine ⟨vs, ownsRow_of_block h1 (fun k o hk ho => by rw [ht.block k (heap_lt ho) (fun hx => by have := hF k hx; have := (h1.lt k hk).1; omega)]; exact ho), h2, fun i u bs hu hs => ?_⟩
  obtain ⟨q1, q2⟩ := h3 i u bs hu hs
  exact ⟨ownsRow_of_block q1 (fun k o hk ho => by rw [ht.block k (heap_lt ho) (fun hx => by have := hF k hx; have := (q1.lt k hk).1; omega)]; exact ho), q2⟩
theorem HadR.form {B : Nat} {w : World} {v : Value} {bl : List (List Nat)} (h : HadR B w v bl) : ∃ ao cap, v = .slice ao bl.length cap := by
  obtain ⟨vs, h1, h2, -⟩ := h
  rw [← h2]
  exact ownsRow_form h1
theorem HadR.at_ {B : Nat} {w : World} {ao : Option Addr} {n cap : Nat} {bl : List (List Nat)} (h : HadR B w (.slice ao n cap) bl) {i : Nat} {bs : List Nat} (hs : bl[i]? = some bs) : ∃ g u, ao = some ⟨g, 0, none⟩ ∧ w.cell? ⟨g, i, none⟩ = some u ∧ Own w B u bs := by
  obtain ⟨vs, h1, h2, h3⟩ := h
  have hi : i < vs.length := by rw [h2]; exact (List.getElem?_eq_some_iff.1 hs).1
  have hu : vs[i]? = some vs[i] := by simp [hi]
  obtain ⟨g, cap', cur, e, -⟩ := ownsRow_pos h1 (by omega)
  have hn : n = vs.length := by injection e
  have e1 : ao = some ⟨g, 0, none⟩ := by injection e
  subst hn e1
  exact ⟨g, vs[i], rfl, row_cell h1 hu, h3 i _ bs hu hs⟩
theorem infoBy : (Try.prog.info? 32).map (fun i => (i.zero, i.size, i.bytes)) = some (some (.slice none 0 0), 1, 24) := by kernel_rfl
/-- One more is appended. -/
theorem HadR.append {B : Nat} {w : World} {v : Value} {bl : List (List Nat)} (h : HadR B w v bl) (ao : Option Addr) (n c : Nat) {bs : List Nat} (hu : Own w B (.slice ao n c) bs) (hB : B ≤ w.heap.size) (hl : bl.length < 1000000) :
    ∃ v' w', (Builtin.append_ #[49, 49] 49 #[v, .slice (some ⟨w.heap.size, 0, none⟩) 1 1]).run Try.prog (w.alloc (.cells #[.slice ao n c] 32)) = .ok v' w' ∧ HadR B w' v' (bl ++ [bs]) ∧ w.grownBy w' v.ownBlock ∧ ∃ ao n c, v' = .slice ao n c := by
  obtain ⟨i0, hi, hz0, hz1, hz2⟩ := info_parts infoBy
  have hb1 : Below w.heap.size w (w.alloc (.cells #[.slice ao n c] 32)) := (Below.refl _ _).alloc (Nat.le_refl _) _
  obtain ⟨vs, h1, h2, h3⟩ := h.below hb1
  have hu1 := hu.below hb1
  obtain ⟨v', w', hr, ho, hg, -, hat⟩ := run_append_own_at (P := Try.prog) (w.alloc (.cells #[.slice ao n c] 32)) B 49 49 32 i0 (.slice none 0 0) 1 24 Try.underlying49 hi hz0 hz1 hz2 rfl (by decide) v vs.length vs h1 ⟨w.heap.size, 0, none⟩ 1 1 [.slice ao n c] (by simp)
    (fun j u hj => by
      match j, hj with
      | 0, hj =>
        obtain rfl : Value.slice ao n c = u := by simpa using hj
        rw [Addr.add_mid, cell_of_row _ _ _ _ _ _ (heap_alloc_new w _)]; rfl) (by simp [Value.oneCell']) (by unfold maxLen; omega) (by omega) (by simp; omega)
  obtain ⟨ao', cap', hf⟩ := ownsRow_form ho
  -- elements' rows are bytes, the list's row is slices: they lie apart
  have hkeep : ∀ {x : Value} {xb : List Nat}, Own (w.alloc (.cells #[.slice ao n c] 32)) B x xb → Own w' B x xb := fun {x xb} hx => by
    obtain ⟨q1, q2⟩ := hx
    refine ⟨ownsRow_of_block q1 (fun k o hk ho' => ?_), q2⟩
    rw [hg.block k (heap_lt ho') (fun e => ?_)]
    · exact ho'
    · rcases q1.2 with ⟨e2, -⟩ | ⟨g2, cap2, cur2, e2, -, hh2, -⟩
      · rw [e2] at hk; simp [Value.ownBlock] at hk
      · rw [e2] at hk
        simp only [Value.ownBlock, Option.some.injEq] at hk
        rcases h1.2 with ⟨e3, -⟩ | ⟨g3, cap3, cur3, e3, -, hh3, -⟩
        · rw [e3] at e; simp [Value.ownBlock] at e
        · rw [e3] at e
          simp only [Value.ownBlock, Option.some.injEq] at e
          rw [← e, ← hk, hh2] at hh3
          simp at hh3
  refine ⟨v', w', hr, ⟨vs ++ [.slice ao n c], by rw [List.length_append]; exact ho, by simp [h2], fun i u bs' hu' hs' => ?_⟩, (World.grownBy_alloc w _ _).trans hg, ⟨_, _, _, hf⟩⟩
  by_cases hi2 : i < vs.length
  · rw [List.getElem?_append_left hi2] at hu'
    rw [List.getElem?_append_left (by omega)] at hs'
    exact hkeep (h3 i u bs' hu' hs')
  · rw [List.getElem?_append_right (by omega)] at hu'
    rw [List.getElem?_append_right (by omega)] at hs'
    have e0 : i - vs.length = 0 := by
      have := (List.getElem?_eq_some_iff.1 hu').1
      simpa using this
    rw [e0] at hu'
    rw [← h2, e0] at hs'
    simp only [List.getElem?_cons_zero, Option.some.injEq] at hu' hs'
    subst hu' hs'
    exact hkeep hu1
theorem wpList_appendL {w w' : World} {ops : Array Oper} {rest : List Oper} {o : Oper} {a : Act} {Q : Exit → Act → World → Prop} {x y : Operand} {v xv yv : Value} (hgd : o.guard = none) (ho : o.op = .call { callee := .builtin .append, args := #[x, y], argTypes := #[49, 49] })
    (hr : (Builtin.append_ #[49, 49] 49 #[xv, yv]).run Try.prog w = .ok v w') (hty : o.type = 49) (hx : a.eval x = xv) (hy : a.eval y = yv)
    (h : wpList Try.prog ops Q rest (a.put o.dst v) w') : wpList Try.prog ops Q (o :: rest) a w :=
  wpList_exec hgd (exec_append ho (by rw [hty]; exact hr) hx hy) h

/-- One disk under a script. -/
def OneR (w wr : World) (b n j : Nat) : Prop :=
  ∃ F S, Dk wr F b S ∧ (∀ k, F k → w.heap.size ≤ k ∧ k < wr.heap.size) ∧ S.length = n ∧ (∀ s ∈ S, s.wait.length ≤ j ∧ s.bad = false) ∧ Below w.heap.size w wr
theorem OneR.below {w wr w' : World} {b n j : Nat} (h : OneR w wr b n j) (hb : Below wr.heap.size wr w') : OneR w w' b n j := by
  obtain ⟨F, S, h1, h2, h3, h4, h5⟩ := h
  exact ⟨F, S, h1.below hb, fun k hk => ⟨(h2 k hk).1, Nat.lt_of_lt_of_le (h2 k hk).2 hb.size⟩, h3, h4, h5.trans (hb.mono h5.size)⟩
theorem OneR.mono {w wr : World} {b n j j' : Nat} (h : OneR w wr b n j) (hj : j ≤ j') : OneR w wr b n j' := by
  obtain ⟨F, S, h1, h2, h3, h4, h5⟩ := h
  exact ⟨F, S, h1, h2, h3, fun s hs => ⟨Nat.le_trans (h4 s hs).1 hj, (h4 s hs).2⟩, h5⟩
theorem OneR.write {w wr w4 w5 : World} {b n j : Nat} {F : Nat → Prop} {S : List Sec} {d : List Nat} {oi : Int} (r2 : ∀ k, F k → w.heap.size ≤ k ∧ k < wr.heap.size) (r3 : S.length = n) (r4 : ∀ s ∈ S, s.wait.length ≤ j ∧ s.bad = false) (r8 : Below w.heap.size w wr)
    (hb4 : Below wr.heap.size wr w4) (hd5 : Dk w5 (ext F w4 w5) b (wSet S oi d)) (ht5 : Turn F w4 w5) : OneR w w5 b n (j + 1) := by
  have h1 := r8.size
  have h2 := hb4.size
  have h3 := ht5.size
  refine ⟨ext F w4 w5, wSet S oi d, hd5, fun q hq => ?_, by rw [wSet_length]; exact r3, fun s hs => ?_, r8.trans ((hb4.mono h1).trans (ht5.below (by omega) (fun q hq => (r2 q hq).1)))⟩
  · rcases hq with hq | hq
    · have := r2 q hq; omega
    · omega
  · obtain ⟨s0, h0, e1, e2⟩ := wSet_mem hs
    have := r4 s0 h0
    exact ⟨by omega, by rw [e1]; exact this.2⟩
theorem fresh_one {w wr : World} {b n : Nat} {F : Nat → Prop} (hd : Dk wr F b (fresh n)) (hF : ∀ k, F k → w.heap.size ≤ k ∧ k < wr.heap.size) (hb : Below w.heap.size w wr) : OneR w wr b n 0 :=
  ⟨F, fresh n, hd, hF, by simp [fresh], fun s hs => by simp [fresh] at hs; rw [hs.2]; exact ⟨by simp [zeroSec], rfl⟩, hb⟩
end Go.Proofs.Ytphmhepbilhkjaa
