/- Numbers of one's own; what setting and clearing leaves. -/
import Derived.Test.YtkkklobjfoehnaaDoorS1
namespace Go.Proofs.YtkkklobjfoehnaaDoor
open Go.RowKit Go.Extern

def OwnI (w : World) (base : Nat) (v : Value) (ns : List Int) : Prop := w.ownsRow base 3 1 v (intsC ns).length (intsC ns)
theorem OwnI.ints {w : World} {base : Nat} {v : Value} {ns : List Int} (h : OwnI w base v ns) (hi : ∀ n ∈ ns, I64 n) (hl : ns.length ≤ 140737488355328) : Ints w v ns := ⟨ownsRow_row h (by rw [intsC_length]; exact hl), hi⟩
theorem OwnI.form {w : World} {base : Nat} {v : Value} {ns : List Int} (h : OwnI w base v ns) : ∃ ao cap, v = .slice ao ns.length cap := by
  obtain ⟨ao, cap, e⟩ := ownsRow_form h; rw [intsC_length] at e; exact ⟨ao, cap, e⟩
theorem OwnI.below {w w' : World} {base : Nat} {v : Value} {ns : List Int} (h : OwnI w base v ns) (hb : Below w.heap.size w w') : OwnI w' base v ns := ownsRow_below h hb
theorem OwnI.turn {w w' : World} {base : Nat} {F : Nat → Prop} {v : Value} {ns : List Int} (h : OwnI w base v ns) (ht : Turn F w w') (hF : ∀ k, F k → k < base) : OwnI w' base v ns :=
  ownsRow_of_block h fun k o hk ho => by rw [ht.block k (heap_lt ho) (fun e => by have := hF k e; have := (h.lt k hk).1; omega)]; exact ho
theorem infoInt : (Tryd.prog.info? 3).map (fun i => (i.zero, i.size, i.bytes)) = some (some (.int .i64 0), 1, 8) := by kernel_rfl
/-- What an append of numbers leaves. -/
structure GrewI (w : World) (base : Nat) (v' : Value) (ns : List Int) (w' : World) : Prop where
  own : OwnI w' base v' ns
  bel : Below base w w'
theorem append_ints (w : World) (base : Nat) (v x : Value) (ns ms : List Int) (hown : OwnI w base v ns) (hb : Row w x (intsC ms)) (hn : ns.length + ms.length ≤ 1000000) (hbase : base ≤ w.heap.size) :
    ∃ v' w', (Builtin.append_ #[31, 31] 31 #[v, x]).run Tryd.prog w = .ok v' w' ∧ GrewI w base v' (ns ++ ms) w' ∧ (v'.ownBlock = v.ownBlock ∨ v'.ownBlock = some w.heap.size) := by
  obtain ⟨i0, hi, hz0, hz1, hz2⟩ := info3 infoInt
  obtain ⟨v', w', hrun, hg⟩ := append_row (P := Tryd.prog) (ty := 31) Tryd.underlying31 hi hz0 hz1 hz2 rfl (by decide) w base v x (intsC ns) (intsC ms) hown hb (intsC_one ms) (by rw [intsC_length, intsC_length]; omega) hbase
  refine ⟨v', w', hrun, ⟨?_, hg.below hbase (fun k hk => (hown.lt k hk).1)⟩, hg.at_⟩
  have := hg.own
  rw [← intsC_append] at this; exact this
/-- append([]int{}, l...). -/
theorem copy_ints (w : World) (x : Value) (ms : List Int) (hx : Ints w x ms) (hl : ms.length ≤ 1000000) :
    ∃ v' w', (Builtin.append_ #[31, 31] 31 #[.slice (some ⟨w.heap.size, 0, none⟩) 0 0, x]).run Tryd.prog (w.alloc (.cells #[] 3)) = .ok v' w' ∧ OwnI w' w.heap.size v' ms ∧ Below w.heap.size w w' := by
  have hb := bel_alloc w (.cells #[] 3)
  obtain ⟨v', w', h1, h2, -⟩ := append_ints (w.alloc (.cells #[] 3)) w.heap.size (.slice (some ⟨w.heap.size, 0, none⟩) 0 0) x [] ms (lit_row w w.heap.size 3 [] (Nat.le_refl _) (by simp)) (hx.1.below hb) (by simpa using hl) (by simp)
  exact ⟨v', w', h1, by simpa using h2.own, hb.trans h2.bel⟩
/-- append(l, n). -/
theorem append_one (w : World) (base : Nat) (v : Value) (ns : List Int) (n : Int) (hown : OwnI w base v ns) (hn : I64 n) (hl : ns.length ≤ 100000) (hbase : base ≤ w.heap.size) :
    ∃ v' w', (Builtin.append_ #[31, 31] 31 #[v, .slice (some ⟨w.heap.size, 0, none⟩) 1 1]).run Tryd.prog (w.alloc (.cells #[.int .i64 n] 3)) = .ok v' w' ∧ GrewI w base v' (ns ++ [n]) w' := by
  have hb := bel_alloc w (.cells #[.int .i64 n] 3)
  have hlit := ints_lit w [n] (fun x hx => by rw [List.mem_singleton.1 hx]; exact hn) (by simp)
  obtain ⟨v', w', h1, h2, -⟩ := append_ints (w.alloc (.cells #[.int .i64 n] 3)) base v _ ns [n] (hown.below hb) hlit.1 (by simp; omega) (by simp; omega)
  exact ⟨v', w', h1, ⟨h2.own, (hb.mono hbase).trans h2.bel⟩⟩

theorem putS_get (on : Bool) : ∀ (ns : List Int) (l : List Bool) (i : Nat), (∀ n ∈ ns, inB l n = true) → (putS l ns on).getD i false = if (i : Int) ∈ ns then on else l.getD i false
  | [], l, i, _ => by simp [putS]
  | n :: t, l, i, h => by
    have hn := h n List.mem_cons_self
    obtain ⟨k, rfl, hk⟩ := inB_true hn
    have ih := putS_get on t (l.set k on) i (fun x hx => by
      have := h x (List.mem_cons_of_mem _ hx)
      unfold inB at this ⊢; rw [List.length_set]; exact this)
    have e : putS l ((k : Int) :: t) on = putS (l.set k on) t on := rfl
    rw [e, ih, getD_set]
    by_cases h1 : (i : Int) ∈ t
    · simp [h1]
    · rw [if_neg h1]
      by_cases h2 : i = k
      · subst h2; simp [hk]
      · rw [if_neg (fun q => h2 q.1), if_neg]
        simp only [List.mem_cons, not_or]
        exact ⟨by omega, h1⟩
theorem ext_flags {l m : List Bool} (h : l.length = m.length) (hg : ∀ i, l.getD i false = m.getD i false) : l = m := by
  apply List.ext_getElem h
  intro i h1 h2
  have := hg i
  simpa [List.getD, h1, h2] using this
theorem inB_putS (l : List Bool) (ns : List Int) (on : Bool) (n : Int) : inB (putS l ns on) n = inB l n := by unfold inB; rw [putS_length]
/-- Set, set again and cleared: as it was. -/
theorem putS_back {l : List Bool} {fs : List Int} (h : ∀ n ∈ fs, inB l n = true ∧ hasS l n = false) : putS (putS (putS l fs true) fs true) fs false = l := by
  have h0 : ∀ n ∈ fs, inB l n = true := fun n hn => (h n hn).1
  have h1 : ∀ n ∈ fs, inB (putS l fs true) n = true := fun n hn => by rw [inB_putS]; exact h0 n hn
  have h2 : ∀ n ∈ fs, inB (putS (putS l fs true) fs true) n = true := fun n hn => by rw [inB_putS]; exact h1 n hn
  refine ext_flags (by rw [putS_length, putS_length, putS_length]) fun i => ?_
  rw [putS_get false fs _ i h2, putS_get true fs _ i h1, putS_get true fs _ i h0]
  split
  · rename_i hi
    have := (h _ hi).2
    rw [hasS_nat] at this; rw [this]
  · rfl
theorem putS_has {l : List Bool} {fs : List Int} (h : ∀ n ∈ fs, inB l n = true) {n : Int} (hn : n ∈ fs) : hasS (putS l fs true) n = true := by
  obtain ⟨k, rfl, hk⟩ := inB_true (h n hn)
  rw [hasS_nat, putS_get true fs l k h, if_pos hn]
theorem all_of {l : List Bool} {fs : List Int} (h : ∀ n ∈ fs, inB l n = true) : fs.all (inB l) = true := List.all_eq_true.2 h
/-- The numbers that are the bitmap's, and clear. -/
def freshTo (l : List Bool) (ms : List Int) (j : Nat) : List Int := (ms.take j).filter fun n => inB l n && !hasS l n
theorem freshTo_yes {l : List Bool} {ms : List Int} {j : Nat} {n : Int} (h : ms[j]? = some n) (hp : (inB l n && !hasS l n) = true) : freshTo l ms (j + 1) = freshTo l ms j ++ [n] := by
  unfold freshTo; rw [take_snoc h, List.filter_append]; simp [hp]
theorem freshTo_no {l : List Bool} {ms : List Int} {j : Nat} {n : Int} (h : ms[j]? = some n) (hp : (inB l n && !hasS l n) = false) : freshTo l ms (j + 1) = freshTo l ms j := by
  unfold freshTo; rw [take_snoc h, List.filter_append]; simp [hp]
theorem freshTo_len (l : List Bool) (ms : List Int) (j : Nat) : (freshTo l ms j).length ≤ j := by
  unfold freshTo
  have := List.length_filter_le (fun n => inB l n && !hasS l n) (ms.take j)
  have := List.length_take_le j ms
  omega
theorem freshTo_mem {l : List Bool} {ms : List Int} {j : Nat} {n : Int} (h : n ∈ freshTo l ms j) : (inB l n = true ∧ hasS l n = false) ∧ n ∈ ms := by
  unfold freshTo at h
  obtain ⟨h1, h2⟩ := List.mem_filter.1 h
  simp only [Bool.and_eq_true, Bool.not_eq_true'] at h2
  exact ⟨h2, List.mem_of_mem_take h1⟩
/-- Two bitmaps and a list of numbers of one's own. -/
structure TwS (w : World) (F G : Nat → Prop) (s4 b bc : Nat) (l' l : List Bool) (fv : Value) (fs : List Int) (wr : World) : Prop where
  own : OwnI wr s4 fv fs
  bx : Bm wr F b l'
  cl : Bm wr G bc l
  bel : Below w.heap.size w wr
theorem TwS.below {w : World} {F G : Nat → Prop} {s4 b bc : Nat} {l' l : List Bool} {fv : Value} {fs : List Int} {wr wa : World} (h : TwS w F G s4 b bc l' l fv fs wr) (hb : Below wr.heap.size wr wa) : TwS w F G s4 b bc l' l fv fs wa :=
  ⟨h.own.below hb, h.bx.below hb, h.cl.below hb, below_next h.bel hb⟩
theorem TwS.put {w : World} {F G : Nat → Prop} {s4 b bc : Nat} {l' l l2 : List Bool} {fv : Value} {fs : List Int} {wr wa : World} (h : TwS w F G s4 b bc l' l fv fs wr) (hF : ∀ q, F q → w.heap.size ≤ q ∧ q < s4) (hFG : ∀ q, G q → ¬ F q) (hp : Put F b l2 wr wa) : TwS w F G s4 b bc l2 l fv fs wa :=
  ⟨h.own.turn hp.turn (fun q hq => (hF q hq).2), hp.bm, h.cl.turn hp.turn hFG, h.bel.trans (hp.turn.below h.bel.size (fun q hq => (hF q hq).1))⟩
end Go.Proofs.YtkkklobjfoehnaaDoor
