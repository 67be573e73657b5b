/- Set of one number; a law's guards. -/
import Derived.Test.YtkkklobjfoehnaaDoorAw
namespace Go.Proofs.YtkkklobjfoehnaaDoor
open Go.RowKit Go.Extern

/-- One number is set, if it is the bitmap's. -/
def put1 (l : List Bool) (n : Int) (on : Bool) : List Bool := if inB l n then l.set n.toNat on else l
theorem put1_length (l : List Bool) (n : Int) (on : Bool) : (put1 l n on).length = l.length := by unfold put1; split <;> simp
theorem set1_any {w : World} {F : Nat → Prop} {b : Nat} {l : List Bool} (h : Bm w F b l) (hF : ∀ k, F k → k < w.heap.size) (n : Int) (hn : I64 n) :
    Calls Tryd.prog 10 #[.pointer (some ⟨b, 0, none⟩), .slice (some ⟨w.heap.size, 0, none⟩) 1 1] (w.alloc (.cells #[.int .i64 n] 3)) fun e w' => ∃ u, e = .returned u ∧ Put F b (put1 l n true) w w' := by
  have hv := ints_lit w [n] (fun x hx => by rw [List.mem_singleton.1 hx]; exact hn) (by simp)
  have hb := bel_alloc w (.cells #[.int .i64 n] 3)
  cases hi : inB l n with
  | true =>
    refine (set_ok (h.below hb) _ [n] hv (fun k hk hq => ?_) (by simpa using hi)).mono ?_
    · simp only [Value.ownBlock, Option.some.injEq] at hk
      have := hF k hq
      omega
    · rintro e w' ⟨rfl, hp⟩
      refine ⟨_, rfl, ?_, (Turn.of_below hb).trans hp.turn (fun _ _ h => h)⟩
      have e : put1 l n true = putS l [n] true := by unfold put1 putS; rw [if_pos hi]; rfl
      rw [e]; exact hp.bm
  | false =>
    refine (set_bad (h.below hb) _ [n] hv (by simpa using hi)).mono ?_
    rintro e w' ⟨rfl, rfl⟩
    refine ⟨_, rfl, ?_, Turn.of_below hb⟩
    have e : put1 l n true = l := by unfold put1; rw [if_neg (by simp [hi])]
    rw [e]; exact h.below hb
/-- A bitmap of that length, all of whose blocks are new. -/
def Mine (w : World) (F : Nat → Prop) (S b n : Nat) (wr : World) : Prop := ∃ l, l.length = n ∧ Bm wr F b l ∧ Below w.heap.size w wr ∧ S ≤ wr.heap.size ∧ (∀ k, F k → w.heap.size ≤ k ∧ k < S)
theorem Mine.put {w : World} {F : Nat → Prop} {S b n : Nat} {wr w' : World} {l : List Bool} (_hl : l.length = n) (hb : Below w.heap.size w wr) (hS : S ≤ wr.heap.size) (hF : ∀ k, F k → w.heap.size ≤ k ∧ k < S) {l' : List Bool} (hl' : l'.length = n) (h : Put F b l' wr w') : Mine w F S b n w' :=
  ⟨l', hl', h.bm, hb.trans (h.turn.below hb.size (fun k hk => (hF k hk).1)), Nat.le_trans hS h.turn.size, hF⟩
theorem Mine.start {w w1 : World} {b n : Nat} (h : Fresh (List.replicate n false) w b w1) : Mine w (newF w w1) w1.heap.size b n w1 := ⟨_, by simp, h.bm, h.bel, Nat.le_refl _, fun _ hk => hk⟩
theorem count_grow (l : List Bool) (m : Nat) : (l ++ List.replicate m false).count true = l.count true := by
  rw [List.count_append, List.count_replicate]; simp
theorem has_grow (l : List Bool) (m : Nat) (i : Int) : hasS (l ++ List.replicate m false) i = hasS l i := by
  unfold hasS
  congr 1
  simp only [List.getD, List.getElem?_append]
  split
  · rfl
  · rename_i h
    rw [List.getElem?_eq_none (by omega : l.length ≤ i.toNat), List.getElem?_replicate]; split <;> rfl
end Go.Proofs.YtkkklobjfoehnaaDoor
