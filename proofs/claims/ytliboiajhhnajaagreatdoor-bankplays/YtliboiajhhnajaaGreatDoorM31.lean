import Derived.Test.YtliboiajhhnajaaGreatDoorM25
import Derived.Test.YtliboiajhhnajaaGreatDoorM30
import Derived.Test.YtliboiajhhnajaaGreatDoorM15
/- Banks of the statements: one, or two apart from each other, in new memory. -/
namespace Go.Proofs.YtliboiajhhnajaaGreatDoor
open Go.RowKit Go.Extern

/-- A bank in memory that is newer than the world 'w0'. -/
structure OneAt (w0 w : World) (F : Nat → Prop) (b : Nat) (D : List Dev) (q : Pw) : Prop where
  k : Bk w F b D q
  f : ∀ k, F k → w0.heap.size ≤ k ∧ k < w.heap.size
  bel : Below w0.heap.size w0 w
section
variable {w0 w w1 w2 : World} {F : Nat → Prop} {b : Nat} {D D' : List Dev} {q q' : Pw}
theorem OneAt.below (h : OneAt w0 w F b D q) (hb : Below w.heap.size w w1) : OneAt w0 w1 F b D q :=
  ⟨h.k.below hb, fun k hk => ⟨(h.f k hk).1, Nat.lt_of_lt_of_le (h.f k hk).2 hb.size⟩, h.bel.trans (hb.mono h.bel.size)⟩
theorem OneAt.turn (h : OneAt w0 w F b D q) (hk : Bk w1 (ext F w w1) b D' q') (ht : Turn F w w1) : OneAt w0 w1 (ext F w w1) b D' q' :=
  ⟨hk, fun k hk => by
    have h1 := h.bel.size
    have h2 := ht.size
    rcases hk with hk | hk
    · have := h.f k hk; omega
    · omega, h.bel.trans (ht.below h.bel.size (fun k hk => (h.f k hk).1))⟩
theorem OneAt.other {H : Nat → Prop} (h : OneAt w0 w F b D q) (ht : Turn H w w1) (hH : ∀ k, H k → w0.heap.size ≤ k) (hd : ∀ k, F k → ¬ H k) : OneAt w0 w1 F b D q :=
  ⟨h.k.turn ht hd, fun k hk => ⟨(h.f k hk).1, Nat.lt_of_lt_of_le (h.f k hk).2 ht.size⟩, h.bel.trans (ht.below h.bel.size hH)⟩
theorem OneAt.made (hk : Bk w1 (fun k => w.heap.size ≤ k ∧ k < w1.heap.size) b D q) (h0 : Below w0.heap.size w0 w) (hb : Below w.heap.size w w1) : OneAt w0 w1 (fun k => w.heap.size ≤ k ∧ k < w1.heap.size) b D q :=
  ⟨hk, fun _ hk => ⟨Nat.le_trans h0.size hk.1, hk.2⟩, h0.trans (hb.mono h0.size)⟩
end
/-- Two banks that share nothing. -/
structure TwoAt (w0 w : World) (Fa Fb : Nat → Prop) (a b : Nat) (DA DB : List Dev) (qa qb : Pw) : Prop where
  x : OneAt w0 w Fa a DA qa
  y : OneAt w0 w Fb b DB qb
  ap : ∀ k, Fa k → ¬ Fb k
def Two (w0 w : World) (a b : Nat) (P : List Dev → List Dev → Pw → Pw → Prop) : Prop := ∃ Fa Fb DA DB qa qb, TwoAt w0 w Fa Fb a b DA DB qa qb ∧ P DA DB qa qb
section
variable {w0 w w1 w2 : World} {Fa Fb : Nat → Prop} {a b : Nat} {DA DB D' : List Dev} {qa qb q' : Pw}
theorem TwoAt.below (h : TwoAt w0 w Fa Fb a b DA DB qa qb) (hb : Below w.heap.size w w1) : TwoAt w0 w1 Fa Fb a b DA DB qa qb := ⟨h.x.below hb, h.y.below hb, h.ap⟩
theorem TwoAt.turnA (h : TwoAt w0 w Fa Fb a b DA DB qa qb) (hk : Bk w1 (ext Fa w w1) a D' q') (ht : Turn Fa w w1) : TwoAt w0 w1 (ext Fa w w1) Fb a b D' DB q' qb :=
  ⟨h.x.turn hk ht, h.y.other ht (fun k hk => (h.x.f k hk).1) (fun k hb ha => h.ap k ha hb), fun k hk hb => by
    rcases hk with hk | hk
    · exact h.ap k hk hb
    · have := (h.y.f k hb).2; omega⟩
theorem TwoAt.turnB (h : TwoAt w0 w Fa Fb a b DA DB qa qb) (hk : Bk w1 (ext Fb w w1) b D' q') (ht : Turn Fb w w1) : TwoAt w0 w1 Fa (ext Fb w w1) a b DA D' qa q' :=
  ⟨h.x.other ht (fun k hk => (h.y.f k hk).1) (fun k ha hb => h.ap k ha hb), h.y.turn hk ht, fun k hk hb => by
    rcases hb with hb | hb
    · exact h.ap k hk hb
    · have := (h.x.f k hk).2; omega⟩
end

/-- Devices of four sectors. -/
def FourN (m : Nat) (D : List Dev) : Prop := D.length = m ∧ ∀ d ∈ D, ∃ p S, d = some (p, S) ∧ S.length = 4
theorem FourN.nil : FourN 0 [] := ⟨rfl, by simp⟩
theorem FourN.add {m : Nat} {D : List Dev} (h : FourN m D) (p : Nat) : FourN (m + 1) (D ++ [some (p, fresh (4 : Int).toNat)]) :=
  ⟨by simp [h.1], fun d hd => by
    rcases List.mem_append.1 hd with x | x
    · exact h.2 d x
    · rw [List.mem_singleton.1 x]; exact ⟨_, _, rfl, by simp [fresh]⟩⟩
theorem FourN.put {m : Nat} {D : List Dev} (h : FourN m D) {i : Int} {S' : List Sec} (h0 : lookC D i = 0) (hS : S'.length = (secsOf D i).length) : FourN m (putDev D i S') := by
  obtain ⟨k, p, S, rfl, hk⟩ := lookC_zero h0
  rw [putDev_at hk]
  rw [secsOf_at hk] at hS
  refine ⟨by rw [List.length_set]; exact h.1, fun d hd => ?_⟩
  rcases List.mem_or_eq_of_mem_set hd with x | x
  · exact h.2 d x
  · subst x
    obtain ⟨p', S0, e, hl⟩ := h.2 _ (List.mem_of_getElem? hk)
    cases e
    exact ⟨p, S', rfl, by rw [hS, hl]⟩
theorem FourN.look {m : Nat} {D : List Dev} (h : FourN m D) (i : Int) : lookC D i = if 0 ≤ i ∧ i < (m : Int) then 0 else 23 := by
  unfold lookC
  rw [h.1]
  split
  · rename_i hi
    obtain ⟨d, hd⟩ : ∃ d, D[i.toNat]? = some d := ⟨D[i.toNat]'(by have := h.1; omega), by simp⟩
    obtain ⟨p, S, rfl, -⟩ := h.2 d (List.mem_of_getElem? hd)
    rw [hd]
  · rfl
theorem FourN.secs {m : Nat} {D : List Dev} (h : FourN m D) {i : Int} (h0 : lookC D i = 0) : (secsOf D i).length = 4 := by
  obtain ⟨k, p, S, rfl, hk⟩ := lookC_zero h0
  rw [secsOf_at hk]
  obtain ⟨p', S0, e, hl⟩ := h.2 _ (List.mem_of_getElem? hk)
  cases e
  exact hl
theorem FourN.at_ {m : Nat} {D : List Dev} (h : FourN m D) {k : Nat} (hk : k < m) : ∃ p S, D[k]? = some (some (p, S)) ∧ S.length = 4 := by
  obtain ⟨d, hd⟩ : ∃ d, D[k]? = some d := ⟨D[k]'(by have := h.1; omega), by simp⟩
  obtain ⟨p, S, rfl, hl⟩ := h.2 d (List.mem_of_getElem? hd)
  exact ⟨p, S, hd, hl⟩
theorem wErr_four {S : List Sec} (h : S.length = 4) (s : Int) (d : List Nat) : wErr S s d = if 0 ≤ s ∧ s < 4 then (if d.length = 128 then 0 else 11) else 20 := by
  unfold wErr hasB
  rw [h]
  by_cases h1 : 0 ≤ s ∧ s < 4
  · rw [if_pos h1, if_pos (by simpa using h1)]
  · rw [if_neg h1, if_neg (by simpa using h1)]
theorem FourN.bw {m : Nat} {D : List Dev} (h : FourN m D) (q : Pw) (i s : Int) (d : List Nat) : FourN m (bwD D q i s d) := by
  unfold bwD
  split
  · rename_i hc
    have hl : lookC D i = 0 := by
      unfold bwC at hc
      split at hc
      · rename_i h0
        unfold lookP at h0
        split at h0
        · omega
        · exact h0
      · omega
    exact h.put hl (wSet_length _ _ _)
  · exact h
theorem FourN.fl1 {m : Nat} {D : List Dev} (h : FourN m D) (q : Pw) (i : Int) : FourN m (fl1D D q i) := by
  unfold fl1D
  split
  · rename_i hc
    have hl : lookC D i = 0 := by
      unfold fl1C at hc
      split at hc
      · rename_i h0
        unfold lookP at h0
        split at h0
        · omega
        · exact h0
      · omega
    exact h.put hl (by simp)
  · exact h
theorem WlB.mono {D : List Dev} {j k : Nat} (h : WlB D j) (hk : j ≤ k) : WlB D k := fun i p S hi s hs => Nat.le_trans (h i p S hi s hs) hk
theorem WlB.bw {D : List Dev} {j : Nat} (h : WlB D j) (q : Pw) (i s : Int) (d : List Nat) : WlB (bwD D q i s d) (j + 1) := by
  unfold bwD
  split
  · rename_i hc
    have hl : lookC D i = 0 := by
      unfold bwC at hc
      split at hc
      · rename_i h0
        unfold lookP at h0
        split at h0
        · omega
        · exact h0
      · omega
    obtain ⟨k, p, S, rfl, hk⟩ := lookC_zero hl
    refine (h.mono (Nat.le_succ j)).put (fun t ht => ?_)
    rw [secsOf_at hk] at ht
    obtain ⟨s0, hs0, -, hle⟩ := wSet_mem ht
    have := h k p S hk s0 hs0
    omega
  · exact h.mono (Nat.le_succ j)
theorem WlB.add {D : List Dev} {j : Nat} (h : WlB D j) (p n : Nat) : WlB (D ++ [some (p, fresh n)]) j := fun i p' S hi s hs => by
  by_cases hl : i < D.length
  · rw [List.getElem?_append_left hl] at hi; exact h i p' S hi s hs
  · rw [List.getElem?_append_right (by omega)] at hi
    cases hk : i - D.length with
    | zero =>
      rw [hk] at hi
      simp only [List.getElem?_cons_zero, Option.some.injEq, Prod.mk.injEq] at hi
      obtain ⟨rfl, rfl⟩ := hi
      rw [fresh_wait s hs]; exact Nat.zero_le _
    | succ m => rw [hk] at hi; simp at hi
theorem WlB.nil (j : Nat) : WlB [] j := fun i p S h => by simp at h
theorem addC_more {D : List Dev} {q : Pw} (hd : q.down = false) (hl : D.length < 8) : addC D q 4 = 0 := addC_four D q hd hl
end Go.Proofs.YtliboiajhhnajaaGreatDoor
