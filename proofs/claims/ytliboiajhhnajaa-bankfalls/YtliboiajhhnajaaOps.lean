/- Scripts in memory; facts on sectors that the statements share. -/
import Derived.Test.YtliboiajhhnajaaFr
namespace Go.Proofs.Ytliboiajhhnajaa
open Go.RowKit Go.Extern

/-- The value 'v' is, in the world 'w', a slice of the numbers 'ns'. -/
def Ints (w : World) (v : Value) (ns : List Int) : Prop :=
  ∃ ao cap g off, v = .slice ao ns.length cap ∧ (0 < ns.length → ao = some ⟨g, off, none⟩) ∧ (∀ (i : Nat) n, ns[i]? = some n → w.cell? ⟨g, off + i, none⟩ = some (.int .i64 n)) ∧ (∀ n ∈ ns, I64 n) ∧ ns.length ≤ 140737488355328 ∧ (ao = none → cap = 0) ∧ ns.length ≤ cap ∧ cap ≤ maxLen
theorem Ints.below {w w' : World} (hb : Below w.heap.size w w') {v : Value} {ns : List Int} (h : Ints w v ns) : Ints w' v ns := by
  obtain ⟨ao, cap, g, off, h1, h2, h3, h4⟩ := h
  exact ⟨ao, cap, g, off, h1, h2, fun i q hq => by rw [hb.cell (cell_lt (h3 i q hq))]; exact h3 i q hq, h4⟩

/-- One call of a script. -/
structure OpR where
  kind : Int
  dev : Int
  sec : Int
  n : Int
  dv : Value
  d : List Nat
  pv : Value
  ps : List Int
/-- One call as it lies in memory. -/
structure OpAt (w : World) (g off : Nat) (o : OpR) : Prop where
  c0 : w.cell? ⟨g, off, none⟩ = some (.int .i64 o.kind)
  c1 : w.cell? ⟨g, off + 1, none⟩ = some (.int .i64 o.dev)
  c2 : w.cell? ⟨g, off + 2, none⟩ = some (.int .i64 o.sec)
  c3 : w.cell? ⟨g, off + 3, none⟩ = some (.int .i64 o.n)
  c4 : w.cell? ⟨g, off + 4, none⟩ = some o.dv
  c5 : w.cell? ⟨g, off + 5, none⟩ = some o.pv
  hi : I64 o.dev
  hs : I64 o.sec
  hn : I64 o.n
  hd : Bytes w o.dv o.d
  hp : Ints w o.pv o.ps
theorem OpAt.below {w w' : World} (hb : Below w.heap.size w w') {g off : Nat} {o : OpR} (h : OpAt w g off o) : OpAt w' g off o :=
  ⟨by rw [hb.cell (cell_lt h.c0)]; exact h.c0, by rw [hb.cell (cell_lt h.c1)]; exact h.c1, by rw [hb.cell (cell_lt h.c2)]; exact h.c2, by rw [hb.cell (cell_lt h.c3)]; exact h.c3, by rw [hb.cell (cell_lt h.c4)]; exact h.c4, by rw [hb.cell (cell_lt h.c5)]; exact h.c5, h.hi, h.hs, h.hn, h.hd.below hb, h.hp.below hb⟩
/-- A script in memory. -/
def Script (w : World) (v : Value) (l : List OpR) : Prop :=
  ∃ ao cap g off, v = .slice ao l.length cap ∧ (0 < l.length → ao = some ⟨g, off, none⟩) ∧ ∀ (j : Nat) o, l[j]? = some o → OpAt w g (off + j * 6) o
theorem Script.below {w w' : World} (hb : Below w.heap.size w w') {v : Value} {l : List OpR} (h : Script w v l) : Script w' v l := by
  obtain ⟨ao, cap, g, off, h1, h2, h3⟩ := h
  exact ⟨ao, cap, g, off, h1, h2, fun j o ho => (h3 j o ho).below hb⟩
/-- Bytes below 'B' lie in no block from 'B' on. -/
theorem Bytes.block {w : World} {v : Value} {bs : List Nat} (h : Bytes w v bs) (hp : 0 < bs.length) : ∀ k, v.ownBlock = some k → k < w.heap.size := by
  obtain ⟨ao, cap, g, off, rfl, h2, h3, -⟩ := h
  intro k hk
  obtain rfl := h2 hp
  simp only [Value.ownBlock, Option.some.injEq] at hk
  subst hk
  exact cell_lt (h3 0 bs[0] (by simp [hp]))

theorem Sec.top_snoc (s : Sec) (d : List Nat) : ({ s with wait := s.wait ++ [d] } : Sec).top = d := by
  unfold Sec.top Sec.pick
  simp
  omega
theorem Sec.top_nil {s : Sec} (h : s.wait = []) : s.top = s.dur := by unfold Sec.top Sec.pick; simp [h]
theorem Sec.top_bad (s : Sec) (on : Bool) : ({ s with bad := on } : Sec).top = s.top := rfl
theorem hasB_nat {S : List Sec} {i : Nat} (h : i < S.length) : hasB S (i : Int) = true := by simp [hasB, h]
theorem hasB_at {S : List Sec} {i : Int} (h : hasB S i = true) : ∃ k s, i = ((k : Nat) : Int) ∧ S[k]? = some s := by
  have hb : 0 ≤ i ∧ i < (S.length : Int) := by simpa [hasB] using h
  exact ⟨i.toNat, S[i.toNat]'(by omega), by omega, by simp⟩
/-- What a write makes of the sectors. -/
theorem wSet_at {S : List Sec} {i : Int} {d : List Nat} (hd : d.length = 128) {k : Nat} {s' : Sec} (h : (wSet S i d)[k]? = some s') : ∃ s, S[k]? = some s ∧ s' = if i = (k : Int) then { s with wait := s.wait ++ [d] } else s := by
  unfold wSet at h
  by_cases hh : hasB S i = true
  · rw [if_pos ⟨hh, hd⟩] at h
    obtain ⟨j, s, rfl, hs⟩ := hasB_at hh
    rw [Int.toNat_natCast, hs] at h
    simp only at h
    by_cases e : j = k
    · subst e
      rw [List.getElem?_set_self (List.getElem?_eq_some_iff.1 hs).1] at h
      exact ⟨s, hs, by rw [if_pos rfl]; exact (Option.some.inj h).symm⟩
    · rw [List.getElem?_set_ne e] at h
      exact ⟨s', h, by rw [if_neg (by omega)]⟩
  · rw [if_neg (fun hx => hh hx.1)] at h
    refine ⟨s', h, ?_⟩
    rw [if_neg]
    intro e
    exact hh (by rw [e]; exact hasB_nat (List.getElem?_eq_some_iff.1 h).1)
theorem wSet_length (S : List Sec) (i : Int) (d : List Nat) : (wSet S i d).length = S.length := by
  unfold wSet
  split
  · split
    · rw [List.length_set]
    · rfl
  · rfl
theorem bSet_no {S : List Sec} {i : Int} {on : Bool} (h : ¬ hasB S i = true) : bSet S i on = S := by unfold bSet; split <;> simp [h]
theorem bSet_at {S : List Sec} {i : Int} {on : Bool} {k : Nat} {s' : Sec} (h : (bSet S i on)[k]? = some s') : ∃ s, S[k]? = some s ∧ s' = if i = (k : Int) then { s with bad := on } else s := by
  by_cases hh : hasB S i = true
  · unfold bSet at h
    obtain ⟨j, s, rfl, hs⟩ := hasB_at hh
    rw [Int.toNat_natCast, hs] at h
    simp only [hh, if_true] at h
    by_cases e : j = k
    · subst e
      rw [List.getElem?_set_self (List.getElem?_eq_some_iff.1 hs).1] at h
      exact ⟨s, hs, by rw [if_pos rfl]; exact (Option.some.inj h).symm⟩
    · rw [List.getElem?_set_ne e] at h
      exact ⟨s', h, by rw [if_neg (by omega)]⟩
  · rw [bSet_no hh] at h
    refine ⟨s', h, ?_⟩
    rw [if_neg]
    intro e
    exact hh (by rw [e]; exact hasB_nat (List.getElem?_eq_some_iff.1 h).1)
theorem bSet_length (S : List Sec) (i : Int) (on : Bool) : (bSet S i on).length = S.length := by
  unfold bSet
  split
  · split
    · rw [List.length_set]
    · rfl
  · rfl
theorem load_int {w : World} {p : Addr} {v : Value} (h : w.cell? p = some v) : (Instr.loadAt 3 (.pointer (some p))).run Try.prog w = .ok v w := by go_simp
theorem load_bytes {w : World} {p : Addr} {v : Value} (h : w.cell? p = some v) : (Instr.loadAt 31 (.pointer (some p))).run Try.prog w = .ok v w := by go_simp
theorem get_of_lt {S : List Sec} {i : Nat} (h : i < S.length) : ∃ s, S[i]? = some s := ⟨S[i], by simp [h]⟩
end Go.Proofs.Ytliboiajhhnajaa
