/- BankCounts: what the two banks have. -/
import Derived.Test.YtliboiajhhnajaaReg
namespace Go.Proofs.Ytliboiajhhnajaa
open Go.RowKit Go.Extern

/-- The power of a bank that was armed with 'n', behind 'N' writes and flushes that it was asked for. -/
def ctB (n N : Nat) : Pw := if N ≤ n then ⟨(n : Int) - N, false, N⟩ else ⟨0, true, n⟩
def ctA (N : Nat) : Pw := ⟨-1, false, N⟩
def okW (i s : Int) (d : List Nat) : Nat := if 0 ≤ i ∧ i < 3 ∧ 0 ≤ s ∧ s < 4 ∧ d.length = 128 then 1 else 0
def okF (i : Int) : Nat := if 0 ≤ i ∧ i < 3 then 1 else 0
theorem okW_le (i s : Int) (d : List Nat) : okW i s d ≤ 1 := by unfold okW; split <;> omega
theorem okF_le (i : Int) : okF i ≤ 1 := by unfold okF; split <;> omega
theorem spent_ctA (N : Nat) : spent (ctA N) = ctA (N + 1) := by simp [spent, ctA]
theorem spent_ctB {n N : Nat} (h : N ≤ n) : spent (ctB n N) = ctB n (N + 1) := by
  unfold ctB
  rw [if_pos h]
  by_cases e : N = n
  · subst e
    rw [if_neg (by omega)]
    simp [spent]
  · rw [if_pos (by omega)]
    have h1 : ¬ ((n : Int) - N = 0) := by omega
    have h2 : (0 : Int) < (n : Int) - N := by omega
    simp only [spent, h1, h2, if_true, if_false]
    congr 1
    · omega
theorem FourN.wok {D : List Dev} (h : FourN 3 D) {q : Pw} (hd : q.down = false) (i s : Int) (d : List Nat) : (lookP D q i = 0 ∧ wErr (secsOf D i) s d = 0) ↔ okW i s d = 1 := by
  unfold lookP okW
  rw [hd]
  simp only [Bool.false_eq_true, if_false]
  constructor
  · rintro ⟨h1, h2⟩
    rw [wErr_four (h.secs h1)] at h2
    rw [h.look] at h1
    split at h1
    · split at h2
      · split at h2
        · rw [if_pos (by omega)]
        · omega
      · omega
    · omega
  · intro h1
    split at h1
    · rename_i hx
      have h0 : lookC D i = 0 := by rw [h.look, if_pos (by omega)]
      refine ⟨h0, ?_⟩
      rw [wErr_four (h.secs h0), if_pos (by omega), if_pos hx.2.2.2.2]
    · omega
theorem FourN.fok {D : List Dev} (h : FourN 3 D) {q : Pw} (hd : q.down = false) (i : Int) : lookP D q i = 0 ↔ okF i = 1 := by
  unfold lookP okF
  rw [hd]
  simp only [Bool.false_eq_true, if_false]
  rw [h.look]
  constructor
  · intro h1
    split at h1
    · rw [if_pos (by omega)]
    · omega
  · intro h1
    split at h1
    · rw [if_pos (by omega)]
    · omega
theorem bwQ_ctA {D : List Dev} (h : FourN 3 D) (N : Nat) (i s : Int) (d : List Nat) : bwQ D (ctA N) i s d = ctA (N + okW i s d) := by
  unfold bwQ
  by_cases hx : okW i s d = 1
  · rw [if_pos ((h.wok (q := ctA N) rfl i s d).2 hx), hx, spent_ctA]
  · rw [if_neg (fun y => hx ((h.wok (q := ctA N) rfl i s d).1 y)), show okW i s d = 0 by have := okW_le i s d; omega]; rfl
theorem bwQ_ctB {D : List Dev} (h : FourN 3 D) (n N : Nat) (i s : Int) (d : List Nat) : bwQ D (ctB n N) i s d = ctB n (N + okW i s d) := by
  by_cases hn : N ≤ n
  · have hdn : (ctB n N).down = false := by unfold ctB; rw [if_pos hn]
    unfold bwQ
    by_cases hx : okW i s d = 1
    · rw [if_pos ((h.wok hdn i s d).2 hx), hx, spent_ctB hn]
    · rw [if_neg (fun y => hx ((h.wok hdn i s d).1 y)), show okW i s d = 0 by have := okW_le i s d; omega]; rfl
  · have e : ∀ k, ctB n (N + k) = ctB n N := fun k => by unfold ctB; rw [if_neg hn, if_neg (by omega)]
    rw [e]
    unfold bwQ
    rw [if_neg]
    rintro ⟨h1, -⟩
    unfold lookP ctB at h1
    rw [if_neg hn] at h1
    simp at h1
theorem fl1Q_ctA {D : List Dev} (h : FourN 3 D) (N : Nat) (i : Int) : fl1Q D (ctA N) i = ctA (N + okF i) := by
  unfold fl1Q
  by_cases hx : okF i = 1
  · rw [if_pos ((h.fok (q := ctA N) rfl i).2 hx), hx, spent_ctA]
  · rw [if_neg (fun y => hx ((h.fok (q := ctA N) rfl i).1 y)), show okF i = 0 by have := okF_le i; omega]; rfl
theorem fl1Q_ctB {D : List Dev} (h : FourN 3 D) (n N : Nat) (i : Int) : fl1Q D (ctB n N) i = ctB n (N + okF i) := by
  by_cases hn : N ≤ n
  · have hdn : (ctB n N).down = false := by unfold ctB; rw [if_pos hn]
    unfold fl1Q
    by_cases hx : okF i = 1
    · rw [if_pos ((h.fok hdn i).2 hx), hx, spent_ctB hn]
    · rw [if_neg (fun y => hx ((h.fok hdn i).1 y)), show okF i = 0 by have := okF_le i; omega]; rfl
  · have e : ∀ k, ctB n (N + k) = ctB n N := fun k => by unfold ctB; rw [if_neg hn, if_neg (by omega)]
    rw [e]
    unfold fl1Q
    rw [if_neg]
    intro h1
    unfold lookP ctB at h1
    rw [if_neg hn] at h1
    simp at h1
theorem small_ctA {N : Nat} : SmallN (ctA N) (N : Int) := ⟨by unfold I64 ctA; simp, by simp [ctA], by simp [ctA]⟩
theorem small_ctB {n N : Nat} (hn : n ≤ 200) : SmallN (ctB n N) ((n + N : Nat) : Int) := by
  unfold ctB
  split
  · exact ⟨by unfold I64; simp; omega, by simp, by simp; omega⟩
  · exact ⟨by unfold I64; simp, by simp, by simp; omega⟩

/-- The two banks behind so many rounds. -/
def CtP (n m ja jb NA NB : Nat) (DA DB : List Dev) (qa qb : Pw) : Prop := FourN m DA ∧ FourN m DB ∧ WlB DA ja ∧ WlB DB jb ∧ qa = ctA NA ∧ qb = ctB n NB ∧ NA ≤ ja ∧ NB ≤ jb
/-- They before the one is armed. -/
def CtQ (ma mb : Nat) (DA DB : List Dev) (qa qb : Pw) : Prop := FourN ma DA ∧ FourN mb DB ∧ WlB DA 0 ∧ WlB DB 0 ∧ qa = ctA 0 ∧ qb = ctA 0
theorem Two.below {w0 w w1 : World} {a b : Nat} {P : List Dev → List Dev → Pw → Pw → Prop} (h : Two w0 w a b P) (hb : Below w.heap.size w w1) : Two w0 w1 a b P := by
  obtain ⟨Fa, Fb, DA, DB, qa, qb, h1, h2⟩ := h
  exact ⟨Fa, Fb, DA, DB, qa, qb, h1.below hb, h2⟩
theorem Two.bel {w0 w : World} {a b : Nat} {P : List Dev → List Dev → Pw → Pw → Prop} (h : Two w0 w a b P) : Below w0.heap.size w0 w := by
  obtain ⟨Fa, Fb, DA, DB, qa, qb, h1, h2⟩ := h
  exact h1.x.bel
theorem Two.mono {w0 w : World} {a b : Nat} {P P' : List Dev → List Dev → Pw → Pw → Prop} (h : Two w0 w a b P) (hp : ∀ DA DB qa qb, P DA DB qa qb → P' DA DB qa qb) : Two w0 w a b P' := by
  obtain ⟨Fa, Fb, DA, DB, qa, qb, h1, h2⟩ := h
  exact ⟨Fa, Fb, DA, DB, qa, qb, h1, hp _ _ _ _ h2⟩
end Go.Proofs.Ytliboiajhhnajaa
