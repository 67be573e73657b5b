/- What the document says of a reverse map, as functions of lists. -/
import Derived.Test.YtjopdejgijojmaaKy
namespace Go.Proofs.Ytjopdejgijojmaa
open Go.RowKit Go.Extern

/-- An owner and what it names. -/
abbrev Ref := Own × Int
/-- An owner stands ahead. -/
def ltO (a b : Own) : Bool := decide (a.1 < b.1 ∨ (a.1 = b.1 ∧ a.2 < b.2))
theorem ltO_iff {a b : Own} : ltO a b = true ↔ a.1 < b.1 ∨ (a.1 = b.1 ∧ a.2 < b.2) := by simp [ltO]
theorem ltO_irrefl (a : Own) : ltO a a = false := by simp [ltO]
theorem ltO_trans {a b c : Own} (h1 : ltO a b = true) (h2 : ltO b c = true) : ltO a c = true := by rw [ltO_iff] at *; omega
theorem ltO_asym {a b : Own} (h1 : ltO a b = true) : ltO b a = false := by
  cases h : ltO b a with
  | false => rfl
  | true => rw [ltO_iff] at *; omega
theorem ltO_ne {a b : Own} (h : ltO a b = true) : a ≠ b := fun e => by rw [e, ltO_irrefl] at h; cases h
theorem own_ext {a b : Own} (h1 : a.1 = b.1) (h2 : a.2 = b.2) : a = b := Prod.ext h1 h2
theorem ltO_total {a b : Own} (h : a ≠ b) : ltO a b = true ∨ ltO b a = true := by
  rw [ltO_iff, ltO_iff]
  by_cases h1 : a.1 = b.1
  · have h2 : a.2 ≠ b.2 := fun e => h (own_ext h1 e)
    omega
  · omega
theorem ltO_false {a b : Own} (h : ltO a b = false) (hne : a ≠ b) : ltO b a = true := by
  rcases ltO_total hne with e | e
  · rw [e] at h; cases h
  · exact e

/-- Owners in order; pairs in the order of their owners. -/
def SrtO (l : List Own) : Prop := l.Pairwise (fun a b => ltO a b = true)
def Srt (l : List Ref) : Prop := l.Pairwise (fun p q => ltO p.1 q.1 = true)
theorem SrtO.nodup {l : List Own} (h : SrtO l) : l.Nodup := by
  rw [List.nodup_iff_pairwise_ne]; exact h.imp (fun h => ltO_ne h)
theorem SrtO.ext {l l' : List Own} (h : SrtO l) (h' : SrtO l') (hm : ∀ o, o ∈ l ↔ o ∈ l') : l = l' :=
  List.Perm.eq_of_pairwise (fun a b _ _ h1 h2 => by rw [ltO_asym h1] at h2; cases h2) h h' ((List.perm_ext_iff_of_nodup h.nodup h'.nodup).2 hm)
theorem Srt.own {l : List Ref} (h : Srt l) : SrtO (l.map Prod.fst) := List.pairwise_map.2 h
theorem Srt.nodup {l : List Ref} (h : Srt l) : l.Nodup := by
  rw [List.nodup_iff_pairwise_ne]; exact h.imp (fun h e => ltO_ne h (congrArg Prod.fst e))
theorem Srt.keys {l : List Ref} (h : Srt l) : (l.map Prod.fst).Nodup := h.own.nodup
theorem Srt.ext {l l' : List Ref} (h : Srt l) (h' : Srt l') (hm : ∀ r, r ∈ l ↔ r ∈ l') : l = l' :=
  List.Perm.eq_of_pairwise (fun a b _ _ h1 h2 => by rw [ltO_asym h1] at h2; cases h2) h h' ((List.perm_ext_iff_of_nodup h.nodup h'.nodup).2 hm)

/-- What may be in a reverse map. -/
structure Okl (l : List Ref) : Prop where
  srt : Srt l
  pos : ∀ r ∈ l, 0 < r.2
  own : ∀ r ∈ l, OkO r.1
  rng : ∀ r ∈ l, I64 r.2
theorem Okl.nil : Okl [] := ⟨List.Pairwise.nil, by simp, by simp, by simp⟩

/-- What an owner names. -/
def ofS (l : List Ref) (o : Own) : Int := ((l.find? (fun r => decide (r.1 = o))).map (·.2)).getD 0
/-- The list behind a Put. -/
def putS (l : List Ref) (o : Own) (a : Int) : List Ref := l.filter (fun r => ltO r.1 o) ++ ((if a = 0 then [] else [(o, a)]) ++ l.filter (fun r => ltO o r.1))
/-- Who names an address; the owners of a volume. -/
def byS (l : List Ref) (a : Int) : List Own := (l.filter (fun r => decide (r.2 = a))).map Prod.fst
def volS (l : List Ref) (v : Int) : List Own := (l.filter (fun r => decide (r.1.1 = v))).map Prod.fst

theorem ofS_mem {l : List Ref} (h : Srt l) {o : Own} {a : Int} (hm : (o, a) ∈ l) : ofS l o = a := by
  unfold ofS
  cases hf : l.find? (fun r => decide (r.1 = o)) with
  | none => have := List.find?_eq_none.1 hf _ hm; simp at this
  | some r =>
    have h1 := List.mem_of_find?_eq_some hf
    have h2 : r.1 = o := by have := List.find?_some hf; simpa using this
    have h3 := mem_key_unique h.keys (a := o) (c := r.2) (d := a) (by rw [← h2]; exact h1) hm
    simp [h3]
theorem ofS_out {l : List Ref} {o : Own} (hm : ∀ r ∈ l, r.1 ≠ o) : ofS l o = 0 := by
  unfold ofS
  rw [List.find?_eq_none.2 (fun r hr => by simpa using hm r hr)]; rfl
theorem ofS_cases {l : List Ref} (h : Srt l) (o : Own) : (o, ofS l o) ∈ l ∨ ((∀ r ∈ l, r.1 ≠ o) ∧ ofS l o = 0) := by
  by_cases hm : ∃ r ∈ l, r.1 = o
  · obtain ⟨r, hr, rfl⟩ := hm
    left
    rw [ofS_mem h (a := r.2) hr]; exact hr
  · right
    have : ∀ r ∈ l, r.1 ≠ o := fun r hr e => hm ⟨r, hr, e⟩
    exact ⟨this, ofS_out this⟩
theorem Okl.mem_iff {l : List Ref} (h : Okl l) {o : Own} {a : Int} : (o, a) ∈ l ↔ ofS l o = a ∧ a ≠ 0 := by
  constructor
  · intro hm
    refine ⟨ofS_mem h.srt hm, fun e => ?_⟩
    have := h.pos _ hm
    simp only at this; omega
  · rintro ⟨rfl, hne⟩
    rcases ofS_cases h.srt o with hm | ⟨_, h0⟩
    · exact hm
    · exact absurd h0 hne
theorem Okl.ext {l l' : List Ref} (h : Okl l) (h' : Okl l') (he : ∀ o, ofS l o = ofS l' o) : l = l' :=
  h.srt.ext h'.srt (fun r => by
    obtain ⟨o, a⟩ := r
    rw [h.mem_iff, h'.mem_iff, he])
theorem Okl.of_nonneg {l : List Ref} (h : Okl l) (o : Own) : 0 ≤ ofS l o := by
  rcases ofS_cases h.srt o with hm | ⟨_, h0⟩
  · have := h.pos _ hm; simp only at this; omega
  · omega
theorem Okl.of_rng {l : List Ref} (h : Okl l) (o : Own) : I64 (ofS l o) := by
  rcases ofS_cases h.srt o with hm | ⟨_, h0⟩
  · exact h.rng _ hm
  · rw [h0]; unfold I64; omega

theorem mem_putS {l : List Ref} {o : Own} {a : Int} {r : Ref} : r ∈ putS l o a ↔ (r ∈ l ∧ r.1 ≠ o) ∨ (r = (o, a) ∧ a ≠ 0) := by
  unfold putS
  simp only [List.mem_append, List.mem_filter]
  constructor
  · rintro (⟨h1, h2⟩ | h1 | ⟨h1, h2⟩)
    · exact Or.inl ⟨h1, ltO_ne h2⟩
    · split at h1
      · simp at h1
      · rename_i h0; exact Or.inr ⟨List.mem_singleton.1 h1, h0⟩
    · exact Or.inl ⟨h1, (ltO_ne h2).symm⟩
  · rintro (⟨h1, h2⟩ | ⟨h1, h2⟩)
    · rcases ltO_total h2 with e | e
      · exact Or.inl ⟨h1, e⟩
      · exact Or.inr (Or.inr ⟨h1, e⟩)
    · exact Or.inr (Or.inl (by rw [if_neg h2, h1]; simp))
theorem srt_putS {l : List Ref} (h : Srt l) (o : Own) (a : Int) : Srt (putS l o a) := by
  unfold Srt putS
  refine List.pairwise_append.2 ⟨h.filter _, List.pairwise_append.2 ⟨?_, h.filter _, ?_⟩, ?_⟩
  · split <;> simp
  · intro x hx y hy
    split at hx
    · simp at hx
    · rw [List.mem_singleton.1 hx]; exact (List.mem_filter.1 hy).2
  · intro x hx y hy
    have h1 := (List.mem_filter.1 hx).2
    rcases List.mem_append.1 hy with hy | hy
    · split at hy
      · simp at hy
      · rw [List.mem_singleton.1 hy]; exact h1
    · exact ltO_trans h1 (List.mem_filter.1 hy).2
theorem Okl.put {l : List Ref} (h : Okl l) {o : Own} {a : Int} (ho : OkO o) (ha : 0 ≤ a) (hr : I64 a) : Okl (putS l o a) := by
  refine ⟨srt_putS h.srt o a, fun r hm => ?_, fun r hm => ?_, fun r hm => ?_⟩ <;> rcases mem_putS.1 hm with ⟨h1, h2⟩ | ⟨rfl, h2⟩
  · exact h.pos r h1
  · simp only; omega
  · exact h.own r h1
  · exact ho
  · exact h.rng r h1
  · exact hr
theorem ofS_putS {l : List Ref} (h : Srt l) (o : Own) (a : Int) (o' : Own) : ofS (putS l o a) o' = if o' = o then a else ofS l o' := by
  have hs := srt_putS h o a
  by_cases e : o' = o
  · subst e
    rw [if_pos rfl]
    by_cases ha : a = 0
    · rw [ofS_out, ha]
      intro r hr
      rcases mem_putS.1 hr with ⟨_, h2⟩ | ⟨_, h2⟩
      · exact h2
      · exact absurd ha h2
    · exact ofS_mem hs (mem_putS.2 (Or.inr ⟨rfl, ha⟩))
  · rw [if_neg e]
    rcases ofS_cases h o' with hm | ⟨hm, h0⟩
    · exact ofS_mem hs (mem_putS.2 (Or.inl ⟨hm, e⟩))
    · rw [h0]
      refine ofS_out (fun r hr e1 => ?_)
      rcases mem_putS.1 hr with ⟨h1, h2⟩ | ⟨h1, h2⟩
      · exact hm r h1 e1
      · rw [h1] at e1; exact e e1.symm
theorem putS_same {l : List Ref} (h : Okl l) {o : Own} : putS l o (ofS l o) = l := by
  refine (srt_putS h.srt o _).ext h.srt (fun r => ?_)
  rw [mem_putS]
  obtain ⟨q, a⟩ := r
  constructor
  · rintro (⟨h1, _⟩ | ⟨h1, h2⟩)
    · exact h1
    · rw [h1]; exact h.mem_iff.2 ⟨rfl, h2⟩
  · intro hm
    by_cases e : q = o
    · subst e
      obtain ⟨h1, h2⟩ := h.mem_iff.1 hm
      exact Or.inr ⟨by rw [h1], by rw [h1]; exact h2⟩
    · exact Or.inl ⟨hm, e⟩
theorem perm_drop {l : List Ref} (h : Srt l) (o : Own) : (l.filter (fun p => decide (p.1 ≠ o))).Perm (putS l o 0) := by
  refine (List.perm_ext_iff_of_nodup (h.nodup.filter _) (srt_putS h o 0).nodup).2 (fun r => ?_)
  rw [mem_putS, List.mem_filter]; simp
theorem perm_put {l : List Ref} (h : Srt l) (o : Own) {a : Int} (ha : a ≠ 0) : ((o, a) :: l.filter (fun p => decide (p.1 ≠ o))).Perm (putS l o a) := by
  refine (List.perm_ext_iff_of_nodup (List.nodup_cons.2 ⟨fun hm => by simp at hm, h.nodup.filter _⟩) (srt_putS h o a).nodup).2 (fun r => ?_)
  rw [mem_putS, List.mem_cons, List.mem_filter]
  constructor
  · rintro (rfl | ⟨h1, h2⟩)
    · exact Or.inr ⟨rfl, ha⟩
    · exact Or.inl ⟨h1, by simpa using h2⟩
  · rintro (⟨h1, h2⟩ | ⟨h1, _⟩)
    · exact Or.inr ⟨h1, by simpa using h2⟩
    · exact Or.inl h1

theorem mem_byS {l : List Ref} {a : Int} {o : Own} : o ∈ byS l a ↔ (o, a) ∈ l := by
  unfold byS
  simp only [List.mem_map, List.mem_filter, decide_eq_true_eq]
  constructor
  · rintro ⟨r, ⟨h1, h2⟩, h3⟩
    rw [← h2, ← h3]; exact h1
  · intro h; exact ⟨_, ⟨h, rfl⟩, rfl⟩
theorem srt_byS {l : List Ref} (h : Srt l) (a : Int) : SrtO (byS l a) := Srt.own (List.Pairwise.filter _ h)
theorem mem_volS {l : List Ref} {v : Int} {o : Own} : o ∈ volS l v ↔ o.1 = v ∧ ∃ a, (o, a) ∈ l := by
  unfold volS
  simp only [List.mem_map, List.mem_filter, decide_eq_true_eq]
  constructor
  · rintro ⟨r, ⟨h1, h2⟩, h3⟩
    rw [← h3]; exact ⟨h2, r.2, h1⟩
  · rintro ⟨h1, a, h2⟩; exact ⟨_, ⟨h2, h1⟩, rfl⟩
theorem srt_volS {l : List Ref} (h : Srt l) (v : Int) : SrtO (volS l v) := Srt.own (List.Pairwise.filter _ h)
theorem byS_put_other {l : List Ref} (h : Srt l) {o : Own} {a b : Int} (h1 : b ≠ ofS l o) (h2 : b ≠ a) : byS (putS l o a) b = byS l b := by
  refine (srt_byS (srt_putS h o a) b).ext (srt_byS h b) (fun q => ?_)
  rw [mem_byS, mem_byS, mem_putS]
  constructor
  · rintro (⟨h3, _⟩ | ⟨h3, _⟩)
    · exact h3
    · exact absurd (Prod.mk.inj h3).2 h2
  · intro h3
    refine Or.inl ⟨h3, fun e => h1 ?_⟩
    simp only at e
    rw [← e]; exact (ofS_mem h h3).symm
end Go.Proofs.Ytjopdejgijojmaa
