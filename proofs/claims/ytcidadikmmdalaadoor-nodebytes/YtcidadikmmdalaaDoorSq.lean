/- Pairs put, dropped: as lists. -/
import Derived.Test.YtcidadikmmdalaaDoorBs
namespace Go.Proofs.YtcidadikmmdalaaDoor
open Go.RowKit Go.Extern

/-- The pairs below a key, and those above it. -/
def loS (l : List En) (k : Int) : List En := l.filter (fun p => decide (p.1 < k))
def hiS (l : List En) (k : Int) : List En := l.filter (fun p => decide (k < p.1))
/-- With this pair; without this key. -/
def putS (l : List En) (k v : Int) : List En := loS l k ++ (k, v) :: hiS l k
def dropS (l : List En) (k : Int) : List En := loS l k ++ hiS l k
theorem key_at {l : List En} {i : Nat} {x : Int} : (l.map Prod.fst)[i]? = some x ↔ ∃ v, l[i]? = some (x, v) := by
  rw [List.getElem?_map]
  constructor
  · intro h
    obtain ⟨⟨a, b⟩, h1, h2⟩ := Option.map_eq_some_iff.1 h
    exact ⟨b, by rw [h1, ← h2]⟩
  · rintro ⟨v, h⟩; rw [h]; rfl
theorem mem_take_at {l : List En} {m : Nat} {p : En} (h : p ∈ l.take m) : ∃ i, i < m ∧ l[i]? = some p := by
  obtain ⟨i, hi⟩ := List.mem_iff_getElem?.1 h
  rw [List.getElem?_take] at hi
  split at hi
  · exact ⟨i, by assumption, hi⟩
  · cases hi
theorem mem_drop_at {l : List En} {m : Nat} {p : En} (h : p ∈ l.drop m) : ∃ i, m ≤ i ∧ l[i]? = some p := by
  obtain ⟨i, hi⟩ := List.mem_iff_getElem?.1 h
  rw [List.getElem?_drop] at hi
  exact ⟨m + i, by omega, hi⟩
theorem Spot.lower {l : List En} {k : Int} {m : Nat} (h : Spot (l.map Prod.fst) k m) : ∀ p ∈ l.take m, p.1 < k := fun p hp => by
  obtain ⟨i, hi, hp⟩ := mem_take_at hp
  exact h.lo i p.1 (key_at.2 ⟨p.2, hp⟩) hi
theorem Spot.upper {l : List En} {k : Int} {m : Nat} (h : Spot (l.map Prod.fst) k m) : ∀ p ∈ l.drop m, k ≤ p.1 := fun p hp => by
  obtain ⟨i, hi, hp⟩ := mem_drop_at hp
  exact h.hi i p.1 (key_at.2 ⟨p.2, hp⟩) hi
theorem filter_all {l : List En} {f : En → Bool} (h : ∀ p ∈ l, f p = true) : l.filter f = l := List.filter_eq_self.2 h
theorem filter_none {l : List En} {f : En → Bool} (h : ∀ p ∈ l, f p = false) : l.filter f = [] := List.filter_eq_nil_iff.2 (fun p hp => by rw [h p hp]; simp)
theorem Spot.loS {l : List En} {k : Int} {m : Nat} (h : Spot (l.map Prod.fst) k m) : loS l k = l.take m := by
  unfold YtcidadikmmdalaaDoor.loS
  conv => lhs; rw [← List.take_append_drop m l]
  rw [List.filter_append, filter_all (fun p hp => by simpa using h.lower p hp), filter_none (fun p hp => by have := h.upper p hp; simp; omega), List.append_nil]
theorem Spot.hiS_out {l : List En} {k : Int} {m : Nat} (h : Spot (l.map Prod.fst) k m) (hk : k ∉ l.map Prod.fst) : hiS l k = l.drop m := by
  unfold hiS
  conv => lhs; rw [← List.take_append_drop m l]
  rw [List.filter_append, filter_none (fun p hp => by have := h.lower p hp; simp; omega), filter_all (fun p hp => ?_), List.nil_append]
  have h1 := h.upper p hp
  have h2 : p.1 ≠ k := fun e => hk (List.mem_map.2 ⟨p, List.mem_of_mem_drop hp, e⟩)
  simp; omega
theorem hiS_in {l : List En} (hr : Up (l.map Prod.fst)) {k : Int} {m : Nat} (hk : (l.map Prod.fst)[m]? = some k) : hiS l k = l.drop (m + 1) := by
  unfold hiS
  conv => lhs; rw [← List.take_append_drop (m + 1) l]
  rw [List.filter_append, filter_none (fun p hp => ?_), filter_all (fun p hp => ?_), List.nil_append]
  · obtain ⟨i, hi, hp⟩ := mem_drop_at hp
    have := hr.lt hk (key_at.2 ⟨p.2, hp⟩) hi
    simpa using this
  · obtain ⟨i, hi, hp⟩ := mem_take_at hp
    have := hr.le (key_at.2 ⟨p.2, hp⟩) hk (by omega)
    simp; omega
theorem putS_set {l : List En} (hr : Up (l.map Prod.fst)) {k v : Int} {m : Nat} (h : Spot (l.map Prod.fst) k m) (hk : (l.map Prod.fst)[m]? = some k) : l.set m (k, v) = putS l k v := by
  have hm : m < l.length := by have := (List.getElem?_eq_some_iff.1 hk).1; simpa using this
  unfold putS
  rw [h.loS, hiS_in hr hk, List.set_eq_take_append_cons_drop, if_pos hm]
theorem putS_ins {l : List En} {k v : Int} {m : Nat} (h : Spot (l.map Prod.fst) k m) (hk : k ∉ l.map Prod.fst) : l.take m ++ (k, v) :: l.drop m = putS l k v := by
  unfold putS; rw [h.loS, h.hiS_out hk]
theorem dropS_del {l : List En} (hr : Up (l.map Prod.fst)) {k : Int} {m : Nat} (h : Spot (l.map Prod.fst) k m) (hk : (l.map Prod.fst)[m]? = some k) : l.take m ++ l.drop (m + 1) = dropS l k := by
  unfold dropS; rw [h.loS, hiS_in hr hk]
theorem ris_loS {l : List En} (h : Ris l) (k : Int) : Ris (loS l k) := h.sub List.filter_sublist
theorem ris_hiS {l : List En} (h : Ris l) (k : Int) : Ris (hiS l k) := h.sub List.filter_sublist
theorem mem_loS {l : List En} {k : Int} {p : En} : p ∈ loS l k ↔ p ∈ l ∧ p.1 < k := by simp [loS]
theorem mem_hiS {l : List En} {k : Int} {p : En} : p ∈ hiS l k ↔ p ∈ l ∧ k < p.1 := by simp [hiS]
theorem ris_putS {l : List En} (h : Ris l) {k v : Int} (hf : fitP (k, v)) : Ris (putS l k v) := by
  unfold putS
  rw [show (k, v) :: hiS l k = [(k, v)] ++ hiS l k from rfl]
  refine ris_append.2 ⟨ris_loS h k, ris_append.2 ⟨ris_one.2 hf, ris_hiS h k, fun p hp q hq => ?_⟩, fun p hp q hq => ?_⟩
  · obtain rfl : p = (k, v) := by simpa using hp
    exact (mem_hiS.1 hq).2
  · have h1 := (mem_loS.1 hp).2
    rcases List.mem_append.1 hq with e | e
    · obtain rfl : q = (k, v) := by simpa using e
      exact h1
    · have := (mem_hiS.1 e).2; omega
theorem ris_dropS {l : List En} (h : Ris l) (k : Int) : Ris (dropS l k) :=
  ris_append.2 ⟨ris_loS h k, ris_hiS h k, fun p hp q hq => by have := (mem_loS.1 hp).2; have := (mem_hiS.1 hq).2; omega⟩
theorem Found.cases {K : List Int} {k at_ : Int} {ex : Bool} (h : Found K k at_ ex) : ∃ m : Nat, Spot K k m ∧ ((ex = true ∧ K[m]? = some k ∧ at_ = (m : Int)) ∨ (ex = false ∧ k ∉ K ∧ at_ = (m : Int) - 1)) := h
theorem Spot.unique {K : List Int} {k : Int} {m m' : Nat} (h : Spot K k m) (h' : Spot K k m') : m = m' := by
  rcases Nat.lt_trichotomy m m' with e | e | e
  · have hm : m < K.length := by have := h'.le; omega
    have h1 := h'.lo m K[m] (by simp [hm]) e
    have h2 := h.hi m K[m] (by simp [hm]) (Nat.le_refl _)
    omega
  · exact e
  · have hm : m' < K.length := by have := h.le; omega
    have h1 := h.lo m' K[m'] (by simp [hm]) e
    have h2 := h'.hi m' K[m'] (by simp [hm]) (Nat.le_refl _)
    omega
theorem len_put_in {l : List En} (hr : Up (l.map Prod.fst)) {k v : Int} {m : Nat} (h : Spot (l.map Prod.fst) k m) (hk : (l.map Prod.fst)[m]? = some k) : (putS l k v).length = l.length := by rw [← putS_set hr h hk]; simp
theorem len_put_out {l : List En} {k v : Int} {m : Nat} (h : Spot (l.map Prod.fst) k m) (hk : k ∉ l.map Prod.fst) : (putS l k v).length = l.length + 1 := by
  have := h.le; simp at this
  rw [← putS_ins h hk]; simp; omega
end Go.Proofs.YtcidadikmmdalaaDoor
