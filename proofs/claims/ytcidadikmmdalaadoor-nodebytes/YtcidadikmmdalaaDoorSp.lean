/- What the document says of nodes, as facts on lists. -/
import Derived.Test.YtcidadikmmdalaaDoorPr
namespace Go.Proofs.YtcidadikmmdalaaDoor
open Go.RowKit Go.Extern

/-- A key and a value in their ranges. -/
def fitP (p : En) : Prop := 0 ≤ p.1 ∧ p.1 ≤ 1099511627776 ∧ 1 ≤ p.2 ∧ p.2 ≤ 2305843009213693952
def fitB (k v : Int) : Bool := decide (0 ≤ k) && (decide (k ≤ 1099511627776) && (decide (1 ≤ v) && decide (v ≤ 2305843009213693952)))
theorem fitB_iff {k v : Int} : fitB k v = true ↔ fitP (k, v) := by simp [fitB, fitP]
theorem fitB_false {k v : Int} : fitB k v = false ↔ ¬ fitP (k, v) := by rw [← fitB_iff]; simp
theorem fitP.i64 {p : En} (h : fitP p) : enOk p := by unfold fitP at h; unfold enOk I64; omega
/-- All fit, and the keys rise. -/
def Ris (l : List En) : Prop := (∀ p ∈ l, fitP p) ∧ l.Pairwise (fun p q => p.1 < q.1)
def risB (l : List En) : Bool := l.all (fun p => fitB p.1 p.2) && decide (l.Pairwise (fun p q => p.1 < q.1))
theorem risB_iff {l : List En} : risB l = true ↔ Ris l := by
  unfold risB Ris
  rw [Bool.and_eq_true, List.all_eq_true, decide_eq_true_iff]
  exact ⟨fun h => ⟨fun p hp => fitB_iff.1 (h.1 p hp), h.2⟩, fun h => ⟨fun p hp => fitB_iff.2 (h.1 p hp), h.2⟩⟩
theorem risB_false {l : List En} : risB l = false ↔ ¬ Ris l := by rw [← risB_iff]; simp
theorem Ris.nil : Ris [] := ⟨by simp, by simp⟩
theorem Ris.sub {l m : List En} (h : Ris l) (hs : m.Sublist l) : Ris m := ⟨fun p hp => h.1 p (hs.subset hp), h.2.sublist hs⟩
theorem Ris.take {l : List En} (h : Ris l) (j : Nat) : Ris (l.take j) := h.sub (List.take_sublist _ _)
theorem Ris.drop {l : List En} (h : Ris l) (j : Nat) : Ris (l.drop j) := h.sub (List.drop_sublist _ _)
theorem Ris.at_lt {l : List En} (h : Ris l) {i j : Nat} {p q : En} (hi : l[i]? = some p) (hj : l[j]? = some q) (hij : i < j) : p.1 < q.1 := by
  obtain ⟨h1, rfl⟩ := List.getElem?_eq_some_iff.1 hi
  obtain ⟨h2, rfl⟩ := List.getElem?_eq_some_iff.1 hj
  exact List.pairwise_iff_getElem.1 h.2 i j h1 h2 hij
theorem ris_append {a b : List En} : Ris (a ++ b) ↔ Ris a ∧ Ris b ∧ ∀ p ∈ a, ∀ q ∈ b, p.1 < q.1 := by
  unfold Ris
  rw [List.pairwise_append]
  constructor
  · rintro ⟨h1, h2, h3, h4⟩
    exact ⟨⟨fun p hp => h1 p (by simp [hp]), h2⟩, ⟨fun p hp => h1 p (by simp [hp]), h3⟩, h4⟩
  · rintro ⟨⟨h1, h2⟩, ⟨h3, h4⟩, h5⟩
    refine ⟨fun p hp => ?_, h2, h4, h5⟩
    rcases List.mem_append.1 hp with h | h
    · exact h1 p h
    · exact h3 p h
theorem ris_one {p : En} : Ris [p] ↔ fitP p := by simp [Ris]
theorem ris_snoc {l : List En} {j : Nat} {p : En} (hj : l[j]? = some p) : Ris (l.take (j + 1)) ↔ Ris (l.take j) ∧ fitP p ∧ (∀ q, 0 < j → l[j - 1]? = some q → q.1 < p.1) := by
  rw [take_snoc hj, ris_append, ris_one]
  have hjl : j < l.length := (List.getElem?_eq_some_iff.1 hj).1
  constructor
  · rintro ⟨h1, h2, h3⟩
    refine ⟨h1, h2, fun q h0 hq => h3 q ?_ p (by simp)⟩
    have : (l.take j)[j - 1]? = some q := by rw [List.getElem?_take]; simp [show j - 1 < j by omega, hq]
    exact List.mem_of_getElem? this
  · rintro ⟨h1, h2, h3⟩
    refine ⟨h1, h2, fun x hx q hq => ?_⟩
    obtain rfl : q = p := by simpa using hq
    obtain ⟨i, hi⟩ := List.mem_iff_getElem?.1 hx
    have hil : i < j := by
      have := (List.getElem?_eq_some_iff.1 hi).1
      simp at this; omega
    obtain ⟨r, hr⟩ : ∃ r, l[j - 1]? = some r := ⟨l[j - 1], by simp [show j - 1 < l.length by omega]⟩
    have h4 := h3 r (by omega) hr
    by_cases he : i = j - 1
    · have : (l.take j)[j - 1]? = some r := by rw [List.getElem?_take]; simp [show j - 1 < j by omega, hr]
      rw [he, this] at hi
      obtain rfl : r = x := by simpa using hi
      exact h4
    · have : (l.take j)[j - 1]? = some r := by rw [List.getElem?_take]; simp [show j - 1 < j by omega, hr]
      have := h1.at_lt hi this (by omega)
      omega

/-- A right node. -/
structure Rt (L : Int) (K V : List Int) : Prop where
  lev : 0 ≤ L ∧ L ≤ 20
  pos : 1 ≤ K.length
  few : K.length ≤ 7
  same : V.length = K.length
  ris : Ris (K.zip V)
def rtB (L : Int) (K V : List Int) : Bool := decide (0 ≤ L ∧ L ≤ 20) && (decide (1 ≤ K.length) && (decide (K.length ≤ 7) && (decide (V.length = K.length) && risB (K.zip V))))
theorem rtB_iff {L : Int} {K V : List Int} : rtB L K V = true ↔ Rt L K V := by
  unfold rtB
  rw [Bool.and_eq_true, Bool.and_eq_true, Bool.and_eq_true, Bool.and_eq_true, decide_eq_true_iff, decide_eq_true_iff, decide_eq_true_iff, decide_eq_true_iff, risB_iff]
  exact ⟨fun h => ⟨h.1, h.2.1, h.2.2.1, h.2.2.2.1, h.2.2.2.2⟩, fun h => ⟨h.lev, h.pos, h.few, h.same, h.ris⟩⟩
theorem rtB_false {L : Int} {K V : List Int} : rtB L K V = false ↔ ¬ Rt L K V := by rw [← rtB_iff]; simp
theorem zip_fst {K V : List Int} (h : V.length = K.length) : (K.zip V).map Prod.fst = K := by rw [List.map_fst_zip]; omega
theorem zip_snd {K V : List Int} (h : V.length = K.length) : (K.zip V).map Prod.snd = V := by rw [List.map_snd_zip]; omega
theorem zip_maps (l : List En) : (l.map Prod.fst).zip (l.map Prod.snd) = l := by
  induction l with
  | nil => rfl
  | cons p l ih => simp [ih]
theorem zip_len {K V : List Int} (h : V.length = K.length) : (K.zip V).length = K.length := by simp [h]
theorem Rt.len {L : Int} {K V : List Int} (h : Rt L K V) : (K.zip V).length = K.length := zip_len h.same
end Go.Proofs.YtcidadikmmdalaaDoor
