/- Readers, and one that writes all: what clashes. -/
import Derived.Test.YtjofbehmhdjohaaStt
namespace Go.Proofs.Ytjofbehmhdjohaa
open Go.RowKit Go.Extern

/-- An entry of one right span. -/
def One (x : En) : Prop := ∃ s : S, x.sps = [s] ∧ rightB s = true
def ReadOne (x : En) : Prop := ∃ s : S, x.sps = [s] ∧ rightB s = true ∧ s.wr = false
def AllW (x : En) : Prop := x.sps = [⟨0, 0, 0, true⟩]
theorem clE_one (s o : S) : clE [s] [o] = clashB s o := by simp [clE]
theorem cl_reads {x y : En} (hx : ReadOne x) (hy : ReadOne y) : clE x.sps y.sps = false := by
  obtain ⟨s, e1, -, h1⟩ := hx
  obtain ⟨o, e2, -, h2⟩ := hy
  rw [e1, e2, clE_one]
  simp [clashB, h1, h2]
theorem cl_all {x y : En} (hx : AllW x) (hy : One y) : clE x.sps y.sps = true := by
  obtain ⟨o, e2, h2⟩ := hy
  unfold AllW at hx
  rw [hx, e2, clE_one]
  have h3 : rightB ⟨0, 0, 0, true⟩ = true := by decide
  have h4 : meetsB ⟨0, 0, 0, true⟩ o = true := by unfold meetsB; rw [if_pos (.inl rfl)]
  simp [clashB, h3, h2, h4]
theorem cl_all' {x y : En} (hx : AllW x) (hy : One y) : clE y.sps x.sps = true := by rw [clE_comm]; exact cl_all hx hy
theorem ReadOne.one {x : En} (h : ReadOne x) : One x := by obtain ⟨s, h1, h2, -⟩ := h; exact ⟨s, h1, h2⟩
/-- Readers alone. -/
structure Rds (E : List En) (n : Nat) : Prop where
  len : E.length = n
  num : ∀ (p : Nat) x, E[p]? = some x → x.num = (p : Int) + 1
  rd : ∀ x ∈ E, ReadOne x
theorem Rds.nil : Rds [] 0 := ⟨rfl, by simp, by simp⟩
theorem Rds.snoc {E : List En} {n : Nat} (h : Rds E n) {x : En} (hn : x.num = (n : Int) + 1) (hr : ReadOne x) : Rds (E ++ [x]) (n + 1) := by
  refine ⟨by simp [h.len], fun p y hy => ?_, fun y hy => ?_⟩
  · rcases Nat.lt_or_ge p E.length with hp | hp
    · rw [List.getElem?_append_left hp] at hy; exact h.num p y hy
    · rw [List.getElem?_append_right hp] at hy
      have : p - E.length = 0 := by
        rcases Nat.eq_zero_or_pos (p - E.length) with e | e
        · exact e
        · rw [List.getElem?_eq_none (by simp; omega)] at hy; cases hy
      rw [this] at hy
      simp at hy
      subst hy
      have := h.len
      rw [hn]; omega
  · rcases List.mem_append.1 hy with hy | hy
    · exact h.rd y hy
    · simp at hy; subst hy; exact hr
theorem last_at {E : List En} (x : En) : (E ++ [x])[E.length]? = some x := by simp
theorem free_last {E : List En} {x : En} (h : ∀ e ∈ E, clE x.sps e.sps = false) : freeB (E ++ [x]) x E.length = true := by
  unfold freeB
  rw [List.take_append_of_le_length (by simp), List.take_length]
  rw [List.any_eq_false.2 (fun e he => by simp [h e he])]
  rfl
theorem not_free {E : List En} {x y : En} {p : Nat} (hy : y ∈ E.take p) (h : clE x.sps y.sps = true) : freeB E x p = false := by
  unfold freeB
  rw [List.any_eq_true.2 ⟨y, hy, h⟩]
  rfl
theorem ahead_all {E : List En} {x : En} (h : ∀ e ∈ E, clE e.sps x.sps = true) : aheadS (E ++ [x]) E.length x = E.map En.num := by
  unfold aheadS
  rw [List.take_append_of_le_length (by simp), List.take_length, List.filter_eq_self.2 (fun e he => h e he)]
/-- One that writes all stands at a place, readers or nothing ahead of it, others behind it. -/
structure Wrs (E : List En) (wx : En) (R : List En) : Prop where
  rd : ∀ x ∈ E, ReadOne x
  all : AllW wx
  one : ∀ x ∈ R, One x
theorem rdyN_writer {wx : En} {R : List En} (ha : AllW wx) (ho : ∀ x ∈ R, One x) : ∀ j, j ≤ R.length → rdyN (wx :: R) (j + 1) = [wx.num]
  | 0, _ => by simp [rdyN, freeB]
  | j + 1, h => by
    have ih := rdyN_writer ha ho j (by omega)
    obtain ⟨q, hq⟩ : ∃ q, R[j]? = some q := ⟨R[j], by rw [List.getElem?_eq_getElem]⟩
    have h1 : (wx :: R)[j + 1]? = some q := by simpa using hq
    rw [rdyN_no h1 (not_free (y := wx) (by simp) (cl_all' ha (ho q (List.mem_of_getElem? hq)))), ih]
theorem free_zero {E : List En} (x : En) : freeB E x 0 = true := by simp [freeB]
end Go.Proofs.Ytjofbehmhdjohaa
