/- Count. -/
import Derived.Test.YtkkklobjfoehnaaDoorHs
namespace Go.Proofs.YtkkklobjfoehnaaDoor
open Go.RowKit Go.Extern

/-- How many bits of the first words are set. -/
def sumTo (ws : List Nat) (j : Nat) : Nat := ((ws.take j).map (cnt 64)).sum
theorem sumTo_succ {ws : List Nat} {j x : Nat} (h : ws[j]? = some x) : sumTo ws (j + 1) = sumTo ws j + cnt 64 x := by
  unfold sumTo; rw [take_snoc h]; simp
theorem sumTo_le (ws : List Nat) : ∀ j, sumTo ws j ≤ 64 * j
  | 0 => by simp [sumTo]
  | j + 1 => by
    have ih := sumTo_le ws j
    cases h : ws[j]? with
    | none =>
      have : ws.length ≤ j := List.getElem?_eq_none_iff.1 h
      have e : sumTo ws (j + 1) = sumTo ws j := by unfold sumTo; rw [List.take_of_length_le (by omega), List.take_of_length_le this]
      omega
    | some x => rw [sumTo_succ h]; have := cnt_le 64 x; omega
theorem sumTo_all (ws : List Nat) : sumTo ws ws.length = (ws.map (cnt 64)).sum := by simp [sumTo]

set_option maxRecDepth 100000 in
theorem count_any {w : World} {F : Nat → Prop} {b : Nat} {l : List Bool} (h : Bm w F b l) :
    Calls Tryd.prog 20 #[.pointer (some ⟨b, 0, none⟩)] w fun e w' => e = .returned (.int .i64 (l.count true : Int)) ∧ w' = w := by
  obtain ⟨v, ws, h⟩ := h
  obtain ⟨c0, c1⟩ := h.cells
  have HH := hide h
  have HE : Hid (sumTo ws ws.length = l.count true) := hide (by rw [sumTo_all]; exact map_count ws l h.map)
  have HW := hide h.wl
  obtain ⟨ao, cap, e⟩ := ownsRow_form h.row
  rw [wordsC_length] at e
  subst e
  clear h
  go_enter Tryd.func20, Tryd.ntmps20
  go_wp2_with fail
  go_loopg [3, 11] ws.length (fun k c i wr => ∃ j : Nat, j + k = ws.length ∧ c = .int .i64 (sumTo ws j : Int) ∧ i = .int .i64 (j : Int) ∧ wr = w)
  case atStart => exact ⟨0, by omega, rfl, rfl, rfl⟩
  case round =>
    obtain ⟨j, hj, rfl, rfl, rfl⟩ := hrel
    cases gk with
    | zero =>
      have hnl : ¬ (j : Int) < (ws.length : Int) := by omega
      have hend : j = ws.length := by omega
      subst hend
      go_wp2
      go_ret
      exact ⟨by rw [← HE.out]; rfl, rfl⟩
    | succ k =>
      have hlt : j < ws.length := by omega
      have hnl : (j : Int) < (ws.length : Int) := by omega
      obtain ⟨x, hx⟩ : ∃ x, ws[j]? = some x := ⟨ws[j], by simp [hlt]⟩
      obtain ⟨g, cap', cur, hv, -⟩ := ownsRow_pos HH.out.row (by rw [wordsC_length]; omega)
      rw [wordsC_length] at hv
      obtain ⟨rfl, -⟩ : ao = some ⟨g, 0, none⟩ ∧ cap = cap' := by simpa using hv
      have hxl := HH.out.map.lt x (List.mem_of_getElem? hx)
      have cx := word_at HH.out hx
      rw [Nat.zero_add] at cx
      have hs := sumTo_le ws j
      have hc := cnt_le 64 x
      have hw64 := HW.out
      have HS := hide (sumTo_succ hx)
      have e1 : IntKind.i64.wrap ((sumTo ws j : Int) + (cnt 64 x : Int)) = ((sumTo ws (j + 1) : Nat) : Int) := by
        rw [HS.out, IntWalk.i64_in _ ⟨by omega, by omega⟩]; omega
      have e2 : IntKind.i64.wrap ((j : Int) + 1) = (j : Int) + 1 := IntWalk.i64_in _ ⟨by omega, by omega⟩
      have hge : (0 : Int) ≤ (j : Int) := by omega
      clear hs hc hv hlt
      go_wp2_with (go_at_call 30; refine (ones_any x hxl _).mono ?_; rintro e w' ⟨rfl, rfl⟩)
      go_roundg k
      case measure => omega
      case rel => exact ⟨j + 1, by omega, rfl, by go_num, rfl⟩
end Go.Proofs.YtkkklobjfoehnaaDoor
