/- IndexFunc, ContainsFunc of what a bitmap lacks. -/
import Derived.Test.YtkkklobjfoehnaaDoorCt
namespace Go.Proofs.YtkkklobjfoehnaaDoor
open Go.RowKit Go.Extern

/-- Where the first number lies that is not the bitmap's. -/
def lackAt (l : List Bool) : List Int → Nat → Int
  | [], _ => -1
  | n :: t, j => if inB l n then lackAt l t (j + 1) else (j : Int)
theorem lackAt_neg (l : List Bool) : ∀ (ns : List Int) (j : Nat), decide (0 ≤ lackAt l ns j) = !ns.all (inB l)
  | [], j => by simp [lackAt]
  | n :: t, j => by
    have ih := lackAt_neg l t (j + 1)
    unfold lackAt
    cases h : inB l n with
    | true => simp only [if_true, List.all_cons, h, Bool.true_and]; exact ih
    | false => simp [h]
theorem drop_at {α : Type} {l : List α} {j : Nat} {x : α} (h : l[j]? = some x) : l.drop j = x :: l.drop (j + 1) := by
  obtain ⟨hj, rfl⟩ := List.getElem?_eq_some_iff.1 h
  exact List.drop_eq_getElem_cons hj

set_option maxRecDepth 100000 in
theorem index_any {w : World} {F : Nat → Prop} {b : Nat} {l : List Bool} (h : Bm w F b l) (v : Value) (ns : List Int) (hv : Ints w v ns) :
    Calls Tryd.prog 34 #[v, .func (.func 24) #[.pointer (some ⟨b, 0, none⟩)] #[]] w fun e w' => e = .returned (.int .i64 (lackAt l ns 0)) ∧ w' = w := by
  have HL := hide hv.len
  have HM := hide h
  obtain ⟨ao, cap, g, off, rfl, h2, h3⟩ := hv.at
  have H2 := hide h2
  have H3 := hide h3
  clear h2 h3 hv h
  go_enter Tryd.func34, Tryd.ntmps34
  go_wp2_with fail
  go_loopg [8] ns.length (fun k i wr => ∃ j : Nat, j + k = ns.length ∧ i = .int .i64 (j : Int) ∧ wr = w ∧ Hid (lackAt l ns 0 = lackAt l (ns.drop j) j))
  case atStart => exact ⟨0, by omega, rfl, rfl, rfl⟩
  case round =>
    obtain ⟨j, hj, rfl, rfl, HI⟩ := hrel
    cases gk with
    | zero =>
      have hnl : ¬ (j : Int) < (ns.length : Int) := by omega
      have hend : j = ns.length := by omega
      subst hend
      go_wp2
      go_ret
      exact ⟨by rw [HI.out]; simp [lackAt], rfl⟩
    | succ k =>
      have hlt : j < ns.length := by omega
      have hnl : (j : Int) < (ns.length : Int) := by omega
      obtain ⟨n, hn⟩ : ∃ n, ns[j]? = some n := ⟨ns[j], by simp [hlt]⟩
      obtain rfl := H2.out (by omega)
      have cx := H3.out j n hn
      have e2 : IntKind.i64.wrap ((j : Int) + 1) = (j : Int) + 1 := IntWalk.i64_in _ ⟨by omega, by have := HL.out; omega⟩
      have hge : (0 : Int) ≤ (j : Int) := by omega
      have HD := hide (drop_at hn)
      clear hlt hn
      go_wp2_with fail
      refine (lacks_any HM.out n).mono ?_
      rintro e w' ⟨rfl, rfl⟩
      cases hin : inB l n with
      | true =>
        have HK : Hid (lackAt l ns 0 = lackAt l (ns.drop (j + 1)) (j + 1)) := hide (by rw [HI.out, HD.out, lackAt, if_pos hin])
        clear hin
        go_wp2
        go_roundg k
        case measure => omega
        case rel => exact ⟨j + 1, by omega, by go_num, rfl, HK⟩
      | false =>
        have HK : Hid (lackAt l ns 0 = (j : Int)) := hide (by rw [HI.out, HD.out, lackAt, if_neg (by simp [hin])])
        clear hin
        go_wp2
        go_ret
        exact ⟨by rw [HK.out]; rfl, rfl⟩
set_option maxRecDepth 100000 in
theorem contains_any {w : World} {F : Nat → Prop} {b : Nat} {l : List Bool} (h : Bm w F b l) (v : Value) (ns : List Int) (hv : Ints w v ns) :
    Calls Tryd.prog 23 #[v, .func (.func 24) #[.pointer (some ⟨b, 0, none⟩)] #[]] w fun e w' => e = .returned (.bool (!ns.all (inB l))) ∧ w' = w := by
  have HI := hide (index_any h v ns hv)
  have HN := hide (lackAt_neg l ns 0)
  obtain ⟨ao, cap, rfl⟩ := hv.form
  clear hv h
  generalize lackAt l ns 0 = r at HI HN
  go_enter Tryd.func23, Tryd.ntmps23
  go_wp2_with (go_at_call 34; refine HI.out.mono ?_; rintro e w' ⟨rfl, rfl⟩)
  go_ret
  exact ⟨by rw [← HN.out]; rfl, rfl⟩
end Go.Proofs.YtkkklobjfoehnaaDoor
