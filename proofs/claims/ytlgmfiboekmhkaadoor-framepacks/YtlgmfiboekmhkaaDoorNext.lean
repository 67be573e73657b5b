/- The statements' own 'next', by its contract. -/
import Derived.Test.YtlgmfiboekmhkaaDoorPk3
namespace Go.Proofs.YtlgmfiboekmhkaaDoor
open Go.RowKit Go.Extern

/-- Is it a size of numbers? -/
def isSize (s : Int) : Bool := decide (s = 1 ∨ s = 2 ∨ s = 4 ∨ s = 8)

/-- What 'next' leaves. -/
def Nexted (b : Nat) (left : List Nat) (sp : Bool) (wd : Nat) (w w' : World) : Prop := Unp w' b (rdL left wd) (rdS left sp wd) ∧ w.grownBy w' (some b)

set_option maxRecDepth 100000 in
set_option maxHeartbeats 400000 in
theorem next_yes (wd : Nat) (hwd : wd = 1 ∨ wd = 2 ∨ wd = 4 ∨ wd = 8) (b : Nat) (left : List Nat) (sp : Bool) (w : World) (hu : Unp w b left sp) :
    Calls Tryd.prog 29 #[.pointer (some ⟨b, 0, none⟩), .int .i64 (wd : Int)] w fun e w' => e = .returned (.tuple #[.int .i64 (rdN left wd : Nat), .bool true]) ∧ Nexted b left sp wd w w' := by
  rcases hwd with rfl | rfl | rfl | rfl
  · have H := hide (UByte_any b left sp w hu)
    clear hu
    have HN : Hid (∀ w', Nexted b left sp 1 w w' ↔ Unp w' b (rdL left 1) (rdS left sp 1) ∧ w.grownBy w' (some b)) := fun _ => Iff.rfl
    generalize rdN left 1 = x at *
    go_enter Tryd.func29, Tryd.ntmps29
    go_wp2_with fail
    refine H.out.mono ?_
    rintro e w' ⟨rfl, hq⟩
    have HQ := hide ((HN.out w').2 hq)
    clear hq H HN
    go_wp2
    go_ret2
    exact ⟨rfl, HQ.out⟩
  · have H := hide (UShort_any b left sp w hu)
    clear hu
    have HN : Hid (∀ w', Nexted b left sp 2 w w' ↔ Unp w' b (rdL left 2) (rdS left sp 2) ∧ w.grownBy w' (some b)) := fun _ => Iff.rfl
    generalize rdN left 2 = x at *
    go_enter Tryd.func29, Tryd.ntmps29
    go_wp2_with fail
    refine H.out.mono ?_
    rintro e w' ⟨rfl, hq⟩
    have HQ := hide ((HN.out w').2 hq)
    clear hq H HN
    go_wp2
    go_ret2
    exact ⟨rfl, HQ.out⟩
  · have H := hide (UWord_any b left sp w hu)
    clear hu
    have HN : Hid (∀ w', Nexted b left sp 4 w w' ↔ Unp w' b (rdL left 4) (rdS left sp 4) ∧ w.grownBy w' (some b)) := fun _ => Iff.rfl
    generalize rdN left 4 = x at *
    go_enter Tryd.func29, Tryd.ntmps29
    go_wp2_with fail
    refine H.out.mono ?_
    rintro e w' ⟨rfl, hq⟩
    have HQ := hide ((HN.out w').2 hq)
    clear hq H HN
    go_wp2
    go_ret2
    exact ⟨rfl, HQ.out⟩
  · have H := hide (ULong_any b left sp w hu)
    clear hu
    have HN : Hid (∀ w', Nexted b left sp 8 w w' ↔ Unp w' b (rdL left 8) (rdS left sp 8) ∧ w.grownBy w' (some b)) := fun _ => Iff.rfl
    generalize rdN left 8 = x at *
    go_enter Tryd.func29, Tryd.ntmps29
    go_wp2_with fail
    refine H.out.mono ?_
    rintro e w' ⟨rfl, hq⟩
    have HQ := hide ((HN.out w').2 hq)
    clear hq H HN
    go_wp2
    go_ret2
    exact ⟨rfl, HQ.out⟩

theorem next_no (s : Int) (hs : isSize s = false) (b : Nat) (w : World) :
    Calls Tryd.prog 29 #[.pointer (some ⟨b, 0, none⟩), .int .i64 s] w fun e w' => e = .returned (.tuple #[.int .i64 0, .bool false]) ∧ w' = w := by
  have hs' : ¬ (s = 1 ∨ s = 2 ∨ s = 4 ∨ s = 8) := by simpa [isSize] using hs
  have e1 : (s == 1) = false := by simp; omega
  have e2 : (s == 2) = false := by simp; omega
  have e4 : (s == 4) = false := by simp; omega
  have e8 : (s == 8) = false := by simp; omega
  clear hs hs'
  go_enter Tryd.func29, Tryd.ntmps29
  go_wp2
  go_ret2
  exact ⟨rfl, rfl⟩
theorem size_of {s : Int} (h : isSize s = true) : ∃ wd : Nat, s = (wd : Int) ∧ (wd = 1 ∨ wd = 2 ∨ wd = 4 ∨ wd = 8) := by
  have h' : s = 1 ∨ s = 2 ∨ s = 4 ∨ s = 8 := by simpa [isSize] using h
  exact ⟨s.toNat, by omega, by omega⟩
end Go.Proofs.YtlgmfiboekmhkaaDoor
