/- The document's own disk is read; what waits. -/
import Derived.Test.YtphmhepbilhkjaaRAsk
namespace Go.Proofs.Ytphmhepbilhkjaa
open Go.RowKit Go.Extern

def RReaded (S : List Sec) (i : Int) (w : World) (e : Ending) (w' : World) : Prop := ∃ u, e = .returned (.tuple #[u, .int .i64 (rErr S i)]) ∧ Bytes w' u (rDat S i) ∧ Below w.heap.size w w'

set_option maxRecDepth 100000 in
set_option maxHeartbeats 2000000 in
theorem rread_any {w : World} {G : Nat → Prop} {b : Nat} {S : List Sec} (h : Rk w G b S) (i : Int) (hww : ∀ s ∈ S, s.wait.length ≤ 1000000) :
    Calls Try.prog 15 #[.pointer (some ⟨b, 0, none⟩), .int .i64 i] w (RReaded S i w) := by
  have HH := hide (rhas_any h i)
  unfold RReaded rErr rDat
  cases hh : hasB S i with
  | false =>
    rw [hh] at HH
    clear h hh
    simp only [Bool.false_eq_true, if_false]
    go_enter Try.func15, Try.ntmps15
    go_wp2_with fail
    refine HH.out.mono ?_
    rintro e w' ⟨rfl, hww⟩
    obtain rfl : w = w' := hww.symm
    go_wp2_with fail
    go_ret2
    exact ⟨_, rfl, Bytes.nil _, Below.refl _ _⟩
  | true =>
    rw [hh] at HH
    obtain ⟨k, s, rfl, hs⟩ := hasB_at hh
    obtain ⟨v, T, hat, hTS⟩ := h
    obtain ⟨u, hu⟩ := RkAt.get hTS hs
    have hl := hww s (List.mem_of_getElem? hs)
    have c0 := hat.cell
    obtain ⟨ao, cap, rfl⟩ := hat.form
    obtain ⟨g, rfl, -, c1, c2, -⟩ := hat.at_ hu
    have hval := hat.val k _ hu
    have hkT : k < T.length := (List.getElem?_eq_some_iff.1 hu).1
    have hk1 : (k : Int) < (T.length : Int) := by omega
    have hk0 : (0 : Int) ≤ (k : Int) := by omega
    simp only [if_true, Int.toNat_natCast, hs]
    obtain ⟨aou, capu, huf⟩ := hval.form
    simp only at huf
    subst huf
    cases hbad : s.bad with
    | true =>
      simp only [hbad] at c2
      simp only [if_true]
      clear hval hat hTS hu hs hh hbad
      go_enter Try.func15, Try.ntmps15
      go_wp2_with fail
      refine HH.out.mono ?_
      rintro e w' ⟨rfl, hww⟩
      obtain rfl : w = w' := hww.symm
      go_wp2_with fail
      go_ret2
      exact ⟨_, rfl, Bytes.nil _, Below.refl _ _⟩
    | false =>
      simp only [hbad] at c2
      simp only [Bool.false_eq_true, if_false]
      obtain ⟨gu, x, rfl, c3, hx, -⟩ := hval.at_ (top_last s)
      have HX := hide hx
      obtain ⟨n, hn⟩ : ∃ n, s.wait.length = n := ⟨_, rfl⟩
      simp only [List.length_cons, hn] at c1 c3 hl
      have hn1 : (n : Int) < (n : Int) + 1 := by omega
      have hn0 : (0 : Int) ≤ (n : Int) := by omega
      have hnb : (n : Int) ≤ 1000000 := by omega
      obtain ⟨aox, capx, rfl⟩ := hx.form
      clear hval hat hTS hu hs hh hbad hx hl
      go_enter Try.func15, Try.ntmps15
      go_wp2_with fail
      refine HH.out.mono ?_
      rintro e w' ⟨rfl, hww⟩
      obtain rfl : w = w' := hww.symm
      go_wp2_with fail
      go_region
      go_wp2_with fail
      go_ret2
      exact ⟨_, rfl, HX.out.bytes.below (Below.refl _ _).drew, (Below.refl _ _).drew⟩
end Go.Proofs.Ytphmhepbilhkjaa
