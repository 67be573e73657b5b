/- The fixed answer. -/
import Derived.Test.YtjopdejgijojmaaOw
namespace Go.Proofs.Ytjopdejgijojmaa
open Go.RowKit Go.Extern

theorem I64.of_small {k : Int} (h0 : 0 ≤ k) (h1 : k < 1000000) : I64 k := by unfold I64; omega
theorem two_owners : (byS (putS (putS [] (1, 0) 9) (2, 0) 9) 9).length = 2 := by decide
theorem two_of : ofS (putS (putS [] (1, 0) 9) (2, 0) 9) (2, 0) = 9 := by decide
theorem Rf.turn_below {w w1 w2 : World} {F : Nat → Prop} {b : Nat} {l : List Ref} {was : Option (List Ref)} (h : Rfd F b l was w1 w2) (hF : ∀ k, F k → w.heap.size ≤ k) (hb : Below w.heap.size w w1) : Below w.heap.size w w2 := hb.trans (h.turn.below hb.size hF)
theorem ext_ge {F : Nat → Prop} {w w1 w2 : World} (hF : ∀ k, F k → w.heap.size ≤ k) (hs : w.heap.size ≤ w1.heap.size) : ∀ k, ext F w1 w2 k → w.heap.size ≤ k := fun k hk => by
  rcases hk with h | ⟨h, -⟩
  · exact hF k h
  · omega

set_option maxRecDepth 100000 in
set_option maxHeartbeats 2000000 in
theorem awake_any (w : World) : Calls Try.prog 9 #[] w fun e w' => e = .returned (.bool true) ∧ Below w.heap.size w w' := by
  have hO1 : OkO (1, 0) := ⟨I64.of_small (by simp) (by simp), I64.of_small (by simp) (by simp)⟩
  have hO2 : OkO (2, 0) := ⟨I64.of_small (by simp) (by simp), I64.of_small (by simp) (by simp)⟩
  have hI : I64 9 := I64.of_small (by omega) (by omega)
  go_enter Try.func9, Try.ntmps9
  go_wp2_with (first
    | (go_at_call 8; refine (new_any _).mono ?_; rintro e w1 ⟨b, rfl, hb, hrf, hbel⟩; have HR1 := hide hrf; have HB1 := hide hbel; clear hrf hbel hb)
    | (go_at_call 10; refine (put_ok (o := (2, 0)) (a := 9) HR2.out.rf hO2 hI (by omega)).mono ?_; rintro e w3 ⟨rfl, hr3⟩; have HR3 := hide hr3; clear hr3)
    | (go_at_call 10; refine (put_ok (o := (1, 0)) (a := 9) HR1.out hO1 hI (by omega)).mono ?_; rintro e w2 ⟨rfl, hr2⟩; have HR2 := hide hr2; clear hr2)
    | (go_at_call 19; refine (count_any HR3.out.rf hI).mono ?_; rintro e w4 ⟨rfl, rfl⟩; rw [two_owners])
    | (go_at_call 21; refine (of_any (o := (2, 0)) HR3.out.rf hO2).mono ?_; rintro e w5 ⟨rfl, hb5⟩; rw [two_of]; have HB5 := hide hb5; clear hb5))
  go_ret
  have b2 := Rf.turn_below HR2.out (fun k hk => hk.1) HB1.out
  have b3 := Rf.turn_below HR3.out (ext_ge (fun k hk => hk.1) HB1.out.size) b2
  exact ⟨rfl, b3.trans (HB5.out.mono b3.size)⟩
end Go.Proofs.Ytjopdejgijojmaa
