/- awake. -/
import Derived.Test.YtkkklobjfoehnaaDoorNw
namespace Go.Proofs.YtkkklobjfoehnaaDoor
open Go.RowKit Go.Extern

theorem ints_lit (w : World) (ns : List Int) (hi : ∀ n ∈ ns, I64 n) (hl : ns.length ≤ 1000) : Ints (w.alloc (.cells (intsC ns).toArray 3)) (.slice (some ⟨w.heap.size, 0, none⟩) ns.length ns.length) ns := by
  have := ownsRow_row (lit_row w 0 3 (intsC ns) (Nat.zero_le _) (by rw [intsC_length]; omega)) (by rw [intsC_length]; omega)
  rw [intsC_length] at this
  exact ⟨this, hi⟩
theorem i64_small {n : Int} (h : 0 ≤ n ∧ n ≤ 1000000) : I64 n := by unfold I64; omega
set_option maxRecDepth 100000 in
theorem awake_any (w : World) :
    Calls Tryd.prog 8 #[] w fun e w' => e = .returned (.bool true) ∧ Below w.heap.size w w' := by
  have HN := hide (new_ok 10 (by decide) w)
  go_enter Tryd.func8, Tryd.ntmps8
  go_wp2_with fail
  refine HN.out.mono ?_
  rintro e w1 ⟨b, rfl, hf⟩
  have HF := hide hf
  clear hf HN
  go_wp2_with fail
  refine (set_ok (F := newF w w1) (HF.out.bm.below (bel_alloc _ _)) _ [1, 2, 5] (ints_lit w1 [1, 2, 5] (fun n hn => i64_small (by simp at hn; omega)) (by decide)) ?_ (by decide)).mono ?_
  · intro k hk hF
    simp only [Value.ownBlock, Option.some.injEq] at hk
    have := hF.2
    omega
  rintro e w2 ⟨rfl, hp⟩
  have HP := hide hp
  have HB : Hid (Below w.heap.size w w2) := hide (by
    have h1 := HF.out.bel
    have h2 := bel_alloc w1 (.cells #[.int .i64 1, .int .i64 2, .int .i64 5] 3)
    exact (below_next h1 h2).trans (hp.turn.below (by have := h1.size; simp; omega) (fun k hk => hk.1)))
  clear hp
  go_wp2_with fail
  refine (count_any HP.out.bm).mono ?_
  rintro e w3 ⟨rfl, rfl⟩
  rw [show (List.count true (putS (List.replicate 10 false) [1, 2, 5] true) : Int) = 3 from rfl]
  go_wp2_with fail
  refine (has_any HP.out.bm 2).mono ?_
  rintro e w4 ⟨rfl, hb4⟩
  rw [show hasS (putS (List.replicate 10 false) [1, 2, 5] true) 2 = true from rfl]
  have HP4 := hide (HP.out.bm.below hb4)
  have HB4 := hide (below_next HB.out hb4)
  clear hb4
  go_wp2_with fail
  refine (has_any HP4.out 3).mono ?_
  rintro e w5 ⟨rfl, hb5⟩
  rw [show hasS (putS (List.replicate 10 false) [1, 2, 5] true) 3 = false from rfl]
  have HB5 := hide (below_next HB4.out hb5)
  clear hb5
  go_wp2
  go_ret
  exact ⟨rfl, HB5.out⟩
end Go.Proofs.YtkkklobjfoehnaaDoor
