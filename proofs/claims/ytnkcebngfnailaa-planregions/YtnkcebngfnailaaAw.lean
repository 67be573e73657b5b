/- The fixed answer. -/
import Derived.Test.YtnkcebngfnailaaRg
import Derived.Test.YtnkcebngfnailaaRv
namespace Go.Proofs.Ytnkcebngfnailaa
open Go.RowKit Go.Extern

theorem sortS_eq {l m : List Int} (h : m.Perm l) (hm : m.Pairwise (· ≤ ·)) : sortS l = m :=
  List.Perm.eq_of_pairwise (le := fun a b : Int => a ≤ b) (fun _ _ _ _ h1 h2 => Int.le_antisymm h1 h2) (sortS_up l) hm ((sortS_perm l).trans h.symm)
theorem awake_right : Rt [4098, 2, 3, 4, 5, 6] := ⟨by decide, by decide⟩
theorem awake_sort : sortS [4098, 2, 3, 4, 5, 6] = [2, 3, 4, 5, 6, 4098] := sortS_eq (by decide) (by decide)
theorem awake_regs : regs [2, 3, 4, 5, 6, 4098] = [(0, [2, 3, 4, 5]), (0, [6]), (1, [4098])] := by decide
theorem awake_three {L : List Rg} (h : outR L = regs (sortS [4098, 2, 3, 4, 5, 6])) : ∃ x y z, L = [x, y, z] ∧ x.l.length = 4 ∧ z.dev = 1 := by
  rw [awake_sort, awake_regs] at h
  have hl : L.length = 3 := by have := congrArg List.length h; simpa [outR] using this
  match L, hl, h with
  | [x, y, z], _, h =>
    simp only [outR, List.map_cons, List.map_nil, List.cons.injEq, Prod.mk.injEq, and_true] at h
    exact ⟨x, y, z, rfl, by rw [h.1.2]; rfl, h.2.2.1⟩
set_option maxRecDepth 100000 in
set_option maxHeartbeats 2000000 in
theorem awake_any (w : World) : Calls Try.prog 8 #[] w fun e w' => e = .returned (.bool true) ∧ Below w.heap.size w w' := by
  have hR : Calls Try.prog 9 #[.slice (some ⟨w.heap.size, 0, none⟩) 6 6] (w.alloc (.cells #[.int .i64 4098, .int .i64 2, .int .i64 3, .int .i64 4, .int .i64 5, .int .i64 6] 3)) _ :=
    regions_any (ints_lits w [4098, 2, 3, 4, 5, 6] (by simp) (by unfold I64; decide)) (by simp)
  go_enter Try.func8, Try.ntmps8
  go_wp2_with fail
  refine hR.mono ?_
  rintro e w1 ⟨h, hb1⟩
  rcases h with ⟨-, v, L, rfl, hg, ho⟩ | ⟨hn, -⟩
  · obtain ⟨x, y, z, rfl, hx, hz⟩ := awake_three ho
    have HB1 := hide (nextB (bel_alloc _ _) hb1)
    have HG := hide hg
    obtain ⟨ao, cap, g, rfl, -, -, -, -, h2, h3⟩ := hg.1.cell enR_len
    obtain ⟨rfl, -⟩ := h2 (by simp)
    have H3 := hide h3
    have hxn : x.n = 4 := by
      obtain ⟨_, _, _, e, hn⟩ := (hg.2 x (by simp)).form
      simp only [Value.slice.injEq] at e
      rw [e.2.1, hn.out, hx]
    have HZ := hide hz
    have HX := hide hxn
    clear hR hb1 ho hg h3 hx hz hxn h2
    simp only [List.length_cons, List.length_nil, Nat.reduceAdd]
    go_wp2_with fail
    refine (bound_any (a := 10) (b := 1) (c := 2) (by unfold I64; omega) (by unfold I64; omega) (by unfold I64; omega) _).mono ?_
    rintro e w2 ⟨h, hb2⟩
    rcases h with ⟨-, rfl⟩ | ⟨hn, -⟩
    · have HB2 := hide (nextB HB1.out hb2)
      have k1 : w2.cell? ⟨g, 0 + 1, none⟩ = some (.slice x.ao 4 x.cap) := by
        have := cell_bel hb2 (H3.out 0 1 x rfl (by omega))
        rw [HX.out] at this
        simpa using this
      have k2 : w2.cell? ⟨g, 4, none⟩ = some (.int .i64 1) := by
        have := cell_bel hb2 (H3.out 2 0 z rfl (by omega))
        rw [← HZ.out]
        simpa using this
      clear hb2 H3 HG HX HZ HB1
      go_wp2_with fail
      go_ret
      exact ⟨rfl, HB2.out⟩
    · exact absurd ⟨by unfold Fit; omega, by unfold Fit; omega, by unfold Fit; omega⟩ hn
  · exact absurd awake_right hn
end Go.Proofs.Ytnkcebngfnailaa
