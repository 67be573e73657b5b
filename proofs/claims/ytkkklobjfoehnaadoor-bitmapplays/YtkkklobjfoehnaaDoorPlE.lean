/- The law BitmapPlays, all lengths. -/
import Derived.Test.YtkkklobjfoehnaaDoorPlL7
namespace Go.Proofs.YtkkklobjfoehnaaDoor
open Go.RowKit Go.Extern

theorem Script.form {w : World} {v : Value} {ops : List OpR} (h : Script w v ops) : ∃ ao cap, v = .slice ao ops.length cap := by
  obtain ⟨ao, cap, g, off, rfl, -⟩ := h; exact ⟨_, _, rfl⟩
set_option maxRecDepth 100000 in
theorem plays_far (n fr : Int) (ops : List OpR) (v : Value) (w : World) (hv : Script w v ops) (hn : ¬ (0 ≤ n ∧ n ≤ 4096)) :
    Calls Tryd.prog 3 #[.int .i64 n, v, .int .i64 fr] w fun e w' => e = .returned (.bool true) ∧ Below w.heap.size w w' := by
  have HN := hide (new_bad n hn w)
  obtain ⟨ao, cap, rfl⟩ := hv.form
  clear hv
  rw [show errV 20 = .iface 55 (.int .i64 20) from rfl] at HN
  by_cases h0 : n < 0
  · have d0 : decide (n < 0) = true := by simpa using h0
    clear h0 hn
    go_enter Tryd.func3, Tryd.ntmps3
    go_wp2_with fail
    refine HN.out.mono ?_
    rintro e w1 ⟨rfl, hb⟩
    have HB := hide hb
    clear hb HN
    go_wp2_with fail
    refine (is20 _).mono ?_
    rintro e w2 ⟨rfl, rfl⟩
    go_wp2_with fail
    refine (awake_any _).mono ?_
    rintro e w3 ⟨rfl, hb⟩
    have HB2 := hide (below_next HB.out hb)
    clear hb
    go_wp2
    go_ret
    exact ⟨rfl, HB2.out⟩
  · have d0 : decide (n < 0) = false := by simpa using h0
    have d1 : decide (4096 < n) = true := by simp; omega
    clear h0 hn
    go_enter Tryd.func3, Tryd.ntmps3
    go_wp2_with fail
    refine HN.out.mono ?_
    rintro e w1 ⟨rfl, hb⟩
    have HB := hide hb
    clear hb HN
    go_wp2_with fail
    refine (is20 _).mono ?_
    rintro e w2 ⟨rfl, rfl⟩
    go_wp2_with fail
    refine (awake_any _).mono ?_
    rintro e w3 ⟨rfl, hb⟩
    have HB2 := hide (below_next HB.out hb)
    clear hb
    go_wp2
    go_ret
    exact ⟨rfl, HB2.out⟩
set_option maxRecDepth 100000 in
theorem plays_wide (k : Nat) (fr : Int) (ops : List OpR) (v : Value) (w : World) (hv : Script w v ops) (hn : k ≤ 4096) (hw : 300 < k ∨ 100 < ops.length) :
    Calls Tryd.prog 3 #[.int .i64 (k : Int), v, .int .i64 fr] w fun e w' => e = .returned (.bool true) ∧ Below w.heap.size w w' := by
  have HN := hide (new_ok k hn w)
  obtain ⟨ao, cap, rfl⟩ := hv.form
  clear hv
  have d0 : decide ((k : Int) < 0) = false := by simp
  have d4 : decide (4096 < (k : Int)) = false := by simp; omega
  cases h1 : decide (300 < (k : Int)) with
  | true =>
    go_enter Tryd.func3, Tryd.ntmps3
    go_wp2_with fail
    refine HN.out.mono ?_
    rintro e w1 ⟨b, rfl, hf⟩
    have HB := hide hf.bel
    clear hf HN
    go_wp2_with fail
    refine (awake_any _).mono ?_
    rintro e w2 ⟨rfl, hb⟩
    have HB2 := hide (below_next HB.out hb)
    clear hb
    go_wp2
    go_ret
    exact ⟨rfl, HB2.out⟩
  | false =>
    have d5 : decide (100 < (ops.length : Int)) = true := by
      have := of_decide_eq_false h1
      simp; omega
    go_enter Tryd.func3, Tryd.ntmps3
    go_wp2_with fail
    refine HN.out.mono ?_
    rintro e w1 ⟨b, rfl, hf⟩
    have HB := hide hf.bel
    clear hf HN
    go_wp2_with fail
    refine (awake_any _).mono ?_
    rintro e w2 ⟨rfl, hb⟩
    have HB2 := hide (below_next HB.out hb)
    clear hb
    go_wp2
    go_ret
    exact ⟨rfl, HB2.out⟩
theorem playsL_any (n fr : Int) (ops : List OpR) (v : Value) (w : World) (hv : Script w v ops) (hT : Tab w) :
    Calls Tryd.prog 3 #[.int .i64 n, v, .int .i64 fr] w fun e w' => e = .returned (.bool true) ∧ Below w.heap.size w w' := by
  by_cases hn : 0 ≤ n ∧ n ≤ 4096
  · obtain ⟨k, rfl⟩ : ∃ k : Nat, n = (k : Int) := ⟨n.toNat, by omega⟩
    by_cases hw : 300 < k ∨ 100 < ops.length
    · exact plays_wide k fr ops v w hv (by omega) hw
    · exact plays_near k fr ops v w hv hT (by omega) (by omega)
  · exact plays_far n fr ops v w hv hn
end Go.Proofs.YtkkklobjfoehnaaDoor
