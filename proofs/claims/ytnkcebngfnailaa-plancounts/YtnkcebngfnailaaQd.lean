/- Four numbers; contracts at numbers that fit. -/
import Derived.Test.YtnkcebngfnailaaAw
namespace Go.Proofs.Ytnkcebngfnailaa
open Go.RowKit Go.Extern

theorem fldQ (b i : Nat) (hi : i < 4) (w : World) : (Instr.fieldAt 39 (.pointer (some ⟨b, 0, none⟩)) i).run Try.prog w = .ok (.pointer (some ⟨b, 0 + i, none⟩)) w := by
  match i, hi with
  | 0, _ => go_simp
  | 1, _ => go_simp
  | 2, _ => go_simp
  | 3, _ => go_simp
theorem boxQ (w : World) (a b c d : Int) (i : Nat) (v : Value) (h : (#[Value.int .i64 a, .int .i64 b, .int .i64 c, .int .i64 d] : Array Value)[i]? = some v) : (w.alloc (.cells #[.int .i64 a, .int .i64 b, .int .i64 c, .int .i64 d] 39)).cell? ⟨w.heap.size, 0 + i, none⟩ = some v := by
  rw [row_cell (heap_alloc_new w _), Nat.zero_add]; exact h
theorem bound_ok {a b c x : Int} (ha : Fit a) (hb : Fit b) (hc : Fit c) (hx : 4 * a + 12 * b + 8 * c + 8 = x) (w : World) : Calls Try.prog 17 #[.int .i64 a, .int .i64 b, .int .i64 c] w fun e w' => e = .returned (.tuple #[.int .i64 x, .nilIface]) ∧ Below w.heap.size w w' := by
  refine (bound_any ha.i64 hb.i64 hc.i64 w).mono ?_
  rintro e w' ⟨h | h, hb'⟩
  · exact ⟨by rw [h.2, hx], hb'⟩
  · exact absurd ⟨ha, hb, hc⟩ h.1
theorem bound_no {a b c : Int} (ha : I64 a) (hb : I64 b) (hc : I64 c) (hx : ¬ (Fit a ∧ Fit b ∧ Fit c)) (w : World) : Calls Try.prog 17 #[.int .i64 a, .int .i64 b, .int .i64 c] w fun e w' => e = .returned (.tuple #[.int .i64 0, .iface 51 (.int .i64 20)]) ∧ Below w.heap.size w w' := by
  refine (bound_any ha hb hc w).mono ?_
  rintro e w' ⟨h | h, hb'⟩
  · exact absurd h.1 hx
  · exact ⟨h.2, hb'⟩
theorem reserve_ok {a b x : Int} (ha : Fit a) (hb : Fit b) (hx : 2 * a + 8 * b + 32 = x) (w : World) : Calls Try.prog 15 #[.int .i64 a, .int .i64 b] w fun e w' => e = .returned (.tuple #[.int .i64 x, .nilIface]) ∧ Below w.heap.size w w' := by
  refine (reserve_any ha.i64 hb.i64 w).mono ?_
  rintro e w' ⟨h | h, hb'⟩
  · exact ⟨by rw [h.2, hx], hb'⟩
  · exact absurd ⟨ha, hb⟩ h.1
theorem reserve_no {a b : Int} (ha : I64 a) (hb : I64 b) (hx : ¬ (Fit a ∧ Fit b)) (w : World) : Calls Try.prog 15 #[.int .i64 a, .int .i64 b] w fun e w' => e = .returned (.tuple #[.int .i64 0, .iface 51 (.int .i64 20)]) ∧ Below w.heap.size w w' := by
  refine (reserve_any ha hb w).mono ?_
  rintro e w' ⟨h | h, hb'⟩
  · exact absurd h.1 hx
  · exact ⟨h.2, hb'⟩
theorem most_ok {a b x : Int} (ha : Fit a) (hb : Fit b) (hx : 8 * a + 24 * b = x) (w : World) : Calls Try.prog 18 #[.int .i64 a, .int .i64 b] w fun e w' => e = .returned (.tuple #[.int .i64 x, .nilIface]) ∧ Below w.heap.size w w' := by
  refine (most_any ha.i64 hb.i64 w).mono ?_
  rintro e w' ⟨h | h, hb'⟩
  · exact ⟨by rw [h.2, hx], hb'⟩
  · exact absurd ⟨ha, hb⟩ h.1
theorem most_no {a b : Int} (ha : I64 a) (hb : I64 b) (hx : ¬ (Fit a ∧ Fit b)) (w : World) : Calls Try.prog 18 #[.int .i64 a, .int .i64 b] w fun e w' => e = .returned (.tuple #[.int .i64 0, .iface 51 (.int .i64 20)]) ∧ Below w.heap.size w w' := by
  refine (most_any ha hb w).mono ?_
  rintro e w' ⟨h | h, hb'⟩
  · exact absurd h.1 hx
  · exact ⟨h.2, hb'⟩
theorem enough_ok {a b c d : Int} {x : Bool} (ha : Fit a) (hb : Fit b) (hc : Fit c) (hd : Fit d) (hx : decide (a + (2 * b + 8 * c + 32) ≤ d) = x) (w : World) : Calls Try.prog 16 #[.int .i64 a, .int .i64 b, .int .i64 c, .int .i64 d] w fun e w' => e = .returned (.tuple #[.bool x, .nilIface]) ∧ Below w.heap.size w w' := by
  refine (enough_any ha.i64 hb.i64 hc.i64 hd.i64 w).mono ?_
  rintro e w' ⟨h | h, hb'⟩
  · exact ⟨by rw [h.2, hx], hb'⟩
  · exact absurd ⟨ha, hb, hc, hd⟩ h.1
theorem enough_no {a b c d : Int} (ha : I64 a) (hb : I64 b) (hc : I64 c) (hd : I64 d) (hx : ¬ (Fit a ∧ Fit b ∧ Fit c ∧ Fit d)) (w : World) : Calls Try.prog 16 #[.int .i64 a, .int .i64 b, .int .i64 c, .int .i64 d] w fun e w' => e = .returned (.tuple #[.bool false, .iface 51 (.int .i64 20)]) ∧ Below w.heap.size w w' := by
  refine (enough_any ha hb hc hd w).mono ?_
  rintro e w' ⟨h | h, hb'⟩
  · exact absurd h.1 hx
  · exact ⟨h.2, hb'⟩
end Go.Proofs.Ytnkcebngfnailaa
