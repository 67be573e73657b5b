/- Numbers that are cut out of others. -/
import Derived.Test.YtnkcebngfnailaaIi
import Derived.Lib.SliceRun
namespace Go.Proofs.Ytnkcebngfnailaa
open Go.RowKit Go.Extern

theorem elemI : Try.prog.elem 22 = 3 := by kernel_rfl
theorem underI : Try.prog.underlying 22 = some (.slice (Try.prog.elem 22)) := by kernel_rfl
theorem sizeInt (w : World) : (sizeOf 3).run Try.prog w = .ok 1 w := by kernel_rfl
theorem infoInt : (Try.prog.info? 3).map (fun i => (i.zero, i.size, i.bytes)) = some (some (.int .i64 0), 1, 8) := by kernel_rfl
theorem len_ints (w : World) (a : Option Addr) (n c : Nat) : (Builtin.len_ #[22] 3 #[.slice a n c]).run Try.prog w = .ok (.int .i64 (n : Int)) w := by kernel_rfl
theorem index_int {w : World} {g n cap i : Nat} (h : i < n) : (Instr.indexAt 22 (.slice (some ⟨g, 0, none⟩) n cap) (.int .i64 (i : Int))).run Try.prog w = .ok (.pointer (some ⟨g, i, none⟩)) w := by
  have hlt : (i : Int) < (n : Int) := by omega
  have hge : (0 : Int) ≤ (i : Int) := by omega
  go_simp
section
variable {ρ : Operand → Value} {o : Oper} {w : World} {x y : Operand} {n m : Int} {T : TypeId}
theorem exec_lssT (ho : o.op = .binOp .lss 3 x y T) (hx : ρ x = .int .i64 n) (hy : ρ y = .int .i64 m) (h : n < m) : (execOp ρ o).run Try.prog w = .ok (.value (.bool true)) w := by
  unfold execOp; rw [ho]; simp only [hx, hy]; go_simp
theorem exec_lssF (ho : o.op = .binOp .lss 3 x y T) (hx : ρ x = .int .i64 n) (hy : ρ y = .int .i64 m) (h : ¬ n < m) : (execOp ρ o).run Try.prog w = .ok (.value (.bool false)) w := by
  unfold execOp; rw [ho]; simp only [hx, hy]; go_simp
theorem exec_neqT (ho : o.op = .binOp .neq 3 x y T) (hx : ρ x = .int .i64 n) (hy : ρ y = .int .i64 m) (h : n ≠ m) : (execOp ρ o).run Try.prog w = .ok (.value (.bool true)) w := by
  have hb : (n == m) = false := by simpa using h
  unfold execOp; rw [ho]; simp only [hx, hy]; go_simp
end
theorem sliced_row (w : World) (ao : Option Addr) (xs : List Value) (cap lo hi : Nat) (hv : Row w (.slice ao xs.length cap) xs) (h1 : lo ≤ hi) (h2 : hi ≤ xs.length) : Row w (sliced ao lo hi cap 1) ((xs.drop lo).take (hi - lo)) := by
  obtain ⟨ao', cap', g, off, e, k2, k3, k5, k6, k7, k8⟩ := hv
  simp only [Value.slice.injEq, true_and] at e
  obtain ⟨rfl, rfl⟩ := e
  have hlen : ((xs.drop lo).take (hi - lo)).length = hi - lo := by simp; omega
  have hsub : ∀ (i : Nat) b, ((xs.drop lo).take (hi - lo))[i]? = some b → xs[lo + i]? = some b := by
    intro i b hb
    have hi' : i < hi - lo := by
      have := (List.getElem?_eq_some_iff.1 hb).1
      rw [hlen] at this; exact this
    rw [List.getElem?_take_of_lt hi', List.getElem?_drop] at hb
    exact hb
  cases ao with
  | none =>
    have hb0 : xs = [] := by
      rcases Nat.eq_zero_or_pos xs.length with h | h
      · exact List.length_eq_zero_iff.1 h
      · cases k2 h
    subst hb0
    obtain rfl := k6 rfl
    simp at h2
    subst h2
    have : lo = 0 := by omega
    subst this
    simp [sliced]
    exact Row.nil w
  | some ad =>
    refine ⟨if cap = lo then some ad else some (ad.add (lo * 1)), cap - lo, g, off + lo, ?_, fun hp => ?_, fun i b hb => ?_, by omega, fun h => ?_, by omega, Nat.le_trans (Nat.sub_le _ _) k8⟩
    · rw [hlen]; simp [sliced]
    · rw [hlen] at hp
      have := Option.some.inj (k2 (by omega))
      subst this
      rw [if_neg (by omega), add_plain, Nat.mul_one]
    · have := k3 (lo + i) b (hsub i b hb)
      rw [Nat.add_assoc]; exact this
    · split at h <;> cases h
theorem cutR_from (w : World) (v : Value) (xs : List Value) (lo : Nat) (hv : Row w v xs) (hlo : lo ≤ xs.length) : ∃ ao n cap, (∀ w2, (Instr.slice 22 v (some (.int .i64 (lo : Int))) none none).run Try.prog w2 = .ok (.slice ao n cap) w2) ∧ Hid (Row w (.slice ao n cap) (xs.drop lo)) := by
  have hv' := hv
  obtain ⟨ao, cap, g, off, rfl, -⟩ := hv
  refine ⟨if cap = lo then ao else ao.map (·.add (lo * 1)), xs.length - lo, cap - lo, fun w2 => ?_, ?_⟩
  · have := run_slice_l (P := Try.prog) w2 22 ao xs.length cap underI .i64 (lo : Int) (by omega) (by omega)
    rw [this, elemI, sizeInt]
    simp [Result.andThen, sliced]
  · have := sliced_row w ao xs cap lo xs.length hv' hlo (Nat.le_refl _)
    have e : (xs.drop lo).take (xs.length - lo) = xs.drop lo := List.take_of_length_le (by simp)
    rw [e] at this
    exact this
theorem cutR_to (w : World) (v : Value) (xs : List Value) (hi : Nat) (hv : Row w v xs) (h2 : hi ≤ xs.length) : ∃ ao n cap, (∀ w2, (Instr.slice 22 v none (some (.int .i64 (hi : Int))) none).run Try.prog w2 = .ok (.slice ao n cap) w2) ∧ Hid (Row w (.slice ao n cap) (xs.take hi)) := by
  have hv' := hv
  obtain ⟨ao, cap, g, off, rfl, -, -, -, -, h7, -⟩ := hv
  refine ⟨if cap = 0 then ao else ao.map (·.add (0 * 1)), hi - 0, cap - 0, fun w2 => ?_, ?_⟩
  · have := run_slice_h (P := Try.prog) w2 22 ao xs.length cap underI .i64 (hi : Int) (by omega) (by omega)
    rw [this, elemI, sizeInt]
    simp [Result.andThen, sliced]
  · have := sliced_row w ao xs cap 0 hi hv' (Nat.zero_le _) h2
    rw [List.drop_zero, Nat.sub_zero] at this
    exact this

theorem ints_from {w : World} {v : Value} {l : List Int} (hv : Ints w v l) {lo : Nat} (h : lo ≤ l.length) : ∃ ao n cap, (∀ w2, (Instr.slice 22 v (some (.int .i64 (lo : Int))) none none).run Try.prog w2 = .ok (.slice ao n cap) w2) ∧ Hid (Ints w (.slice ao n cap) (l.drop lo)) := by
  obtain ⟨ao, n, cap, h1, h2⟩ := cutR_from w v (l.map encI) lo hv.1 (by simpa using h)
  exact ⟨ao, n, cap, h1, hide ⟨by rw [List.map_drop]; exact h2.out, fun k hk => hv.2 k (List.mem_of_mem_drop hk)⟩⟩
theorem ints_to {w : World} {v : Value} {l : List Int} (hv : Ints w v l) {hi : Nat} (h : hi ≤ l.length) : ∃ ao n cap, (∀ w2, (Instr.slice 22 v none (some (.int .i64 (hi : Int))) none).run Try.prog w2 = .ok (.slice ao n cap) w2) ∧ Hid (Ints w (.slice ao n cap) (l.take hi)) := by
  obtain ⟨ao, n, cap, h1, h2⟩ := cutR_to w v (l.map encI) hi hv.1 (by simpa using h)
  exact ⟨ao, n, cap, h1, hide ⟨by rw [List.map_take]; exact h2.out, fun k hk => hv.2 k (List.mem_of_mem_take hk)⟩⟩
end Go.Proofs.Ytnkcebngfnailaa
