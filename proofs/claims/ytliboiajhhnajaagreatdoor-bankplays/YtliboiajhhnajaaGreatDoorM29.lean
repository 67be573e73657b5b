import Derived.Test.YtliboiajhhnajaaGreatDoorM07
import Derived.Lib.SliceRun
/- Numbers cut anywhere. -/
namespace Go.Proofs.YtliboiajhhnajaaGreatDoor
open Go.RowKit Go.Extern

theorem elemI : Tryz.prog.elem 29 = 3 := by kernel_rfl
theorem underI : Tryz.prog.underlying 29 = some (.slice (Tryz.prog.elem 29)) := by kernel_rfl
theorem sizeInt (w : World) : (sizeOf 3).run Tryz.prog w = .ok 1 w := by kernel_rfl
theorem add_plainI (b off i : Nat) : (⟨b, off, none⟩ : Addr).add i = ⟨b, off + i, none⟩ := by unfold Addr.add; split <;> simp_all
theorem sliced_ints (w : World) (ao : Option Addr) (ns : List Int) (cap lo hi : Nat) (hv : Ints w (.slice ao ns.length cap) ns) (h1 : lo ≤ hi) (h2 : hi ≤ ns.length) : Ints w (sliced ao lo hi cap 1) ((ns.drop lo).take (hi - lo)) := by
  obtain ⟨ao', cap', g, off, e, k2, k3, k4, k5, k6, k7, k8⟩ := hv
  simp only [Value.slice.injEq, true_and] at e
  obtain ⟨rfl, rfl⟩ := e
  have hlen : ((ns.drop lo).take (hi - lo)).length = hi - lo := by simp; omega
  have hsub : ∀ (i : Nat) b, ((ns.drop lo).take (hi - lo))[i]? = some b → ns[lo + i]? = some b := by
    intro i b hb
    have hi' : i < hi - lo := by
      have := (List.getElem?_eq_some_iff.1 hb).1
      rw [hlen] at this; exact this
    rw [List.getElem?_take_of_lt hi', List.getElem?_drop] at hb
    exact hb
  have hlt : ∀ b ∈ (ns.drop lo).take (hi - lo), I64 b := fun b hb => k4 b (List.mem_of_mem_drop (List.mem_of_mem_take hb))
  cases ao with
  | none =>
    have hb0 : ns = [] := by
      rcases Nat.eq_zero_or_pos ns.length with h | h
      · exact List.length_eq_zero_iff.1 h
      · cases k2 h
    subst hb0
    obtain rfl := k6 rfl
    simp at h2
    subst h2
    have : lo = 0 := by omega
    subst this
    simp [sliced]
    exact ⟨none, 0, 0, 0, rfl, by simp, by simp, by simp, by simp, by simp, by simp, by simp⟩
  | some ad =>
    refine ⟨if cap = lo then some ad else some (ad.add (lo * 1)), cap - lo, g, off + lo, ?_, fun hp => ?_, fun i b hb => ?_, hlt, by omega, fun h => ?_, by omega, Nat.le_trans (Nat.sub_le _ _) k8⟩
    · rw [hlen]; simp [sliced]
    · rw [hlen] at hp
      have := Option.some.inj (k2 (by omega))
      subst this
      rw [if_neg (by omega), add_plainI, Nat.mul_one]
    · have := k3 (lo + i) b (hsub i b hb)
      rw [Nat.add_assoc]; exact this
    · split at h <;> cases h
theorem add_block (a : Addr) (n : Nat) : (a.add n).block = a.block := by unfold Addr.add; split <;> rfl
theorem cut_block (ao : Option Addr) (c : Prop) [Decidable c] (m n cap cap' lo : Nat) (k : Nat) (h : (Value.slice (if c then ao else ao.map (·.add lo)) m cap').ownBlock = some k) : (Value.slice ao n cap).ownBlock = some k := by
  cases ao with
  | none => split at h <;> simp [Value.ownBlock] at h
  | some a =>
    split at h
    · exact h
    · simp only [Option.map_some, Value.ownBlock, add_block] at h; exact h
/-- 'l[lo:]' -/
theorem cutI_from (w : World) (v : Value) (ns : List Int) (lo : Nat) (hv : Ints w v ns) (hlo : lo ≤ ns.length) : ∃ ao n cap, (∀ w2, (Instr.slice 29 v (some (.int .i64 (lo : Int))) none none).run Tryz.prog w2 = .ok (.slice ao n cap) w2) ∧ Hid (Ints w (.slice ao n cap) (ns.drop lo) ∧ ∀ k, (Value.slice ao n cap).ownBlock = some k → v.ownBlock = some k) := by
  have hv' := hv
  obtain ⟨ao, cap, g, off, rfl, -⟩ := hv
  refine ⟨if cap = lo then ao else ao.map (·.add (lo * 1)), ns.length - lo, cap - lo, fun w2 => ?_, ?_, fun k hk => cut_block ao _ _ _ _ _ _ k hk⟩
  · have := run_slice_l (P := Tryz.prog) w2 29 ao ns.length cap underI .i64 (lo : Int) (by omega) (by omega)
    rw [this, elemI, sizeInt]
    simp [Result.andThen, sliced]
  · have := sliced_ints w ao ns cap lo ns.length hv' hlo (Nat.le_refl _)
    have e : (ns.drop lo).take (ns.length - lo) = ns.drop lo := List.take_of_length_le (by simp)
    rw [e] at this
    exact this
/-- 'l[:hi]' -/
theorem cutI_to (w : World) (v : Value) (ns : List Int) (hi : Nat) (hv : Ints w v ns) (h2 : hi ≤ ns.length) : ∃ ao n cap, (∀ w2, (Instr.slice 29 v none (some (.int .i64 (hi : Int))) none).run Tryz.prog w2 = .ok (.slice ao n cap) w2) ∧ Hid (Ints w (.slice ao n cap) (ns.take hi) ∧ ∀ k, (Value.slice ao n cap).ownBlock = some k → v.ownBlock = some k) := by
  have hv' := hv
  obtain ⟨ao, cap, g, off, rfl, -, -, -, -, -, h7, -⟩ := hv
  refine ⟨if cap = 0 then ao else ao.map (·.add (0 * 1)), hi - 0, cap - 0, fun w2 => ?_, ?_, fun k hk => cut_block ao _ _ _ _ _ _ k hk⟩
  · have := run_slice_h (P := Tryz.prog) w2 29 ao ns.length cap underI .i64 (hi : Int) (by omega) (by omega)
    rw [this, elemI, sizeInt]
    simp [Result.andThen, sliced]
  · have := sliced_ints w ao ns cap 0 hi hv' (Nat.zero_le _) h2
    simpa [sliced] using this
end Go.Proofs.YtliboiajhhnajaaGreatDoor
