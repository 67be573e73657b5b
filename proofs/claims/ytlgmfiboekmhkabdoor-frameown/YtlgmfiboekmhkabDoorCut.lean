/- Bytes cut anywhere. -/
import Derived.Test.YtlgmfiboekmhkabDoorRd
namespace Go.Proofs.YtlgmfiboekmhkabDoor
open Go.RowKit Go.Extern

theorem elemB : Tryd.prog.elem 22 = 5 := by kernel_rfl
theorem underB : Tryd.prog.underlying 22 = some (.slice (Tryd.prog.elem 22)) := by kernel_rfl
theorem sizeU8 (w : World) : (sizeOf 5).run Tryd.prog w = .ok 1 w := by kernel_rfl
theorem add_plain (b off i : Nat) : (⟨b, off, none⟩ : Addr).add i = ⟨b, off + i, none⟩ := by unfold Addr.add; split <;> simp_all

theorem sliced_bytes (w : World) (ao : Option Addr) (bs : List Nat) (cap lo hi : Nat) (hv : Bytes w (.slice ao bs.length cap) bs) (h1 : lo ≤ hi) (h2 : hi ≤ bs.length) : Bytes w (sliced ao lo hi cap 1) ((bs.drop lo).take (hi - lo)) := by
  obtain ⟨ao', cap', g, off, e, k2, k3, k4, k5, k6, k7, k8⟩ := hv
  simp only [Value.slice.injEq, true_and] at e
  obtain ⟨rfl, rfl⟩ := e
  have hlen : ((bs.drop lo).take (hi - lo)).length = hi - lo := by simp; omega
  have hsub : ∀ (i : Nat) b, ((bs.drop lo).take (hi - lo))[i]? = some b → bs[lo + i]? = some b := by
    intro i b hb
    have hi' : i < hi - lo := by
      have := (List.getElem?_eq_some_iff.1 hb).1
      rw [hlen] at this; exact this
    rw [List.getElem?_take_of_lt hi', List.getElem?_drop] at hb
    exact hb
  have hlt : ∀ b ∈ (bs.drop lo).take (hi - lo), b < 256 := fun b hb => k4 b (List.mem_of_mem_drop (List.mem_of_mem_take hb))
  cases ao with
  | none =>
    have hb0 : bs = [] := by
      rcases Nat.eq_zero_or_pos bs.length with h | h
      · exact List.length_eq_zero_iff.1 h
      · cases k2 h
    subst hb0
    obtain rfl := k6 rfl
    simp at h2
    subst h2
    have : lo = 0 := by omega
    subst this
    simp [sliced]
    exact Bytes.nil w
  | some ad =>
    refine ⟨if cap = lo then some ad else some (ad.add (lo * 1)), cap - lo, g, off + lo, ?_, fun hp => ?_, fun i b hb => ?_, hlt, by omega, fun h => ?_, by omega, Nat.le_trans (Nat.sub_le _ _) k8⟩
    · rw [hlen]; simp [sliced]
    · rw [hlen] at hp
      have := Option.some.inj (k2 (by omega))
      subst this
      rw [if_neg (by omega), add_plain, Nat.mul_one]
    · have := k3 (lo + i) b (hsub i b hb)
      rw [Nat.add_assoc]; exact this
    · split at h <;> cases h

/-- 'b[lo:]' -/
theorem cut_from (w : World) (v : Value) (bs : List Nat) (lo : Nat) (hv : Bytes w v bs) (hlo : lo ≤ bs.length) : ∃ ao n cap, (∀ w2, (Instr.slice 22 v (some (.int .i64 (lo : Int))) none none).run Tryd.prog w2 = .ok (.slice ao n cap) w2) ∧ Hid (Bytes w (.slice ao n cap) (bs.drop lo)) := by
  have hv' := hv
  obtain ⟨ao, cap, g, off, rfl, -⟩ := hv
  refine ⟨if cap = lo then ao else ao.map (·.add (lo * 1)), bs.length - lo, cap - lo, fun w2 => ?_, ?_⟩
  · have := run_slice_l (P := Tryd.prog) w2 22 ao bs.length cap underB .i64 (lo : Int) (by omega) (by omega)
    rw [this, elemB, sizeU8]
    simp [Result.andThen, sliced]
  · have := sliced_bytes w ao bs cap lo bs.length hv' hlo (Nat.le_refl _)
    have e : (bs.drop lo).take (bs.length - lo) = bs.drop lo := List.take_of_length_le (by simp)
    rw [e] at this
    exact this
/-- 'b[lo:hi]' -/
theorem cut_both (w : World) (v : Value) (bs : List Nat) (lo hi : Nat) (hv : Bytes w v bs) (h1 : lo ≤ hi) (h2 : hi ≤ bs.length) : ∃ ao n cap, (∀ w2, (Instr.slice 22 v (some (.int .i64 (lo : Int))) (some (.int .i64 (hi : Int))) none).run Tryd.prog w2 = .ok (.slice ao n cap) w2) ∧ Hid (Bytes w (.slice ao n cap) ((bs.drop lo).take (hi - lo))) := by
  have hv' := hv
  obtain ⟨ao, cap, g, off, rfl, -, -, -, -, -, h7, -⟩ := hv
  refine ⟨if cap = lo then ao else ao.map (·.add (lo * 1)), hi - lo, cap - lo, fun w2 => ?_, ?_⟩
  · have := run_slice_lh (P := Tryd.prog) w2 22 ao bs.length cap underB .i64 .i64 (lo : Int) (hi : Int) (by omega) (by omega) (by omega)
    rw [this, elemB, sizeU8]
    simp [Result.andThen, sliced]
  · exact sliced_bytes w ao bs cap lo hi hv' h1 h2
/-- 'b[:hi]' -/
theorem cut_to (w : World) (v : Value) (bs : List Nat) (hi : Nat) (hv : Bytes w v bs) (h2 : hi ≤ bs.length) : ∃ ao n cap, (∀ w2, (Instr.slice 22 v none (some (.int .i64 (hi : Int))) none).run Tryd.prog w2 = .ok (.slice ao n cap) w2) ∧ Hid (Bytes w (.slice ao n cap) (bs.take hi)) := by
  have hv' := hv
  obtain ⟨ao, cap, g, off, rfl, -, -, -, -, -, h7, -⟩ := hv
  refine ⟨if cap = 0 then ao else ao.map (·.add (0 * 1)), hi - 0, cap - 0, fun w2 => ?_, ?_⟩
  · have := run_slice_h (P := Tryd.prog) w2 22 ao bs.length cap underB .i64 (hi : Int) (by omega) (by omega)
    rw [this, elemB, sizeU8]
    simp [Result.andThen, sliced]
  · have := sliced_bytes w ao bs cap 0 hi hv' (Nat.zero_le _) h2
    exact hide (by simpa [sliced] using this)
end Go.Proofs.YtlgmfiboekmhkabDoor
