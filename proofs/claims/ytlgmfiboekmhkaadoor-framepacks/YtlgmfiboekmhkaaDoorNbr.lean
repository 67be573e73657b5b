/- The document's answer: Number, Read and Sum, by their contracts. -/
import Derived.Test.YtlgmfiboekmhkaaDoorFit
import Derived.Test.YtlgmfiboekmhkaaDoorRd
namespace Go.Proofs.YtlgmfiboekmhkaaDoor
open Go.RowKit Go.Extern

set_option maxRecDepth 100000 in
set_option maxHeartbeats 1000000 in
theorem number_any (n : Nat) (wd : Nat) (hwd : wd ≤ 8) (hn : n < 9223372036854775808) (w : World) :
    Calls Tryd.prog 26 #[.int .i64 (n : Int), .int .i64 (wd : Int)] w fun e w' => ∃ u, e = .returned u ∧ Own w' w.heap.size u (be wd n) ∧ Below w.heap.size w w' := by
  go_enter Tryd.func26, Tryd.ntmps26
  go_wp2
  go_loopg [0, 5, 6] wd (fun k m u i wr => ∃ j, j + k = wd ∧ i = .int .i64 (j : Int) ∧ m = .int .i64 ((n / 256 ^ j : Nat) : Int) ∧ Own wr w.heap.size u (be j n) ∧ Below w.heap.size w wr)
  case atStart => exact ⟨0, by omega, rfl, by simp, Own.nil _ _, Below.refl _ _⟩
  case round =>
    obtain ⟨j, hj, rfl, hx, hown, hb⟩ := hrel
    have HX : Hid (n / 256 ^ (j + 1) = n / 256 ^ j / 256) := by show _ = _; rw [Nat.pow_succ, Nat.div_div_eq_div_mul]
    have hle : n / 256 ^ j ≤ n := Nat.div_le_self _ _
    have HO := hide hown
    have HB := hide hb
    obtain ⟨ao, cap, rfl⟩ := hown.form
    clear hown hb
    cases gk with
    | zero =>
      have hjw : wd = j := by omega
      have hnl : ¬ (j : Int) < (wd : Int) := by omega
      have HW := hide hjw
      clear HX hle hjw
      generalize n / 256 ^ j = x at hx
      subst hx
      go_wp2
      go_ret
      exact ⟨_, rfl, by rw [HW.out]; exact HO.out, HB.out⟩
    | succ k =>
      have hjl : (j : Int) < (wd : Int) := by omega
      have hj0 : (0 : Int) ≤ (j : Int) := by omega
      have HBE : Hid (be (j + 1) n = (n / 256 ^ j % 256) :: be j n) := rfl
      generalize n / 256 ^ j = x at hx HX hle HBE
      subst hx
      have hx0 : (0 : Int) ≤ (x : Int) := by omega
      have hx1 : (x : Int) < 9223372036854775808 := by omega
      have q1 : IntKind.u8.wrap ((x : Int) % 256) = ((x % 256 : Nat) : Int) := by rw [IntKind.wrap_u8']; omega
      have HL : Hid (x % 256 < 256) := Nat.mod_lt _ (by decide)
      generalize x % 256 = b at q1 HL HBE
      go_wp2_with (at_builtin; refine wpList_append_bytes rfl _ _ rfl w.heap.size _ _ [b] (be j n) rfl rfl (Own.lit wr w.heap.size HB.out.size [b] (by simp; exact HL.out) (by simp)) (HO.out.bytes.below ((Below.refl _ _).alloc (Nat.le_refl _) _)) (by rw [be_length]; simp; omega) (by have := HB.out.size; simp; omega) ?_)
      intro v' w' ho hg hat
      have HO2 := hide ho
      have HB2 := hide ((HB.out.alloc HB.out.size (.cells (cellsB [b]).toArray 5)).grown hg (by have := HB.out.size; simp; omega) (by have := HB.out.size; simp [Value.ownBlock]; omega))
      obtain ⟨ao2, cap2, rfl⟩ := ho.form
      clear ho hg hat
      go_wp2
      go_roundg k
      case measure => omega
      case rel => exact ⟨j + 1, by omega, by go_num, by rw [HX.out]; rfl, by rw [HBE.out]; exact HO2.out, HB2.out⟩
end Go.Proofs.YtlgmfiboekmhkaaDoor
