/- Two lists of numbers held against each other, by the contract. -/
import Derived.Test.YtphmhepbilhkjaaPicks
namespace Go.Proofs.Ytphmhepbilhkjaa
open Go.RowKit Go.Extern

set_option maxRecDepth 100000 in
set_option maxHeartbeats 2000000 in
theorem ints_any (w : World) (u v : Value) (xs ys : List Int) (hu : Ints w u xs) (hv : Ints w v ys) (hl : xs.length ≤ 1000000) :
    Calls Try.prog 18 #[u, v] w fun e w' => e = .returned (.bool (decide (xs = ys))) ∧ Below w.heap.size w w' := by
  obtain ⟨ao, cap, g, off, rfl, h2, h3, -⟩ := hu
  obtain ⟨ao2, cap2, g2, off2, rfl, k2, k3, -⟩ := hv
  by_cases hlen : xs.length = ys.length
  · have hne : ((xs.length : Int) != (ys.length : Int)) = false := by simp; omega
    have HLN := hide hlen
    have H2 := hide h2
    have H3 := hide h3
    have K2 := hide k2
    have K3 := hide k3
    have HL := hide hl
    clear hlen h2 h3 k2 k3 hl
    go_enter Try.func18, Try.ntmps18
    go_wp2_with fail
    go_loopg [13] xs.length (fun gk i wr => ∃ j, j + gk = xs.length ∧ i = .int .i64 (j : Int) ∧ xs.take j = ys.take j ∧ Below w.heap.size w wr)
    case atStart => exact ⟨0, by omega, rfl, by simp, Below.refl _ _⟩
    case round =>
      obtain ⟨j, hj, rfl, htk, hb⟩ := hrel
      have HTK := hide htk
      have HB := hide hb
      clear htk hb
      cases gk with
      | zero =>
        have hend : ¬ (j : Int) < (xs.length : Int) := by omega
        have HE : Hid (decide (xs = ys) = true) := by
          have h1 := HTK.out
          rw [List.take_of_length_le (by omega), List.take_of_length_le (by have := HLN.out; omega)] at h1
          show _ = _
          simpa using h1
        clear hj
        go_wp2_with fail
        go_ret
        exact ⟨by rw [HE.out]; rfl, HB.out⟩
      | succ m =>
        have hlt : (j : Int) < (xs.length : Int) := by omega
        have hlt2 : (j : Int) < (ys.length : Int) := by have := HLN.out; omega
        have hb0 : (0 : Int) ≤ (j : Int) := by omega
        obtain ⟨x, hx⟩ : ∃ x, xs[j]? = some x := ⟨xs[j]'(by omega), by simp⟩
        obtain ⟨y, hy⟩ : ∃ y, ys[j]? = some y := ⟨ys[j]'(by omega), by simp⟩
        obtain rfl := H2.out (by omega)
        obtain rfl := K2.out (by omega)
        have c1 := H3.out j x hx
        have c2 := K3.out j y hy
        have d1 : wr.cell? ⟨g, off + j, none⟩ = some (.int .i64 x) := by rw [HB.out.cell (cell_lt c1)]; exact c1
        have d2 : wr.cell? ⟨g2, off2 + j, none⟩ = some (.int .i64 y) := by rw [HB.out.cell (cell_lt c2)]; exact c2
        have HX := hide (take_snoc hx)
        have HY := hide (take_snoc hy)
        have HXX := hide hx
        have HYY := hide hy
        have HJ : Hid ((j : Int) + 1 < 1000002) := by have := HL.out; show _ < _; omega
        have hjj := HJ.out
        clear hx hy c1 c2
        by_cases hxy : x = y
        · subst hxy
          have hn : (x != x) = false := by simp
          go_wp2_with fail
          go_region
          go_wp2_with fail
          go_roundg m
          case measure => omega
          case rel => exact ⟨j + 1, by omega, by go_num, by rw [HX.out, HY.out, HTK.out], HB.out.drew⟩
        · have hn : (x != y) = true := by simpa using hxy
          have HE : Hid (decide (xs = ys) = false) := by
            show _ = _
            rw [decide_eq_false_iff_not]
            intro e
            have h1 := HXX.out
            rw [e, HYY.out] at h1
            exact hxy (Option.some.inj h1).symm
          clear hxy
          go_wp2_with fail
          go_region
          go_wp2_with fail
          go_ret
          exact ⟨by rw [HE.out]; rfl, HB.out.drew⟩
  · have hne : ((xs.length : Int) != (ys.length : Int)) = true := by simp; omega
    have HE : Hid (decide (xs = ys) = false) := by
      show _ = _
      rw [decide_eq_false_iff_not]
      intro e
      exact hlen (by rw [e])
    clear hlen h2 h3 k2 k3 hl
    go_enter Try.func18, Try.ntmps18
    go_wp2_with fail
    go_ret
    exact ⟨by rw [HE.out]; rfl, Below.refl _ _⟩
end Go.Proofs.Ytphmhepbilhkjaa
