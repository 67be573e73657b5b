/- FrameSums walked: it answers true. -/
import Derived.Test.YtlgmfiboekmhkaaDoorAwake
import Derived.Test.YtlgmfiboekmhkaaDoorRSum
namespace Go.Proofs.YtlgmfiboekmhkaaDoor
open Go.RowKit Go.Extern

theorem Parts.below {w w' : World} (hb : Below w.heap.size w w') {v : Value} {ps : List (List Nat)} (h : Parts w v ps) : Parts w' v ps := by
  obtain ⟨ao, cap, g, off, h1, h2, h3, h4⟩ := h
  refine ⟨ao, cap, g, off, h1, h2, fun i q hq => ?_, h4⟩
  obtain ⟨u, h5, h6⟩ := h3 i q hq
  exact ⟨u, by rw [hb.cell (cell_lt h5)]; exact h5, h6.below hb⟩

set_option maxRecDepth 100000 in
set_option maxHeartbeats 2000000 in
theorem frameSums_any (ps : List (List Nat)) (v : Value) (w : World) (hL : Laid w) (hv : Parts w v ps) :
    Calls Tryd.prog 3 #[v] w fun e w' => e = .returned (.bool true) ∧ Below w.heap.size w w' := by
  have HV := hide hv
  obtain ⟨ao, cap, g, off, rfl, h2, h3, h4⟩ := hv
  have H2 := hide h2
  have H3 := hide h3
  have HL := hide hL
  have HN := hide h4
  clear h2 h3 hL h4
  go_enter Tryd.func3, Tryd.ntmps3
  go_wp2
  go_loopg [3, 4, 9] ps.length (fun k t u i wr => ∃ j, j + k = ps.length ∧ i = .int .i64 (j : Int) ∧ t = .int .i64 ((ps.take j).flatten.length : Int) ∧ (ps.take j).flatten.length ≤ 20000 ∧ Own wr w.heap.size u (ps.take j).flatten ∧ Below w.heap.size w wr)
  case atStart => exact ⟨0, by omega, rfl, by simp, by simp, by simpa using Own.nil _ _, Below.refl _ _⟩
  case round =>
    obtain ⟨j, hj, rfl, ht, htl, hown, hb⟩ := hrel
    have HO := hide hown
    have HB := hide hb
    obtain ⟨ao1, cap1, rfl⟩ := hown.form
    clear hown hb
    cases gk with
    | zero =>
      have hnl : ¬ (j : Int) < (ps.length : Int) := by omega
      have hend : ps.take j = ps := List.take_of_length_le (by omega)
      rw [hend] at ht htl HO ⊢
      have HRS := hide (rsum_any _ _ _ HO.out.bytes)
      have HFS := hide (sum_any _ _ _ (HL.out.below HB.out) (HV.out.below HB.out))
      have hc := crc_lt ps.flatten
      generalize crc ps.flatten = c at hc HRS HFS
      generalize ps.flatten.length = n at *
      subst ht
      have hcw : IntKind.i64.wrap (c : Int) = (c : Int) := by rw [IntKind.wrap_i64]; omega
      have HAW := hide (awake_any wr (HL.out.below HB.out))
      clear hend
      go_wp2_with (first
        | (go_at_call 10; refine HFS.out.mono ?_; rintro e w' ⟨rfl, rfl⟩)
        | (go_at_call 11; refine HRS.out.mono ?_; rintro e w' ⟨rfl, rfl⟩)
        | (go_at_call 9; refine HAW.out.mono ?_; rintro e w' ⟨rfl, hb2⟩))
      go_ret
      exact ⟨rfl, HB.out.trans (hb2.mono HB.out.size)⟩
    | succ m =>
      have hjl : j < ps.length := by omega
      have hlt : (j : Int) < (ps.length : Int) := by omega
      have hb0 : (0 : Int) ≤ (j : Int) := by omega
      obtain ⟨q, hq⟩ : ∃ q, ps[j]? = some q := ⟨ps[j], by simp [hjl]⟩
      obtain ⟨u, k1, hu⟩ := H3.out j q hq
      obtain rfl := H2.out (by omega)
      have k1' : wr.cell? ⟨g, off + j, none⟩ = some u := by rw [HB.out.cell (cell_lt k1)]; exact k1
      have HU := hide (hu.below HB.out)
      have hql := hu.len
      have HTS : Hid ((ps.take (j + 1)).flatten = (ps.take j).flatten ++ q) := by show _ = _; rw [take_snoc hq, List.flatten_append]; simp
      obtain ⟨ao2, cap2, g2, off2, rfl, -⟩ := hu
      have HQ := hide hq
      have HJ : Hid ((j : Int) + 1 < 140737488355328 + 1) := by have := HN.out; show _ < _; omega
      have HTL : Hid ((ps.take (j + 1)).flatten.length = (ps.take j).flatten.length + q.length) := by show _ = _; rw [HTS.out, List.length_append]
      generalize hn : (ps.take j).flatten.length = n at *
      have HNN := hide hn
      subst ht
      clear hq k1 hn
      have hn0 : (0 : Int) ≤ (n : Int) := by omega
      by_cases hbig : 20000 < n + q.length ∨ 1000 < ps.length
      · have HAW := hide (awake_any wr (HL.out.below HB.out))
        by_cases h1 : 20000 < n + q.length
        · have h1' : (20000 : Int) < (n : Int) + (q.length : Int) := by omega
          go_wp2_with (go_at_call 9; refine HAW.out.mono ?_; rintro e w' ⟨rfl, hb2⟩)
          go_ret
          exact ⟨rfl, HB.out.trans (hb2.mono HB.out.size)⟩
        · have h1' : ¬ (20000 : Int) < (n : Int) + (q.length : Int) := by omega
          have h2' : (1000 : Int) < (ps.length : Int) := by omega
          go_wp2_with (go_at_call 9; refine HAW.out.mono ?_; rintro e w' ⟨rfl, hb2⟩)
          go_ret
          exact ⟨rfl, HB.out.trans (hb2.mono HB.out.size)⟩
      · have h1' : ¬ (20000 : Int) < (n : Int) + (q.length : Int) := by omega
        have h2' : ¬ (1000 : Int) < (ps.length : Int) := by omega
        clear hbig
        go_wp2_with (at_builtin; refine wpList_append_bytes rfl _ _ rfl w.heap.size _ _ _ q rfl rfl HO.out HU.out (by have := HNN.out; omega) HB.out.size ?_)
        intro v' w' ho hg hat
        have HO2 := hide ho
        have HB2 := hide (HB.out.grown hg HB.out.size (fun k hk => (HO.out.lt k hk).1))
        obtain ⟨ao3, cap3, rfl⟩ := ho.form
        clear ho hg hat
        have hjj := HJ.out
        go_wp2
        go_roundg m
        case measure => omega
        case rel => exact ⟨j + 1, by omega, by go_num, by rw [HTL.out]; go_num, by rw [HTL.out]; omega, by rw [HTS.out]; exact HO2.out, HB2.out⟩
end Go.Proofs.YtlgmfiboekmhkaaDoor
