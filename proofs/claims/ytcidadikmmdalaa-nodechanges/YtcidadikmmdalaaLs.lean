/- The law's list, of equal lists. -/
import Derived.Test.YtcidadikmmdalaaRg
import Derived.Test.YtcidadikmmdalaaSa
namespace Go.Proofs.Ytcidadikmmdalaa
open Go.RowKit Go.Extern

theorem enterSame (args : Array Value) (w : World) : (callFunc 12 args).run Try.prog w = .ok (.enter 12 args) w := by kernel_rfl
theorem index_rnodes {w : World} {g off n cap i : Nat} (h : i < n) : (Instr.indexAt 43 (.slice (some ⟨g, off, none⟩) n cap) (.int .i64 (i : Int))).run Try.prog w = .ok (.pointer (some ⟨g, off + i * 3, none⟩)) w := by
  have hlt : (i : Int) < (n : Int) := by omega
  have hge : (0 : Int) ≤ (i : Int) := by omega
  go_simp

set_option maxRecDepth 100000 in
set_option maxHeartbeats 2000000 in
theorem list_any {w : World} {va vb : Value} {ns : List Nd} (ha : Nds w va ns) (hb : Nds w vb ns) (hl : ns.length ≤ 1000) :
    Calls Try.prog 18 #[va, vb] w fun e w' => e = .returned (.bool true) ∧ Below w.heap.size w w' := by
  obtain ⟨aA, cA, gA, nn, rfl, hn, hA1, hA2⟩ := ha
  obtain ⟨aB, cB, gB, nn2, rfl, hn2, hB1, hB2⟩ := hb
  obtain rfl : nn = nn2 := by rw [hn.out, hn2.out]
  rw [← hn.out] at hl hA1 hB1
  have HA1 := hide hA1
  have HB1 := hide hB1
  have HA2 := hide hA2
  have HB2 := hide hB2
  have HN := hide hn.out
  have en : ((nn : Int) == (nn : Int)) = true := by simp
  clear hA1 hB1 hA2 hB2 hn hn2
  go_enter Try.func18, Try.ntmps18
  go_wp2_with fail
  go_loopg [13] nn (fun t i wr => ∃ j : Nat, j + t = nn ∧ i = .int .i64 (j : Int) ∧ Hid (Below w.heap.size w wr))
  case atStart => exact ⟨0, by omega, rfl, hide (Below.refl _ _)⟩
  case round =>
    obtain ⟨j, hj, rfl, HB⟩ := hrel
    cases gk with
    | zero =>
      have hnl : ¬ (j : Int) < (nn : Int) := by omega
      go_wp2_with fail
      go_ret
      exact ⟨rfl, HB.out⟩
    | succ m =>
      have hlt : (j : Int) < (nn : Int) := by omega
      have hjn : j < nn := by omega
      obtain rfl := HA1.out (by omega)
      obtain rfl := HB1.out (by omega)
      obtain ⟨⟨L, q⟩, hq⟩ : ∃ nd, ns[j]? = some nd := ⟨ns[j]'(by rw [← HN.out]; omega), by rw [List.getElem?_eq_getElem]⟩
      have HAT := hide ((HA2.out j _ hq).below HB.out)
      have HBT := hide ((HB2.out j _ hq).below HB.out)
      have HSB := hide (below_drew0 wr)
      have e7 : IntKind.i64.wrap ((j : Int) + 1) = (j : Int) + 1 := IntWalk.i64_in _ ⟨by omega, by omega⟩
      clear hq
      go_wp2_with fail
      obtain ⟨ka, va, A0, A1, A2, hka, hva⟩ := HAT.out
      obtain ⟨kb, vb, B0, B1, B2, hkb, hvb⟩ := HBT.out
      simp only at A0 B0 hka hva hkb hvb
      rw [show j * 3 = 0 + j * 3 by omega] at A0 A1 A2 B0 B1 B2
      refine wp_region_held_drew (S := Below wr.heap.size wr) (by kernel_rfl) HSB.out (fun hS => ?_)
      refine take_want 0 (some 16) (.slice (some ⟨gA, 0, none⟩) nn cA) rfl rfl rfl (by kernel_rfl) (by kernel_rfl) (by kernel_rfl) (fun _ _ _ h => h) (fun wx hx => exec_move rfl rfl) hS ?_
      simp only [Act.put, List.setIfInBounds_toArray, List.set_cons_zero, List.set_cons_succ]
      refine take_want 1 (some 17) (.int .i64 (j : Int)) rfl rfl rfl (by kernel_rfl) (by kernel_rfl) (by kernel_rfl) (fun _ _ _ h => h) (fun wx hx => exec_move rfl rfl) hS ?_
      simp only [Act.put, List.setIfInBounds_toArray, List.set_cons_zero, List.set_cons_succ]
      refine take_want 2 (some 18) (.pointer (some ⟨gA, 0 + j * 3, none⟩)) rfl rfl rfl (by kernel_rfl) (by kernel_rfl) (by kernel_rfl) (fun _ _ _ h => h) (fun wx hx => exec_index rfl (index_nodes hjn) rfl rfl) hS ?_
      simp only [Act.put, List.setIfInBounds_toArray, List.set_cons_zero, List.set_cons_succ]
      refine take_want 3 (some 19) (.agg #[.int .i64 L, ka, va]) rfl rfl rfl (by kernel_rfl) (by kernel_rfl) (by kernel_rfl) (fun _ _ _ h => h) (fun wx hx => exec_load rfl (load_nodeP ⟨cell_bel hx A0, cell_bel hx A1, cell_bel hx A2⟩) rfl) hS ?_
      simp only [Act.put, List.setIfInBounds_toArray, List.set_cons_zero, List.set_cons_succ]
      refine take_want 4 (some 20) (.slice (some ⟨gB, 0, none⟩) nn cB) rfl rfl rfl (by kernel_rfl) (by kernel_rfl) (by kernel_rfl) (fun _ _ _ h => h) (fun wx hx => exec_move rfl rfl) hS ?_
      simp only [Act.put, List.setIfInBounds_toArray, List.set_cons_zero, List.set_cons_succ]
      refine take_want 5 (some 21) (.int .i64 (j : Int)) rfl rfl rfl (by kernel_rfl) (by kernel_rfl) (by kernel_rfl) (fun _ _ _ h => h) (fun wx hx => exec_move rfl rfl) hS ?_
      simp only [Act.put, List.setIfInBounds_toArray, List.set_cons_zero, List.set_cons_succ]
      refine take_want 6 (some 22) (.pointer (some ⟨gB, 0 + j * 3, none⟩)) rfl rfl rfl (by kernel_rfl) (by kernel_rfl) (by kernel_rfl) (fun _ _ _ h => h) (fun wx hx => exec_index rfl (index_rnodes hjn) rfl rfl) hS ?_
      simp only [Act.put, List.setIfInBounds_toArray, List.set_cons_zero, List.set_cons_succ]
      refine take_want 7 (some 23) (.agg #[.int .i64 L, kb, vb]) rfl rfl rfl (by kernel_rfl) (by kernel_rfl) (by kernel_rfl) (fun _ _ _ h => h) (fun wx hx => exec_load rfl (load_rnodeP ⟨cell_bel hx B0, cell_bel hx B1, cell_bel hx B2⟩) rfl) hS ?_
      simp only [Act.put, List.setIfInBounds_toArray, List.set_cons_zero, List.set_cons_succ]
      refine call_want 8 (some 24) rfl rfl rfl (by kernel_rfl) (exec_call2 rfl enterSame rfl rfl rfl) ((same_any L L (hka.below hS) (hva.below hS) (hkb.below hS) (hvb.below hS)).mono ?_)
      rintro e' w9 ⟨rfl, hb9⟩
      rw [sameB_self]
      have hS9 := nextB hS hb9
      refine ⟨_, rfl, hS9, ?_⟩
      simp only [Act.put, List.setIfInBounds_toArray, List.set_cons_zero, List.set_cons_succ]
      refine take_want 9 (some 25) (.bool false) rfl rfl rfl (by kernel_rfl) (by kernel_rfl) (by kernel_rfl) (fun _ _ _ h => h) (fun wx hx => exec_not (b := true) rfl rfl) hS9 ?_
      simp only [Act.put, List.setIfInBounds_toArray, List.set_cons_zero, List.set_cons_succ]
      refine wpAnyH_done (by kernel_rfl) ?_ _
      clear A0 A1 A2 B0 B1 B2 hka hva hkb hvb
      go_wp2_with fail
      go_roundg m
      case measure => omega
      case rel => exact ⟨j + 1, by omega, by go_num, hide (nextB HB.out hS9)⟩
end Go.Proofs.Ytcidadikmmdalaa
