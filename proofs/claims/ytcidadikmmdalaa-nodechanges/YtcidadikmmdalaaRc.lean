/- The document's Cut. -/
import Derived.Test.YtcidadikmmdalaaAw
namespace Go.Proofs.Ytcidadikmmdalaa
open Go.RowKit Go.Extern

theorem elemI : Try.prog.elem 22 = 3 := by kernel_rfl
theorem underI : Try.prog.underlying 22 = some (.slice (Try.prog.elem 22)) := by kernel_rfl
theorem sizeI (w : World) : (sizeOf (Try.prog.elem 22)).run Try.prog w = .ok 1 w := by kernel_rfl
theorem cutI_to {w : World} {ao : Option Addr} {n cap hi : Nat} {l : List Int} (h : Ints w (.slice ao n cap) l) (hn : n = l.length) (h2 : hi ≤ n) (h0 : 0 < n) : ∃ a m c, (∀ w2, (Instr.slice 22 (.slice ao n cap) none (some (.int .i64 (hi : Int))) none).run Try.prog w2 = .ok (.slice a m c) w2) ∧ Ints w (.slice a m c) (l.take hi) := by
  subst hn
  obtain ⟨⟨ao', cap', g, off, e, k2, k3, k5, k6, k7, k8⟩, hI⟩ := h
  simp only [Value.slice.injEq, List.length_map, true_and] at e
  obtain ⟨rfl, rfl⟩ := e
  rw [List.length_map] at k2 k5 k7
  obtain rfl := k2 h0
  have hlen : ((l.take hi).map encI).length = hi := by simp; omega
  refine ⟨some ⟨g, off, none⟩, hi, cap, fun w2 => ?_, ⟨_, cap, g, off, by rw [hlen], fun _ => rfl, fun i u hu => ?_, by rw [hlen]; omega, by simp, by rw [hlen]; omega, k8⟩, fun k hk => hI k (List.mem_of_mem_take hk)⟩
  · rw [run_slice_h (P := Try.prog) w2 22 _ l.length cap underI .i64 (hi : Int) (by omega) (by omega), sizeI]
    simp [Result.andThen, sliced, add_plain]
  · rw [List.map_take, List.getElem?_take] at hu
    split at hu
    · exact k3 i u hu
    · cases hu
theorem cutI_from {w : World} {ao : Option Addr} {n cap lo : Nat} {l : List Int} (h : Ints w (.slice ao n cap) l) (hn : n = l.length) (h2 : lo < n) : ∃ a m c, (∀ w2, (Instr.slice 22 (.slice ao n cap) (some (.int .i64 (lo : Int))) none none).run Try.prog w2 = .ok (.slice a m c) w2) ∧ Ints w (.slice a m c) (l.drop lo) := by
  subst hn
  obtain ⟨⟨ao', cap', g, off, e, k2, k3, k5, k6, k7, k8⟩, hI⟩ := h
  simp only [Value.slice.injEq, List.length_map, true_and] at e
  obtain ⟨rfl, rfl⟩ := e
  rw [List.length_map] at k2 k5 k7
  obtain rfl := k2 (by omega)
  have hlen : ((l.drop lo).map encI).length = l.length - lo := by simp
  refine ⟨some ⟨g, off + lo, none⟩, l.length - lo, cap - lo, fun w2 => ?_, ⟨_, cap - lo, g, off + lo, by rw [hlen], fun _ => rfl, fun i u hu => ?_, by rw [hlen]; omega, by simp, by rw [hlen]; omega, Nat.le_trans (Nat.sub_le _ _) k8⟩, fun k hk => hI k (List.mem_of_mem_drop hk)⟩
  · rw [run_slice_l (P := Try.prog) w2 22 _ l.length cap underI .i64 (lo : Int) (by omega) (by omega), sizeI]
    simp [Result.andThen, sliced, add_plain, show cap ≠ lo by omega]
  · rw [List.map_drop, List.getElem?_drop] at hu
    have := k3 _ u hu
    rwa [Nat.add_assoc]
theorem buildR (L : Int) (a : Option Addr) (n c : Nat) (a2 : Option Addr) (n2 c2 : Nat) (w : World) : (Instr.build 24 #[(0, .int .i64 L), (1, .slice a n c), (2, .slice a2 n2 c2)]).run Try.prog w = .ok (.agg #[.int .i64 L, .slice a n c, .slice a2 n2 c2]) w := by kernel_rfl
theorem build2R (L : Int) (a1 : Option Addr) (n1 c1 : Nat) (a2 : Option Addr) (n2 c2 : Nat) (a3 : Option Addr) (n3 c3 : Nat) (a4 : Option Addr) (n4 c4 : Nat) (w : World) : (Instr.buildSlice 43 2 #[(0, .agg #[.int .i64 L, .slice a1 n1 c1, .slice a2 n2 c2]), (1, .agg #[.int .i64 L, .slice a3 n3 c3, .slice a4 n4 c4])]).run Try.prog w = .ok (.slice (some ⟨w.heap.size, 0, none⟩) 2 2) (w.alloc (.cells #[.int .i64 L, .slice a1 n1 c1, .slice a2 n2 c2, .int .i64 L, .slice a3 n3 c3, .slice a4 n4 c4] 24)) := by kernel_rfl

set_option maxRecDepth 100000 in
set_option maxHeartbeats 1000000 in
theorem rcut_any {w : World} {kv vv : Value} {l : List En} (L : Int) (hk : Ints w kv (l.map Prod.fst)) (hv : Ints w vv (l.map Prod.snd)) (hl : l.length ≤ 1000) :
    Calls Try.prog 23 #[.agg #[.int .i64 L, kv, vv]] w (Nodes w (cutS L l)) := by
  have HBA := hide (bel_alloc w (.cells #[.int .i64 L, kv, vv] 24))
  have HK := hide (hk.below HBA.out)
  have HV := hide (hv.below HBA.out)
  have HX := hide (BoxN.new 24 w L kv vv)
  obtain ⟨aK, n, cK, hkf, hn⟩ := hk.form
  obtain ⟨aV, nv, cV, hvf, hnv⟩ := hv.form
  have hnl : n = l.length := by rw [hn.out]; simp
  have hnvl : nv = n := by rw [hnv.out, hnl]; simp
  subst hkf hvf
  have hnvl' := hnvl.symm
  subst hnvl'
  unfold cutS
  rw [← hnl]
  have HNL := hide hnl
  clear hk hv hn hnv hnvl
  by_cases h0 : n = 0
  · rw [if_pos h0]
    subst h0
    clear hnl
    go_enter Try.func23, Try.ntmps23
    go_wp2_with fail
    go_ret
    exact ⟨_, rfl, Nds.nil _, HBA.out⟩
  rw [if_neg h0]
  have e0 : ((n : Int) == 0) = false := by simp; omega
  by_cases h7 : n ≤ 7
  · rw [if_pos h7]
    have e7 : (n : Int) < 8 := by omega
    clear hnl
    go_enter Try.func23, Try.ntmps23
    go_wp2_with fail
    go_ret
    have hba := bel_alloc (w.alloc (.cells #[.int .i64 L, .slice aK n cK, .slice aV n cV] 24)) (.cells #[.int .i64 L, .slice aK n cK, .slice aV n cV] 24)
    refine ⟨_, rfl, ?_, nextB HBA.out hba⟩
    have := Nds.one (heap_alloc_new (w.alloc (.cells #[.int .i64 L, .slice aK n cK, .slice aV n cV] 24)) (.cells #[.int .i64 L, .slice aK n cK, .slice aV n cV] 24)) (HK.out.below hba) (HV.out.below hba)
    rw [World.size_alloc] at this
    exact this
  · rw [if_neg h7]
    have e7 : ¬ (n : Int) < 8 := by omega
    obtain ⟨a1, n1, c1, hs1', h1⟩ := cutI_to HK.out (hi := 4) (by simp [hnl]) (by omega) (by omega)
    obtain ⟨a2, n2, c2, hs2', h2⟩ := cutI_to HV.out (hi := 4) (by simp [hnl]) (by omega) (by omega)
    obtain ⟨a3, n3, c3, hs3', h3⟩ := cutI_from HK.out (lo := 4) (by simp [hnl]) (by omega)
    obtain ⟨a4, n4, c4, hs4', h4⟩ := cutI_from HV.out (lo := 4) (by simp [hnl]) (by omega)
    have HH := hide (And.intro h1 (And.intro h2 (And.intro h3 h4)))
    have HSS := hide (And.intro hs1' (And.intro hs2' (And.intro hs3' hs4')))
    have HS := hide (below_drew0 (w.alloc (.cells #[.int .i64 L, .slice aK n cK, .slice aV n cV] 24)))
    clear hs1' hs2' hs3' hs4' h1 h2 h3 h4 hnl
    go_enter Try.func23, Try.ntmps23
    go_wp2_with fail
    obtain ⟨wA, hwA⟩ : ∃ x, w.alloc (.cells #[.int .i64 L, .slice aK n cK, .slice aV n cV] 24) = x := ⟨_, rfl⟩
    simp only [hwA] at HX HBA HH HS ⊢
    clear hwA
    obtain ⟨hs1, hs2, hs3, hs4⟩ := HSS.out
    obtain ⟨X0, X1, X2⟩ := HX.out.cells
    refine wp_region_held_drew (S := Below wA.heap.size wA) (by kernel_rfl) HS.out (fun hS => ?_)
    obtain ⟨wd, hwd⟩ : ∃ x, wA.drew = x := ⟨_, rfl⟩
    simp only [hwd] at hS ⊢
    clear hwd
    refine take_want 0 (some 13) (.pointer (some ⟨w.heap.size, 0, none⟩)) rfl rfl rfl (by kernel_rfl) (by kernel_rfl) (by kernel_rfl) (fun _ _ _ h => h) (fun wx hx => exec_field rfl (fldR0 _ _ wx) rfl) hS ?_
    simp only [Act.put, List.setIfInBounds_toArray, List.set_cons_zero, List.set_cons_succ]
    refine take_want 1 (some 14) (.int .i64 L) rfl rfl rfl (by kernel_rfl) (by kernel_rfl) (by kernel_rfl) (fun _ _ _ h => h) (fun wx hx => exec_load rfl (load_intP (cell_bel hx X0)) rfl) hS ?_
    simp only [Act.put, List.setIfInBounds_toArray, List.set_cons_zero, List.set_cons_succ]
    refine take_want 2 (some 15) (.pointer (some ⟨w.heap.size, 0 + 1, none⟩)) rfl rfl rfl (by kernel_rfl) (by kernel_rfl) (by kernel_rfl) (fun _ _ _ h => h) (fun wx hx => exec_field rfl (fldR1 _ _ wx) rfl) hS ?_
    simp only [Act.put, List.setIfInBounds_toArray, List.set_cons_zero, List.set_cons_succ]
    refine take_want 3 (some 16) (.slice aK n cK) rfl rfl rfl (by kernel_rfl) (by kernel_rfl) (by kernel_rfl) (fun _ _ _ h => h) (fun wx hx => exec_load rfl (load_intsP (cell_bel hx X1)) rfl) hS ?_
    simp only [Act.put, List.setIfInBounds_toArray, List.set_cons_zero, List.set_cons_succ]
    refine take_want 4 (some 17) (.slice a1 n1 c1) rfl rfl rfl (by kernel_rfl) (by kernel_rfl) (by kernel_rfl) (fun _ _ _ h => h) (fun wx hx => exec_slice_h rfl ((run_sliceAt_slice wx _ _ _ _ _ underI).trans (hs1 wx)) rfl rfl) hS ?_
    simp only [Act.put, List.setIfInBounds_toArray, List.set_cons_zero, List.set_cons_succ]
    refine take_want 5 (some 18) (.pointer (some ⟨w.heap.size, 0 + 2, none⟩)) rfl rfl rfl (by kernel_rfl) (by kernel_rfl) (by kernel_rfl) (fun _ _ _ h => h) (fun wx hx => exec_field rfl (fldR2 _ _ wx) rfl) hS ?_
    simp only [Act.put, List.setIfInBounds_toArray, List.set_cons_zero, List.set_cons_succ]
    refine take_want 6 (some 19) (.slice aV n cV) rfl rfl rfl (by kernel_rfl) (by kernel_rfl) (by kernel_rfl) (fun _ _ _ h => h) (fun wx hx => exec_load rfl (load_intsP (cell_bel hx X2)) rfl) hS ?_
    simp only [Act.put, List.setIfInBounds_toArray, List.set_cons_zero, List.set_cons_succ]
    refine take_want 7 (some 20) (.slice a2 n2 c2) rfl rfl rfl (by kernel_rfl) (by kernel_rfl) (by kernel_rfl) (fun _ _ _ h => h) (fun wx hx => exec_slice_h rfl ((run_sliceAt_slice wx _ _ _ _ _ underI).trans (hs2 wx)) rfl rfl) hS ?_
    simp only [Act.put, List.setIfInBounds_toArray, List.set_cons_zero, List.set_cons_succ]
    refine take_want 8 (some 21) (.agg #[.int .i64 L, .slice a1 n1 c1, .slice a2 n2 c2]) rfl rfl rfl (by kernel_rfl) (by kernel_rfl) (by kernel_rfl) (fun _ _ _ h => h) (fun wx hx => exec_build3 rfl (buildR L _ _ _ _ _ _ _) rfl rfl rfl) hS ?_
    simp only [Act.put, List.setIfInBounds_toArray, List.set_cons_zero, List.set_cons_succ]
    refine take_want 9 (some 22) (.pointer (some ⟨w.heap.size, 0, none⟩)) rfl rfl rfl (by kernel_rfl) (by kernel_rfl) (by kernel_rfl) (fun _ _ _ h => h) (fun wx hx => exec_field rfl (fldR0 _ _ wx) rfl) hS ?_
    simp only [Act.put, List.setIfInBounds_toArray, List.set_cons_zero, List.set_cons_succ]
    refine take_want 10 (some 23) (.int .i64 L) rfl rfl rfl (by kernel_rfl) (by kernel_rfl) (by kernel_rfl) (fun _ _ _ h => h) (fun wx hx => exec_load rfl (load_intP (cell_bel hx X0)) rfl) hS ?_
    simp only [Act.put, List.setIfInBounds_toArray, List.set_cons_zero, List.set_cons_succ]
    refine take_want 11 (some 24) (.pointer (some ⟨w.heap.size, 0 + 1, none⟩)) rfl rfl rfl (by kernel_rfl) (by kernel_rfl) (by kernel_rfl) (fun _ _ _ h => h) (fun wx hx => exec_field rfl (fldR1 _ _ wx) rfl) hS ?_
    simp only [Act.put, List.setIfInBounds_toArray, List.set_cons_zero, List.set_cons_succ]
    refine take_want 12 (some 25) (.slice aK n cK) rfl rfl rfl (by kernel_rfl) (by kernel_rfl) (by kernel_rfl) (fun _ _ _ h => h) (fun wx hx => exec_load rfl (load_intsP (cell_bel hx X1)) rfl) hS ?_
    simp only [Act.put, List.setIfInBounds_toArray, List.set_cons_zero, List.set_cons_succ]
    refine take_want 13 (some 26) (.slice a3 n3 c3) rfl rfl rfl (by kernel_rfl) (by kernel_rfl) (by kernel_rfl) (fun _ _ _ h => h) (fun wx hx => exec_slice_l rfl ((run_sliceAt_slice wx _ _ _ _ _ underI).trans (hs3 wx)) rfl rfl) hS ?_
    simp only [Act.put, List.setIfInBounds_toArray, List.set_cons_zero, List.set_cons_succ]
    refine take_want 14 (some 27) (.pointer (some ⟨w.heap.size, 0 + 2, none⟩)) rfl rfl rfl (by kernel_rfl) (by kernel_rfl) (by kernel_rfl) (fun _ _ _ h => h) (fun wx hx => exec_field rfl (fldR2 _ _ wx) rfl) hS ?_
    simp only [Act.put, List.setIfInBounds_toArray, List.set_cons_zero, List.set_cons_succ]
    refine take_want 15 (some 28) (.slice aV n cV) rfl rfl rfl (by kernel_rfl) (by kernel_rfl) (by kernel_rfl) (fun _ _ _ h => h) (fun wx hx => exec_load rfl (load_intsP (cell_bel hx X2)) rfl) hS ?_
    simp only [Act.put, List.setIfInBounds_toArray, List.set_cons_zero, List.set_cons_succ]
    refine take_want 16 (some 29) (.slice a4 n4 c4) rfl rfl rfl (by kernel_rfl) (by kernel_rfl) (by kernel_rfl) (fun _ _ _ h => h) (fun wx hx => exec_slice_l rfl ((run_sliceAt_slice wx _ _ _ _ _ underI).trans (hs4 wx)) rfl rfl) hS ?_
    simp only [Act.put, List.setIfInBounds_toArray, List.set_cons_zero, List.set_cons_succ]
    refine take_want 17 (some 30) (.agg #[.int .i64 L, .slice a3 n3 c3, .slice a4 n4 c4]) rfl rfl rfl (by kernel_rfl) (by kernel_rfl) (by kernel_rfl) (fun _ _ _ h => h) (fun wx hx => exec_build3 rfl (buildR L _ _ _ _ _ _ _) rfl rfl rfl) hS ?_
    simp only [Act.put, List.setIfInBounds_toArray, List.set_cons_zero, List.set_cons_succ]
    refine only_value 18 (some 31) rfl rfl rfl (by kernel_rfl) (exec_two rfl (build2R L a1 n1 c1 a2 n2 c2 a3 n3 c3 a4 n4 c4 _) rfl rfl) (nextB hS (bel_alloc _ _)) ?_
    have hS9 := nextB hS (bel_alloc wd (.cells #[.int .i64 L, .slice a1 n1 c1, .slice a2 n2 c2, .int .i64 L, .slice a3 n3 c3, .slice a4 n4 c4] 24))
    simp only [Act.put, List.setIfInBounds_toArray, List.set_cons_zero, List.set_cons_succ]
    refine take_want 19 (some 2) (.slice (some ⟨wd.heap.size, 0, none⟩) 2 2) rfl rfl rfl (by kernel_rfl) (by kernel_rfl) (by kernel_rfl) (fun _ _ _ h => h) (fun wx hx => exec_assign rfl rfl) hS9 ?_
    simp only [Act.put, List.setIfInBounds_toArray, List.set_cons_zero, List.set_cons_succ]
    refine wpAnyH_done (by kernel_rfl) ?_ _
    clear hs1 hs2 hs3 hs4 X0 X1 X2
    go_wp2_with fail
    go_ret
    obtain ⟨h1, h2, h3, h4⟩ := HH.out
    rw [← List.map_take] at h1 h2
    rw [← List.map_drop] at h3 h4
    exact ⟨_, rfl, Nds.two (heap_alloc_new _ _) (h1.below hS9) (h2.below hS9) (h3.below hS9) (h4.below hS9), nextB HBA.out hS9⟩
end Go.Proofs.Ytcidadikmmdalaa
