/- The law's 'entry'. -/
import Derived.Test.YtjofbehmhdjohaaOw
import Derived.Laws.ResultCell
import Derived.Laws.Rows
namespace Go.Proofs.Ytjofbehmhdjohaa
open Go.RowKit Go.Extern

theorem sizeRn : (Try.prog.info? 44).map (·.size) = some 2 := by kernel_rfl
theorem ret_rn1 {fn : Func} {R : Ending → World → Prop} {a : Act} {w : World} {p : Tmp} (h : fn.results = #[.cell p 44]) (g : Nat) (x y : Value) (hp : a.tmps.getD p undef = .pointer (some ⟨g, 0, none⟩))
    (hg : w.heap[g]? = some (.cells #[x, y] 44 (0, 0))) (hd : a.defers = []) (hR : R (.returned (.agg #[x, y])) w) : bodyPost Try.prog fn R .ret a w :=
  bodyPost_ret (results_cell_row h a.tmps w g 44 #[x, y] (0, 0) _ hp hg Try.underlying44 rfl sizeRn) hd hR
set_option maxRecDepth 100000 in
set_option maxHeartbeats 1000000 in
theorem entry_any {w : World} {v : Value} {A : List En} (hv : Ens w v A) (hu : Up (A.map En.num)) {p : Nat} {x : En} (hx : A[p]? = some x) :
    Calls Try.prog 27 #[v, .int .i64 x.num] w (fun e w' => e = .returned (.agg #[.int .i64 x.num, .slice x.ao x.n x.cap]) ∧ Below w.heap.size w w') := by
  obtain ⟨ao, cap, g, off, rfl, h2, h3, -, h5, -⟩ := hv
  have H2 := hide h2
  have H3 := hide h3
  have HU := hide hu
  have HX := hide hx
  have hp := (List.getElem?_eq_some_iff.1 hx).1
  obtain ⟨n, hn⟩ : ∃ n, A.length = n := ⟨_, rfl⟩
  rw [hn] at h5 hp ⊢
  have HN := hide hn
  have HA := hide (bel_alloc w (.cells #[.int .i64 0, .slice none 0 0] 44))
  have HR0 : Hid (BoxT 44 (w.alloc (.cells #[.int .i64 0, .slice none 0 0] 44)) w.heap.size 0 (.slice none 0 0)) := hide (heap_alloc_new _ _)
  obtain ⟨r, hr⟩ : ∃ r, w.heap.size = r := ⟨_, rfl⟩
  have HRE := hide hr
  simp only [hr] at HR0
  clear h2 h3 hn hu hx
  go_enter Try.func27, Try.ntmps27
  go_wp2_with fail
  clear hr
  go_loopg [9] (p + 1) (fun t i wr => ∃ j : Nat, j + t = p + 1 ∧ 0 < t ∧ i = .int .i64 (j : Int) ∧ Hid (BoxT 44 wr r 0 (.slice none 0 0)) ∧ Hid (Below w.heap.size w wr))
  case atStart => exact ⟨0, by omega, by omega, rfl, HR0, HA⟩
  case round =>
    obtain ⟨j, hj, ht, rfl, HR, HB⟩ := hrel
    have hlt : (j : Int) < (n : Int) := by omega
    have hb0 : (0 : Int) ≤ (j : Int) := by omega
    obtain ⟨y, he⟩ : ∃ e, A[j]? = some e := ⟨A[j]'(by rw [HN.out]; omega), by rw [List.getElem?_eq_getElem]⟩
    obtain rfl := H2.out (by rw [HN.out]; omega)
    obtain ⟨k0, k1⟩ := H3.out j y he
    replace k0 := cell_bel HB.out k0
    replace k1 := cell_bel HB.out k1
    have hj63 : (j : Int) + 1 < 140737488355328 + 1 := by omega
    have hA := bel_alloc wr (.cells #[.int .i64 y.num, .slice y.ao y.n y.cap] 44)
    have HRA := hide (HR.out.below hA)
    have HBA := hide (nextB HB.out hA)
    by_cases hc : y.num = x.num
    · have e1 : (y.num == x.num) = true := by simp [hc]
      obtain ⟨-, rfl⟩ := at_num HU.out he HX.out hc
      have f0 := HRA.out.c0
      have f1 := HRA.out.c1
      have z0 := row_frozen HRA.out 0
      have z1 := row_frozen HRA.out 1
      have h0 := set_cell_row (j := 0) HRA.out (.int .i64 y.num)
      have h1 := set_cell_row (j := 1) h0 (.slice y.ao y.n y.cap)
      have HH := hide h1
      have HBF := hide ((HBA.out.setCell (p := ⟨r, 0, none⟩) (by show _ ≤ r; rw [HRE.out]; exact Nat.le_refl _) (.int .i64 y.num)).setCell (p := ⟨r, 1, none⟩) (by show _ ≤ r; rw [HRE.out]; exact Nat.le_refl _) (.slice y.ao y.n y.cap))
      clear he hA hc h0 h1 HR HB HRA HBA
      go_wp2_with fail
      refine ret_rn1 rfl r _ _ rfl (by simpa using HH.out) rfl ⟨rfl, HBF.out⟩
    · have e1 : (y.num == x.num) = false := by simp [hc]
      have hjp : j ≠ p := fun e => by
        subst e
        rw [HX.out] at he
        cases he
        exact hc rfl
      clear he hA hc HR HB
      go_wp2_with fail
      go_roundg (p - j)
      case measure => omega
      case rel => exact ⟨j + 1, by omega, by omega, by simp, HRA, HBA⟩
end Go.Proofs.Ytjofbehmhdjohaa
