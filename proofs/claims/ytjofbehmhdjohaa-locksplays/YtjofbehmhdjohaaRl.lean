/- There, Ahead, Without of the document; 'ints'. -/
import Derived.Test.YtjofbehmhdjohaaEnF
namespace Go.Proofs.Ytjofbehmhdjohaa
open Go.RowKit Go.Extern

/-- What There leaves. -/
def Thered (w : World) (A : List En) (k : Int) (e : Ending) (w' : World) : Prop := (∃ r, e = .returned (.bool r) ∧ (r = true ↔ ∃ x ∈ A, x.num = k)) ∧ w' = w
set_option maxRecDepth 100000 in
set_option maxHeartbeats 1000000 in
theorem there_any {w : World} {v : Value} {A : List En} (hv : Ens w v A) (k : Int) : Calls Try.prog 19 #[v, .int .i64 k] w (Thered w A k) := by
  obtain ⟨ao, cap, g, off, rfl, h2, h3, -, h5, -⟩ := hv
  have H2 := hide h2
  have H3 := hide h3
  obtain ⟨n, hn⟩ : ∃ n, A.length = n := ⟨_, rfl⟩
  rw [hn] at h5 ⊢
  have HN := hide hn
  clear h2 h3 hn
  go_enter Try.func19, Try.ntmps19
  go_wp2_with fail
  go_loopg [5] n (fun t i wr => ∃ j : Nat, j + t = n ∧ i = .int .i64 (j : Int) ∧ Hid (∀ x ∈ A.take j, x.num ≠ k) ∧ w = wr)
  case atStart => exact ⟨0, by omega, rfl, hide (by simp), rfl⟩
  case round =>
    obtain ⟨j, hj, rfl, HA, rfl⟩ := hrel
    cases gk with
    | zero =>
      have hnl : ¬ (j : Int) < (n : Int) := by omega
      have hend : A.take j = A := List.take_of_length_le (by rw [HN.out]; omega)
      rw [hend] at HA
      clear hend
      go_wp2_with fail
      go_ret
      exact ⟨⟨false, rfl, by simp; exact HA.out⟩, rfl⟩
    | succ m =>
      have hlt : (j : Int) < (n : Int) := by omega
      have hb0 : (0 : Int) ≤ (j : Int) := by omega
      obtain ⟨y, he⟩ : ∃ e, A[j]? = some e := ⟨A[j]'(by rw [HN.out]; omega), by rw [List.getElem?_eq_getElem]⟩
      obtain rfl := H2.out (by rw [HN.out]; omega)
      obtain ⟨k0, k1⟩ := H3.out j y he
      have HT := hide (take_snoc he)
      have hj63 : IntKind.i64.wrap ((j : Int) + 1) = (j : Int) + 1 := IntWalk.i64_in _ ⟨by omega, by omega⟩
      clear he k1
      by_cases hc : y.num = k
      · have e1 : (y.num == k) = true := by simp [hc]
        have HC := hide hc
        clear hc
        go_wp2_with fail
        go_ret
        exact ⟨⟨true, rfl, by simp; exact ⟨y, List.mem_of_mem_take (by rw [HT.out]; simp), HC.out⟩⟩, rfl⟩
      · have e1 : (y.num == k) = false := by simp [hc]
        have HC := hide hc
        clear hc
        go_wp2_with fail
        go_roundg m
        case measure => omega
        case rel => exact ⟨j + 1, by omega, by simp, hide (fun x hx => by
          rw [HT.out] at hx
          rcases List.mem_append.1 hx with hx | hx
          · exact HA.out x hx
          · simp at hx; rw [hx]; exact HC.out), rfl⟩

theorem index_intsN {w : World} {g off n cap i : Nat} (h : i < n) : (Instr.indexAt 45 (.slice (some ⟨g, off, none⟩) n cap) (.int .i64 (i : Int))).run Try.prog w = .ok (.pointer (some ⟨g, off + i, none⟩)) w := by
  have hlt : (i : Int) < (n : Int) := by omega
  have hge : (0 : Int) ≤ (i : Int) := by omega
  go_simp
section
variable {ρ : Operand → Value} {o : Oper} {w : World} {x y : Operand} {n m : Int} {T : TypeId} {b : Bool}
theorem exec_neq0 (ho : o.op = .binOp .neq 3 x y T) (hx : ρ x = .int .i64 n) (hy : ρ y = .int .i64 m) (h : (n != m) = b) : (execOp ρ o).run Try.prog w = .ok (.value (.bool b)) w := by
  subst h
  unfold execOp; simp only [ho, hx, hy]; go_simp
end
set_option maxRecDepth 100000 in
set_option maxHeartbeats 1000000 in
theorem ints_any {w : World} {v1 v2 : Value} {l1 l2 : List Int} (h1 : Ints w v1 l1) (h2 : Ints w v2 l2) : Calls Try.prog 22 #[v1, v2] w (Clc w (decide (l1 = l2))) := by
  have hl1 := h1.len
  obtain ⟨a1, c1, g1, o1, rfl, p2, p3⟩ := h1.at_
  obtain ⟨a2, c2, g2, o2, rfl, q2, q3⟩ := h2.at_
  have P2 := hide p2
  have P3 := hide p3
  have Q2 := hide q2
  have Q3 := hide q3
  obtain ⟨n, hn⟩ : ∃ n, l1.length = n := ⟨_, rfl⟩
  obtain ⟨n2, hn2⟩ : ∃ n, l2.length = n := ⟨_, rfl⟩
  rw [hn] at hl1 ⊢
  rw [hn2]
  have HN := hide hn
  have HN2 := hide hn2
  clear h1 h2 p2 p3 q2 q3 hn hn2
  by_cases hne : n = n2
  · subst hne
    have e0 : ((n : Int) != (n : Int)) = false := by simp
    go_enter Try.func22, Try.ntmps22
    go_wp2_with fail
    clear e0
    go_loopg [13] n (fun t i wr => ∃ j : Nat, j + t = n ∧ i = .int .i64 (j : Int) ∧ Hid (l1.take j = l2.take j) ∧ Hid (Below w.heap.size w wr))
    case atStart => exact ⟨0, by omega, rfl, hide (by simp), hide (Below.refl _ _)⟩
    case round =>
      obtain ⟨j, hj, rfl, HA, HB⟩ := hrel
      cases gk with
      | zero =>
        have hnl : ¬ (j : Int) < (n : Int) := by omega
        have hend : l1 = l2 := by
          have := HA.out
          rwa [List.take_of_length_le (by rw [HN.out]; omega), List.take_of_length_le (by rw [HN2.out]; omega)] at this
        have HE := hide hend
        clear hend
        go_wp2_with fail
        go_ret
        exact ⟨by rw [decide_eq_true HE.out]; rfl, HB.out⟩
      | succ m =>
        have hlt : (j : Int) < (n : Int) := by omega
        have hb0 : (0 : Int) ≤ (j : Int) := by omega
        obtain ⟨x, hx1⟩ : ∃ e, l1[j]? = some e := ⟨l1[j]'(by rw [HN.out]; omega), by rw [List.getElem?_eq_getElem]⟩
        obtain ⟨y, hy1⟩ : ∃ e, l2[j]? = some e := ⟨l2[j]'(by rw [HN2.out]; omega), by rw [List.getElem?_eq_getElem]⟩
        obtain rfl := P2.out (by rw [HN.out]; omega)
        obtain rfl := Q2.out (by rw [HN2.out]; omega)
        have k1 := cell_bel HB.out (P3.out j x hx1)
        have k2 := cell_bel HB.out (Q3.out j y hy1)
        have HX := hide hx1
        have HY := hide hy1
        have hj63 : (j : Int) + 1 < 140737488355328 + 1 := by omega
        have hjn : j < n := by omega
        clear hx1 hy1
        go_wp2_with fail
        refine wp_region_held_drew (S := fun wx => Below wr.heap.size wr wx) (by kernel_rfl) (below_drew0 wr) (fun hS => ?_)
        refine take_want 0 (some 16) (.slice (some ⟨g1, o1, none⟩) n c1) rfl rfl rfl (by kernel_rfl) (by kernel_rfl) (by kernel_rfl) (fun _ _ _ h => h) (fun wx hx => exec_move rfl rfl) hS ?_
        simp only [Act.put, List.setIfInBounds_toArray, List.set_cons_zero, List.set_cons_succ]
        refine take_want 1 (some 17) (.int .i64 (j : Int)) rfl rfl rfl (by kernel_rfl) (by kernel_rfl) (by kernel_rfl) (fun _ _ _ h => h) (fun wx hx => exec_move rfl rfl) hS ?_
        simp only [Act.put, List.setIfInBounds_toArray, List.set_cons_zero, List.set_cons_succ]
        refine take_want 2 (some 18) (.pointer (some ⟨g1, o1 + j, none⟩)) rfl rfl rfl (by kernel_rfl) (by kernel_rfl) (by kernel_rfl) (fun _ _ _ h => h) (fun wx hx => exec_index rfl (index_intsN hjn) rfl rfl) hS ?_
        simp only [Act.put, List.setIfInBounds_toArray, List.set_cons_zero, List.set_cons_succ]
        refine take_want 3 (some 19) (.int .i64 x) rfl rfl rfl (by kernel_rfl) (by kernel_rfl) (by kernel_rfl) (fun _ _ _ h => h) (fun wx hx => exec_load rfl (load_intV (cell_bel hx k1)) rfl) hS ?_
        simp only [Act.put, List.setIfInBounds_toArray, List.set_cons_zero, List.set_cons_succ]
        refine take_want 4 (some 20) (.slice (some ⟨g2, o2, none⟩) n c2) rfl rfl rfl (by kernel_rfl) (by kernel_rfl) (by kernel_rfl) (fun _ _ _ h => h) (fun wx hx => exec_move rfl rfl) hS ?_
        simp only [Act.put, List.setIfInBounds_toArray, List.set_cons_zero, List.set_cons_succ]
        refine take_want 5 (some 21) (.int .i64 (j : Int)) rfl rfl rfl (by kernel_rfl) (by kernel_rfl) (by kernel_rfl) (fun _ _ _ h => h) (fun wx hx => exec_move rfl rfl) hS ?_
        simp only [Act.put, List.setIfInBounds_toArray, List.set_cons_zero, List.set_cons_succ]
        refine take_want 6 (some 22) (.pointer (some ⟨g2, o2 + j, none⟩)) rfl rfl rfl (by kernel_rfl) (by kernel_rfl) (by kernel_rfl) (fun _ _ _ h => h) (fun wx hx => exec_index rfl (index_intsN hjn) rfl rfl) hS ?_
        simp only [Act.put, List.setIfInBounds_toArray, List.set_cons_zero, List.set_cons_succ]
        refine take_want 7 (some 23) (.int .i64 y) rfl rfl rfl (by kernel_rfl) (by kernel_rfl) (by kernel_rfl) (fun _ _ _ h => h) (fun wx hx => exec_load rfl (load_intV (cell_bel hx k2)) rfl) hS ?_
        simp only [Act.put, List.setIfInBounds_toArray, List.set_cons_zero, List.set_cons_succ]
        refine take_want 8 (some 24) (.bool (x != y)) rfl rfl rfl (by kernel_rfl) (by kernel_rfl) (by kernel_rfl) (fun _ _ _ h => h) (fun wx hx => exec_neq0 rfl rfl rfl rfl) hS ?_
        simp only [Act.put, List.setIfInBounds_toArray, List.set_cons_zero, List.set_cons_succ]
        refine wpAnyH_done (by kernel_rfl) ?_ _
        have HB1 := hide (nextB HB.out hS)
        clear hS k1 k2
        by_cases hc : x = y
        · have e1 : (x != y) = false := by simp [hc]
          have HC := hide hc
          rw [e1]
          clear hc e1
          go_wp2_with fail
          go_roundg m
          case measure => omega
          case rel => exact ⟨j + 1, by omega, by simp, hide (by rw [take_snoc HX.out, take_snoc HY.out, HA.out, HC.out]), HB1⟩
        · have e1 : (x != y) = true := by simpa using hc
          have HC := hide hc
          rw [e1]
          clear hc e1
          go_wp2_with fail
          go_ret
          exact ⟨by rw [decide_eq_false (fun e => HC.out (by have h1 := HX.out; rw [e, HY.out] at h1; exact (Option.some.inj h1).symm))]; rfl, HB1.out⟩
  · have e0 : ((n : Int) != (n2 : Int)) = true := by simp; omega
    have HNE := hide hne
    clear hne
    go_enter Try.func22, Try.ntmps22
    go_wp2_with fail
    go_ret
    exact ⟨by rw [decide_eq_false (fun e => HNE.out (by rw [← HN.out, ← HN2.out, e]))]; rfl, Below.refl _ _⟩

theorem index_rentries {w : World} {g off n cap i : Nat} (h : i < n) : (Instr.indexAt 31 (.slice (some ⟨g, off, none⟩) n cap) (.int .i64 (i : Int))).run Try.prog w = .ok (.pointer (some ⟨g, off + i * 2, none⟩)) w := by
  have hlt : (i : Int) < (n : Int) := by omega
  have hge : (0 : Int) ≤ (i : Int) := by omega
  go_simp
theorem load_rentry {w : World} {g i : Nat} {k : Int} {v : Value} (h1 : w.cell? ⟨g, i, none⟩ = some (.int .i64 k)) (h2 : w.cell? ⟨g, i + 1, none⟩ = some v) : (Instr.loadAt 44 (.pointer (some ⟨g, i, none⟩))).run Try.prog w = .ok (.agg #[.int .i64 k, v]) w := by
  go_simp
theorem filt_no {A : List En} {j : Nat} {y : En} {k : Int} (h : A.take (j + 1) = A.take j ++ [y]) (hc : (y.num != k) = false) : ((A.take (j + 1)).filter fun e => e.num != k) = (A.take j).filter fun e => e.num != k := by
  rw [h, List.filter_append, List.filter_cons_of_neg (by show ¬ ((y.num != k) = true); rw [hc]; simp), List.filter_nil, List.append_nil]
theorem filt_yes {A : List En} {j : Nat} {y : En} {k : Int} (h : A.take (j + 1) = A.take j ++ [y]) (hc : (y.num != k) = true) : ((A.take (j + 1)).filter fun e => e.num != k) = ((A.take j).filter fun e => e.num != k) ++ [y] := by
  rw [h, List.filter_append, List.filter_cons_of_pos (by show (y.num != k) = true; exact hc), List.filter_nil]
/-- Without. -/
def Withoutd (w : World) (A : List En) (e : Ending) (w' : World) : Prop := ∃ v, e = .returned v ∧ OwnK enE 2 44 w' w.heap.size v A ∧ Below w.heap.size w w'
set_option maxRecDepth 100000 in
set_option maxHeartbeats 1000000 in
theorem without_any {w : World} {v : Value} {A : List En} (hv : Ens w v A) (hl : A.length ≤ 900) (k : Int) : Calls Try.prog 21 #[v, .int .i64 k] w (Withoutd w (A.filter fun e => e.num != k)) := by
  obtain ⟨ao, cap, g, off, rfl, h2, h3, -, -⟩ := hv
  have H2 := hide h2
  have H3 := hide h3
  obtain ⟨n, hn⟩ : ∃ n, A.length = n := ⟨_, rfl⟩
  rw [hn] at hl ⊢
  have HN := hide hn
  clear h2 h3 hn
  go_enter Try.func21, Try.ntmps21
  go_wp2_with fail
  go_loopg [6, 5] n (fun t i o wr => ∃ j : Nat, j + t = n ∧ i = .int .i64 (j : Int) ∧ Hid (OwnK enE 2 44 wr w.heap.size o ((A.take j).filter fun e => e.num != k)) ∧ Hid (Below w.heap.size w wr))
  case atStart => exact ⟨0, by omega, rfl, hide (OwnK.nil _ _ _), hide (Below.refl _ _)⟩
  case round =>
    obtain ⟨j, hj, rfl, HO, HB⟩ := hrel
    obtain ⟨a5, n5, c5, rfl, -⟩ := HO.out.form
    cases gk with
    | zero =>
      have hnl : ¬ (j : Int) < (n : Int) := by omega
      have hend : A.take j = A := List.take_of_length_le (by rw [HN.out]; omega)
      rw [hend] at HO
      clear hend
      go_wp2_with fail
      go_ret
      exact ⟨_, rfl, HO.out, HB.out⟩
    | succ m =>
      have hlt : (j : Int) < (n : Int) := by omega
      have hb0 : (0 : Int) ≤ (j : Int) := by omega
      obtain ⟨y, he⟩ : ∃ e, A[j]? = some e := ⟨A[j]'(by rw [HN.out]; omega), by rw [List.getElem?_eq_getElem]⟩
      obtain rfl := H2.out (by rw [HN.out]; omega)
      obtain ⟨k0, k1⟩ := H3.out j y he
      replace k0 := cell_bel HB.out k0
      replace k1 := cell_bel HB.out k1
      have HT := hide (take_snoc he)
      have hj63 : IntKind.i64.wrap ((j : Int) + 1) = (j : Int) + 1 := IntWalk.i64_in _ ⟨by omega, by omega⟩
      clear he
      by_cases hc : y.num = k
      · have e1 : (y.num != k) = false := by simp [hc]
        have HE1 := hide e1
        clear hc
        go_wp2_with fail
        go_roundg m
        case measure => omega
        case rel => exact ⟨j + 1, by omega, by simp, hide (by rw [filt_no HT.out HE1.out]; exact HO.out), HB⟩
      · have e1 : (y.num != k) = true := by simpa using hc
        have HE1 := hide e1
        obtain ⟨a6, n6, c6, w', hap, ho, htu, -⟩ := more_rn HO.out HB.out.size y (by have h1 := List.length_filter_le (fun e : En => e.num != k) (A.take j); simp at h1 ⊢; omega)
        have HO2 := hide ho
        have HBW := hide (HB.out.trans (htu.below HB.out.size fun q hq => (HO.out.lt q hq).1))
        clear hc ho htu
        go_wp2_with (at_builtin; refine wpList_append_eq rfl _ _ rfl rfl rfl hap ?_)
        go_roundg m
        case measure => omega
        case rel => exact ⟨j + 1, by omega, by simp, hide (by rw [filt_yes HT.out HE1.out]; exact HO2.out), HBW⟩

set_option maxRecDepth 100000 in
set_option maxHeartbeats 4000000 in
theorem rahead_none {w : World} {v : Value} {A : List En} (hv : Ens w v A) {k : Int} (hno : ∀ x ∈ A, x.num ≠ k) : Calls Try.prog 20 #[v, .int .i64 k] w (Aheadd w A k) := by
  obtain ⟨ao, cap, g, off, rfl, h2, h3, -, h5, -⟩ := hv
  have H2 := hide h2
  have H3 := hide h3
  have HNO := hide hno
  obtain ⟨n, hn⟩ : ∃ n, A.length = n := ⟨_, rfl⟩
  rw [hn] at h5 ⊢
  have HN := hide hn
  clear h2 h3 hn hno
  go_enter Try.func20, Try.ntmps20
  go_wp2_with fail
  go_loopg [6, 5] n (fun t i o wr => ∃ j : Nat, j + t = n ∧ i = .int .i64 (j : Int) ∧ o = .slice none 0 0 ∧ w = wr)
  case atStart => exact ⟨0, by omega, rfl, rfl, rfl⟩
  case round =>
    obtain ⟨j, hj, rfl, rfl, rfl⟩ := hrel
    cases gk with
    | zero =>
      have hnl : ¬ (j : Int) < (n : Int) := by omega
      go_wp2_with fail
      go_ret
      exact ⟨_, [], rfl, OwnI.nil _ _, .inr ⟨HNO.out, rfl⟩, Below.refl _ _⟩
    | succ m =>
      have hlt : (j : Int) < (n : Int) := by omega
      have hb0 : (0 : Int) ≤ (j : Int) := by omega
      obtain ⟨y, he⟩ : ∃ e, A[j]? = some e := ⟨A[j]'(by rw [HN.out]; omega), by rw [List.getElem?_eq_getElem]⟩
      obtain rfl := H2.out (by rw [HN.out]; omega)
      obtain ⟨k0, k1⟩ := H3.out j y he
      have e1 : (y.num == k) = false := by simp; exact HNO.out y (List.mem_of_getElem? he)
      have hj63 : IntKind.i64.wrap ((j : Int) + 1) = (j : Int) + 1 := IntWalk.i64_in _ ⟨by omega, by omega⟩
      clear he k1
      go_wp2_with fail
      go_loopg [7, 5] 0 (fun _ v7 o wr => v7 = .int .i64 0 ∧ o = .slice none 0 0 ∧ w = wr)
      case atStart => exact ⟨rfl, rfl, rfl⟩
      case round =>
        obtain ⟨rfl, rfl, rfl⟩ := hrel
        go_wp2_with fail
        go_roundg m
        case measure => omega
        case rel => exact ⟨j + 1, by omega, by simp, rfl, rfl⟩

set_option maxRecDepth 100000 in
set_option maxHeartbeats 4000000 in
theorem rahead_at {w : World} {v : Value} {A : List En} (hv : Ens w v A) (hu : Up (A.map En.num)) (hsm : ∀ x ∈ A, I64 x.num) {p : Nat} {x : En} (hx : A[p]? = some x) : Calls Try.prog 20 #[v, .int .i64 x.num] w (Aheadd w A x.num) := by
  have HV := hide hv
  obtain ⟨ao, cap, g, off, rfl, h2, h3, -, h5, -⟩ := hv
  have hp := (List.getElem?_eq_some_iff.1 hx).1
  obtain rfl := h2 (by omega)
  have H3 := hide h3
  have HX := hide hx
  have HU := hide hu
  have HSM := hide hsm
  obtain ⟨n, hn⟩ : ∃ n, A.length = n := ⟨_, rfl⟩
  rw [hn] at h5 hp ⊢
  simp only [hn] at HV
  have HN := hide hn
  clear h2 h3 hn hu hx hsm
  go_enter Try.func20, Try.ntmps20
  go_wp2_with fail
  go_loopg [6, 5] n (fun t i o wr => ∃ (j : Nat) (l : List Int), j + t = n ∧ i = .int .i64 (j : Int) ∧ Hid ((j ≤ p ∧ l = []) ∨ (p < j ∧ l = ahN A x p)) ∧ Hid (OwnI wr w.heap.size o l) ∧ Hid (Below w.heap.size w wr))
  case atStart => exact ⟨0, [], by omega, rfl, hide (.inl ⟨by omega, rfl⟩), hide (OwnI.nil _ _), hide (Below.refl _ _)⟩
  case round =>
    obtain ⟨j, l, hj, rfl, HL, HO, HB⟩ := hrel
    obtain ⟨a5, n5, c5, rfl, -⟩ := HO.out.form
    cases gk with
    | zero =>
      have hnl : ¬ (j : Int) < (n : Int) := by omega
      have hl : l = ahN A x p := by
        rcases HL.out with h | h
        · omega
        · exact h.2
      have HLL := hide hl
      clear hl
      go_wp2_with fail
      go_ret
      exact ⟨_, _, rfl, HO.out, .inl ⟨p, x, HX.out, rfl, HLL.out⟩, HB.out⟩
    | succ m =>
      have hlt : (j : Int) < (n : Int) := by omega
      have hb0 : (0 : Int) ≤ (j : Int) := by omega
      obtain ⟨y, he⟩ : ∃ e, A[j]? = some e := ⟨A[j]'(by rw [HN.out]; omega), by rw [List.getElem?_eq_getElem]⟩
      have KY := hide (H3.out j y he)
      have hj63 : IntKind.i64.wrap ((j : Int) + 1) = (j : Int) + 1 := IntWalk.i64_in _ ⟨by omega, by omega⟩
      have hjn : j < n := by omega
      by_cases hc : j = p
      · subst hc
        obtain rfl : y = x := by have := HX.out; rw [he] at this; exact Option.some.inj this
        have hl0 : l = [] := by
          rcases HL.out with h | h
          · exact h.2
          · omega
        subst hl0
        have e1 : (y.num == y.num) = true := by simp
        clear he HL
        go_wp2_with fail
        go_loopg [7, 5] j (fun t v7 o wr => ∃ k : Nat, k + t = j ∧ v7 = .int .i64 (k : Int) ∧ Hid (OwnI wr w.heap.size o (ahN A y k)) ∧ Hid (Below w.heap.size w wr))
        case atStart => exact ⟨0, by omega, rfl, HO, HB⟩
        case round =>
          clear HO HB
          obtain ⟨k, hk, rfl, HO, HB⟩ := hrel
          obtain ⟨a6, n6, c6, rfl, -⟩ := HO.out.form
          have ky0 := cell_bel HB.out KY.out.1
          cases gk with
          | zero =>
            have hnl : ¬ (k : Int) < (j : Int) := by omega
            obtain rfl : k = j := by omega
            go_wp2_with fail
            go_roundg m
            case measure => omega
            case rel => exact ⟨k + 1, _, by omega, by simp, hide (.inr ⟨by omega, rfl⟩), HO, HB⟩
          | succ m2 =>
            have hlt2 : (k : Int) < (j : Int) := by omega
            have hlt3 : (k : Int) < (n : Int) := by omega
            have hk0 : (0 : Int) ≤ (k : Int) := by omega
            obtain ⟨q, hq⟩ : ∃ e, A[k]? = some e := ⟨A[k]'(by rw [HN.out]; omega), by rw [List.getElem?_eq_getElem]⟩
            have KQ := hide (H3.out k q hq)
            have HQ := hide hq
            have hk63 : IntKind.i64.wrap ((k : Int) + 1) = (k : Int) + 1 := IntWalk.i64_in _ ⟨by omega, by omega⟩
            have hkn : k < n := by omega
            have HSQ := hide (HV.out.sps (List.mem_of_getElem? hq))
            have HSY := hide (HV.out.sps (List.mem_of_getElem? HX.out))
            clear hq
            go_wp2_with fail
            clear ky0
            have y0 := cell_bel HB.out KY.out.1
            have y1 := cell_bel HB.out KY.out.2
            have q0 := cell_bel HB.out KQ.out.1
            have q1 := cell_bel HB.out KQ.out.2
            refine wp_region_held_drew (S := fun wx => Below wr.heap.size wr wx) (by kernel_rfl) (below_drew0 wr) (fun hS => ?_)
            refine take_want 0 (some 28) (.slice (some ⟨g, off, none⟩) n cap) rfl rfl rfl (by kernel_rfl) (by kernel_rfl) (by kernel_rfl) (fun _ _ _ h => h) (fun wx hx => exec_move rfl rfl) hS ?_
            simp only [Act.put, List.setIfInBounds_toArray, List.set_cons_zero, List.set_cons_succ]
            refine take_want 1 (some 29) (.int .i64 (k : Int)) rfl rfl rfl (by kernel_rfl) (by kernel_rfl) (by kernel_rfl) (fun _ _ _ h => h) (fun wx hx => exec_move rfl rfl) hS ?_
            simp only [Act.put, List.setIfInBounds_toArray, List.set_cons_zero, List.set_cons_succ]
            refine take_want 2 (some 30) (.pointer (some ⟨g, off + k * 2, none⟩)) rfl rfl rfl (by kernel_rfl) (by kernel_rfl) (by kernel_rfl) (fun _ _ _ h => h) (fun wx hx => exec_index rfl (index_rentries hkn) rfl rfl) hS ?_
            simp only [Act.put, List.setIfInBounds_toArray, List.set_cons_zero, List.set_cons_succ]
            refine take_want 3 (some 31) (.agg #[.int .i64 q.num, .slice q.ao q.n q.cap]) rfl rfl rfl (by kernel_rfl) (by kernel_rfl) (by kernel_rfl) (fun _ _ _ h => h) (fun wx hx => exec_load rfl (load_rentry (cell_bel hx q0) (cell_bel hx q1)) rfl) hS ?_
            simp only [Act.put, List.setIfInBounds_toArray, List.set_cons_zero, List.set_cons_succ]
            refine take_want 4 (some 32) (.slice (some ⟨g, off, none⟩) n cap) rfl rfl rfl (by kernel_rfl) (by kernel_rfl) (by kernel_rfl) (fun _ _ _ h => h) (fun wx hx => exec_move rfl rfl) hS ?_
            simp only [Act.put, List.setIfInBounds_toArray, List.set_cons_zero, List.set_cons_succ]
            refine take_want 5 (some 33) (.int .i64 (j : Int)) rfl rfl rfl (by kernel_rfl) (by kernel_rfl) (by kernel_rfl) (fun _ _ _ h => h) (fun wx hx => exec_move rfl rfl) hS ?_
            simp only [Act.put, List.setIfInBounds_toArray, List.set_cons_zero, List.set_cons_succ]
            refine take_want 6 (some 34) (.pointer (some ⟨g, off + j * 2, none⟩)) rfl rfl rfl (by kernel_rfl) (by kernel_rfl) (by kernel_rfl) (fun _ _ _ h => h) (fun wx hx => exec_index rfl (index_rentries hjn) rfl rfl) hS ?_
            simp only [Act.put, List.setIfInBounds_toArray, List.set_cons_zero, List.set_cons_succ]
            refine take_want 7 (some 35) (.agg #[.int .i64 y.num, .slice y.ao y.n y.cap]) rfl rfl rfl (by kernel_rfl) (by kernel_rfl) (by kernel_rfl) (fun _ _ _ h => h) (fun wx hx => exec_load rfl (load_rentry (cell_bel hx y0) (cell_bel hx y1)) rfl) hS ?_
            simp only [Act.put, List.setIfInBounds_toArray, List.set_cons_zero, List.set_cons_succ]
            refine call_want 8 (some 36) rfl rfl rfl (by kernel_rfl) (exec_call2 rfl enterApart rfl rfl rfl) ((apart_any (HSQ.out.below (nextB HB.out hS)) (HSY.out.below (nextB HB.out hS))).mono ?_)
            rintro e w1 ⟨rfl, hb1⟩
            have hS1 := nextB hS hb1
            refine ⟨_, rfl, hS1, ?_⟩
            clear hb1
            simp only [Act.put, List.setIfInBounds_toArray, List.set_cons_zero, List.set_cons_succ]
            refine take_want 9 (some 37) (.bool (!(!clE q.sps y.sps))) rfl rfl rfl (by kernel_rfl) (by kernel_rfl) (by kernel_rfl) (fun _ _ _ h => h) (fun wx hx => exec_not rfl rfl) hS1 ?_
            simp only [Act.put, List.setIfInBounds_toArray, List.set_cons_zero, List.set_cons_succ]
            refine wpAnyH_done (by kernel_rfl) ?_ _
            have HB1 := hide (nextB HB.out hS1)
            have HO1 := hide (HO.out.below hS1)
            have z0 := cell_bel hS1 q0
            clear hS hS1 y0 y1 q0 q1
            cases hf : clE q.sps y.sps with
            | false =>
              have HF := hide hf
              clear hf
              go_wp2_with fail
              go_roundg m2
              case measure => omega
              case rel => exact ⟨k + 1, by omega, by simp, hide (by rw [ahN_no HQ.out HF.out]; exact HO1.out), HB1⟩
            | true =>
              have HF := hide hf
              clear hf
              obtain ⟨a7, n7, c7, w', hap, ho, hbw, -, -⟩ := more_i (w := w) HO1.out HB1.out.size (HSM.out q (List.mem_of_getElem? HQ.out)) (by have := ahN_length A y k; omega)
              have HO2 := hide ho
              have HBW := hide (hbw HB1.out)
              clear ho hbw
              go_wp2_with (at_builtin; refine wpList_append_eq rfl _ _ rfl rfl rfl hap ?_)
              go_roundg m2
              case measure => omega
              case rel => exact ⟨k + 1, by omega, by simp, hide (by rw [ahN_yes HQ.out HF.out]; exact HO2.out), HBW⟩
      · have e1 : (y.num == x.num) = false := by
          simp
          exact fun e => hc (at_num HU.out he HX.out e).1
        have HJP := hide hc
        have ky0 := cell_bel HB.out KY.out.1
        clear he hc
        go_wp2_with fail
        clear ky0
        go_loopg [7, 5] 0 (fun _ v7 o w2 => v7 = .int .i64 0 ∧ o = .slice a5 n5 c5 ∧ wr = w2)
        case atStart => exact ⟨rfl, rfl, rfl⟩
        case round =>
          obtain ⟨rfl, rfl, rfl⟩ := hrel
          have ky0 := cell_bel HB.out KY.out.1
          go_wp2_with fail
          go_roundg m
          case measure => omega
          case rel => exact ⟨j + 1, l, by omega, by simp, hide (by
            rcases HL.out with h | h
            · exact .inl ⟨by have := HJP.out; omega, h.2⟩
            · exact .inr ⟨by omega, h.2⟩), HO, HB⟩
theorem rahead_any {w : World} {v : Value} {A : List En} (hv : Ens w v A) (hu : Up (A.map En.num)) (hsm : ∀ x ∈ A, I64 x.num) (k : Int) : Calls Try.prog 20 #[v, .int .i64 k] w (Aheadd w A k) := by
  by_cases h : ∃ x ∈ A, x.num = k
  · obtain ⟨x, hx, rfl⟩ := h
    obtain ⟨p, hp⟩ := List.mem_iff_getElem?.1 hx
    exact rahead_at hv hu hsm hp
  · exact rahead_none hv (fun x hx e => h ⟨x, hx, e⟩)
end Go.Proofs.Ytjofbehmhdjohaa
