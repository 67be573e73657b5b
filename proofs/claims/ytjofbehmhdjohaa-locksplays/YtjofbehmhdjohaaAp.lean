/- The document's Apart; 'ints'; There. -/
import Derived.Test.YtjofbehmhdjohaaStt
import Derived.Test.YtjofbehmhdjohaaRsp
namespace Go.Proofs.Ytjofbehmhdjohaa
open Go.RowKit Go.Extern

/-- An entry in a block of its own, of any type. -/
def BoxT (T : TypeId) (w : World) (b : Nat) (n : Int) (sv : Value) : Prop := w.heap[b]? = some (.cells #[.int .i64 n, sv] T (0, 0))
theorem BoxT.below {T : TypeId} {w w' : World} {b : Nat} {n : Int} {sv : Value} (h : BoxT T w b n sv) (hb : Below w.heap.size w w') : BoxT T w' b n sv := blk_below hb h
theorem BoxT.c1 {T : TypeId} {w : World} {b : Nat} {n : Int} {sv : Value} (h : BoxT T w b n sv) : w.cell? ⟨b, 1, none⟩ = some sv := row_cell h 1
theorem BoxT.c0 {T : TypeId} {w : World} {b : Nat} {n : Int} {sv : Value} (h : BoxT T w b n sv) : w.cell? ⟨b, 0, none⟩ = some (.int .i64 n) := row_cell h 0
theorem fldR1 (g i : Nat) (w : World) : (Instr.fieldAt 44 (.pointer (some ⟨g, i, none⟩)) 1).run Try.prog w = .ok (.pointer (some ⟨g, i + 1, none⟩)) w := by kernel_rfl
theorem load_rspans {w : World} {p : Addr} {v : Value} (h : w.cell? p = some v) : (Instr.loadAt 32 (.pointer (some p))).run Try.prog w = .ok v w := by go_simp
theorem index_rspans {w : World} {g off n cap i : Nat} (h : i < n) : (Instr.indexAt 32 (.slice (some ⟨g, off, none⟩) n cap) (.int .i64 (i : Int))).run Try.prog w = .ok (.pointer (some ⟨g, off + i * 4, none⟩)) w := by
  have hlt : (i : Int) < (n : Int) := by omega
  have hge : (0 : Int) ≤ (i : Int) := by omega
  go_simp
theorem load_rspan {w : World} {g i : Nat} {s : S} (h : w.cell? ⟨g, i, none⟩ = some (.int .i64 s.vol) ∧ w.cell? ⟨g, i + 1, none⟩ = some (.int .i64 s.frm) ∧ w.cell? ⟨g, i + 2, none⟩ = some (.int .i64 s.len) ∧ w.cell? ⟨g, i + 3, none⟩ = some (.bool s.wr)) :
    (Instr.loadAt 23 (.pointer (some ⟨g, i, none⟩))).run Try.prog w = .ok (spV s) w := by
  obtain ⟨h0, h1, h2, h3⟩ := h
  unfold spV
  go_simp
theorem enterRClash (args : Array Value) (w : World) : (callFunc 10 args).run Try.prog w = .ok (.enter 10 args) w := by kernel_rfl
theorem enterApart (args : Array Value) (w : World) : (callFunc 26 args).run Try.prog w = .ok (.enter 26 args) w := by kernel_rfl
theorem cell4_bel {w w' : World} {g i : Nat} {s : S} (hb : Below w.heap.size w w') (h : w.cell? ⟨g, i, none⟩ = some (.int .i64 s.vol) ∧ w.cell? ⟨g, i + 1, none⟩ = some (.int .i64 s.frm) ∧ w.cell? ⟨g, i + 2, none⟩ = some (.int .i64 s.len) ∧ w.cell? ⟨g, i + 3, none⟩ = some (.bool s.wr)) :
    w'.cell? ⟨g, i, none⟩ = some (.int .i64 s.vol) ∧ w'.cell? ⟨g, i + 1, none⟩ = some (.int .i64 s.frm) ∧ w'.cell? ⟨g, i + 2, none⟩ = some (.int .i64 s.len) ∧ w'.cell? ⟨g, i + 3, none⟩ = some (.bool s.wr) :=
  ⟨cell_bel hb h.1, cell_bel hb h.2.1, cell_bel hb h.2.2.1, cell_bel hb h.2.2.2⟩

set_option maxRecDepth 100000 in
set_option maxHeartbeats 4000000 in
theorem apart_any {w : World} {Z Z2 : Nat → Prop} {m1 m2 : Int} {v1 v2 : Value} {l1 l2 : List S} (h1 : Sps w Z v1 l1) (h2 : Sps w Z2 v2 l2) :
    Calls Try.prog 26 #[.agg #[.int .i64 m1, v1], .agg #[.int .i64 m2, v2]] w (Clc w (!clE l1 l2)) := by
  have hA := bel_alloc w (.cells #[.int .i64 m1, v1] 44)
  have hA2 := bel_alloc (w.alloc (.cells #[.int .i64 m1, v1] 44)) (.cells #[.int .i64 m2, v2] 44)
  have HA := hide (nextB hA hA2)
  have HX : Hid (BoxT 44 ((w.alloc (.cells #[.int .i64 m1, v1] 44)).alloc (.cells #[.int .i64 m2, v2] 44)) w.heap.size m1 v1) := hide (BoxT.below (w := w.alloc (.cells #[.int .i64 m1, v1] 44)) (heap_alloc_new _ _) hA2)
  have HY : Hid (BoxT 44 ((w.alloc (.cells #[.int .i64 m1, v1] 44)).alloc (.cells #[.int .i64 m2, v2] 44)) (w.heap.size + 1) m2 v2) := hide (by have := heap_alloc_new (w.alloc (.cells #[.int .i64 m1, v1] 44)) (.cells #[.int .i64 m2, v2] 44); rwa [World.size_alloc] at this)
  have OK1 := hide h1.ok
  have OK2 := hide h2.ok
  obtain ⟨ao, cap, g, off, rfl, p2, p3, -, p5, -⟩ := h1.below HA.out
  obtain ⟨ao2, cap2, g2, off2, rfl, q2, q3, -, q5, -⟩ := h2.below HA.out
  have P2 := hide p2
  have P3 := hide p3
  have Q2 := hide q2
  have Q3 := hide q3
  obtain ⟨n, hn⟩ : ∃ n, l1.length = n := ⟨_, rfl⟩
  obtain ⟨n2, hn2⟩ : ∃ n, l2.length = n := ⟨_, rfl⟩
  have HN := hide hn
  have HN2 := hide hn2
  obtain ⟨ba, hba⟩ : ∃ ba, w.heap.size = ba := ⟨_, rfl⟩
  rw [hn] at p5
  rw [hn2] at q5
  simp only [hn, hn2] at HA HX HY P3 Q3 ⊢
  clear h1 h2 hA hA2 p2 p3 q2 q3 hn hn2
  go_enter Try.func26, Try.ntmps26
  go_wp2_with fail
  obtain ⟨w1, hw1⟩ : ∃ w1, (w.alloc (.cells #[.int .i64 m1, .slice ao n cap] 44)).alloc (.cells #[.int .i64 m2, .slice ao2 n2 cap2] 44) = w1 := ⟨_, rfl⟩
  simp only [hw1] at HA
  simp only [hw1, hba] at HX HY P3 Q3 ⊢
  clear hw1
  go_loopg [5] n (fun t v5 wr => ∃ i : Nat, i + t = n ∧ v5 = .int .i64 (i : Int) ∧ Hid (clE (l1.take i) l2 = false) ∧ Hid (Below w1.heap.size w1 wr))
  case atStart => exact ⟨0, by omega, rfl, hide (by simp [clE]), hide (Below.refl _ _)⟩
  case round =>
    obtain ⟨i, hi, rfl, HC, HB⟩ := hrel
    have cx := (HX.out.below HB.out).c1
    cases gk with
    | zero =>
      have hnl : ¬ (i : Int) < (n : Int) := by omega
      have hend : l1.take i = l1 := List.take_of_length_le (by rw [HN.out]; omega)
      rw [hend] at HC
      clear hend
      have HBF := hide (nextB HA.out HB.out)
      go_wp2_with fail
      go_ret
      exact ⟨by rw [HC.out]; rfl, HBF.out⟩
    | succ m =>
      have hlt : (i : Int) < (n : Int) := by omega
      obtain ⟨s, hs⟩ : ∃ e, l1[i]? = some e := ⟨l1[i]'(by rw [HN.out]; omega), by rw [List.getElem?_eq_getElem]⟩
      obtain ⟨rfl, -⟩ := P2.out (by rw [HN.out]; omega)
      have KS := hide (P3.out i s hs)
      have HOS := hide (OK1.out s (List.mem_of_getElem? hs))
      have HTS := hide (take_snoc hs)
      have hi63 : IntKind.i64.wrap ((i : Int) + 1) = (i : Int) + 1 := IntWalk.i64_in _ ⟨by omega, by omega⟩
      have hin : i < n := by omega
      clear hs
      go_wp2_with fail
      clear cx
      go_loopg [6] n2 (fun t v6 wr => ∃ k : Nat, k + t = n2 ∧ v6 = .int .i64 (k : Int) ∧ Hid (((l2.take k).any fun o => clashB s o) = false) ∧ Hid (Below w1.heap.size w1 wr))
      case atStart => exact ⟨0, by omega, rfl, hide (by simp), HB⟩
      case round =>
        clear HB
        obtain ⟨k, hk, rfl, HD, HB⟩ := hrel
        have cy := (HY.out.below HB.out).c1
        cases gk with
        | zero =>
          have hnl : ¬ (k : Int) < (n2 : Int) := by omega
          have hend : l2.take k = l2 := List.take_of_length_le (by rw [HN2.out]; omega)
          rw [hend] at HD
          clear hend
          go_wp2_with fail
          go_roundg m
          case measure => omega
          case rel => exact ⟨i + 1, by omega, by simp, hide (by have h1 := HC.out; have h2 := HD.out; rw [HTS.out]; unfold clE at *; rw [List.any_append, h1]; simp only [List.any_cons, List.any_nil, h2, Bool.or_false]), HB⟩
        | succ m2 =>
          have hlt2 : (k : Int) < (n2 : Int) := by omega
          obtain ⟨o, ho⟩ : ∃ e, l2[k]? = some e := ⟨l2[k]'(by rw [HN2.out]; omega), by rw [List.getElem?_eq_getElem]⟩
          obtain ⟨rfl, -⟩ := Q2.out (by rw [HN2.out]; omega)
          have KO := hide (Q3.out k o ho)
          have HOO := hide (OK2.out o (List.mem_of_getElem? ho))
          have HTO := hide (take_snoc ho)
          have hk63 : IntKind.i64.wrap ((k : Int) + 1) = (k : Int) + 1 := IntWalk.i64_in _ ⟨by omega, by omega⟩
          have hkn : k < n2 := by omega
          clear ho
          go_wp2_with fail
          clear cy
          have hxx := HX.out.below HB.out
          have hyy := HY.out.below HB.out
          have ks := cell4_bel HB.out KS.out
          have ko := cell4_bel HB.out KO.out
          refine wp_region_held_drew (S := fun wx => Below wr.heap.size wr wx) (by kernel_rfl) (below_drew0 wr) (fun hS => ?_)
          refine take_want 0 (some 21) (.pointer (some ⟨ba, 0 + 1, none⟩)) rfl rfl rfl (by kernel_rfl) (by kernel_rfl) (by kernel_rfl) (fun _ _ _ h => h) (fun wx hx => exec_field rfl (fldR1 _ _ wx) rfl) hS ?_
          simp only [Act.put, List.setIfInBounds_toArray, List.set_cons_zero, List.set_cons_succ]
          refine take_want 1 (some 22) (.slice (some ⟨g, off, none⟩) n cap) rfl rfl rfl (by kernel_rfl) (by kernel_rfl) (by kernel_rfl) (fun _ _ _ h => h) (fun wx hx => exec_load rfl (load_rspans (by rw [Nat.zero_add]; exact (hxx.below hx).c1)) rfl) hS ?_
          simp only [Act.put, List.setIfInBounds_toArray, List.set_cons_zero, List.set_cons_succ]
          refine take_want 2 (some 23) (.int .i64 (i : Int)) rfl rfl rfl (by kernel_rfl) (by kernel_rfl) (by kernel_rfl) (fun _ _ _ h => h) (fun wx hx => exec_move rfl rfl) hS ?_
          simp only [Act.put, List.setIfInBounds_toArray, List.set_cons_zero, List.set_cons_succ]
          refine take_want 3 (some 24) (.pointer (some ⟨g, off + i * 4, none⟩)) rfl rfl rfl (by kernel_rfl) (by kernel_rfl) (by kernel_rfl) (fun _ _ _ h => h) (fun wx hx => exec_index rfl (index_rspans hin) rfl rfl) hS ?_
          simp only [Act.put, List.setIfInBounds_toArray, List.set_cons_zero, List.set_cons_succ]
          refine take_want 4 (some 25) (spV s) rfl rfl rfl (by kernel_rfl) (by kernel_rfl) (by kernel_rfl) (fun _ _ _ h => h) (fun wx hx => exec_load rfl (load_rspan (cell4_bel hx ks)) rfl) hS ?_
          simp only [Act.put, List.setIfInBounds_toArray, List.set_cons_zero, List.set_cons_succ]
          refine take_want 5 (some 26) (.pointer (some ⟨ba + 1, 0 + 1, none⟩)) rfl rfl rfl (by kernel_rfl) (by kernel_rfl) (by kernel_rfl) (fun _ _ _ h => h) (fun wx hx => exec_field rfl (fldR1 _ _ wx) rfl) hS ?_
          simp only [Act.put, List.setIfInBounds_toArray, List.set_cons_zero, List.set_cons_succ]
          refine take_want 6 (some 27) (.slice (some ⟨g2, off2, none⟩) n2 cap2) rfl rfl rfl (by kernel_rfl) (by kernel_rfl) (by kernel_rfl) (fun _ _ _ h => h) (fun wx hx => exec_load rfl (load_rspans (by rw [Nat.zero_add]; exact (hyy.below hx).c1)) rfl) hS ?_
          simp only [Act.put, List.setIfInBounds_toArray, List.set_cons_zero, List.set_cons_succ]
          refine take_want 7 (some 28) (.int .i64 (k : Int)) rfl rfl rfl (by kernel_rfl) (by kernel_rfl) (by kernel_rfl) (fun _ _ _ h => h) (fun wx hx => exec_move rfl rfl) hS ?_
          simp only [Act.put, List.setIfInBounds_toArray, List.set_cons_zero, List.set_cons_succ]
          refine take_want 8 (some 29) (.pointer (some ⟨g2, off2 + k * 4, none⟩)) rfl rfl rfl (by kernel_rfl) (by kernel_rfl) (by kernel_rfl) (fun _ _ _ h => h) (fun wx hx => exec_index rfl (index_rspans hkn) rfl rfl) hS ?_
          simp only [Act.put, List.setIfInBounds_toArray, List.set_cons_zero, List.set_cons_succ]
          refine take_want 9 (some 30) (spV o) rfl rfl rfl (by kernel_rfl) (by kernel_rfl) (by kernel_rfl) (fun _ _ _ h => h) (fun wx hx => exec_load rfl (load_rspan (cell4_bel hx ko)) rfl) hS ?_
          simp only [Act.put, List.setIfInBounds_toArray, List.set_cons_zero, List.set_cons_succ]
          refine call_want 10 (some 31) rfl rfl rfl (by kernel_rfl) (exec_call2 rfl enterRClash rfl rfl rfl) ((rclash_any HOS.out HOO.out _).mono ?_)
          rintro e w2 ⟨rfl, hb2⟩
          have hS1 := nextB hS hb2
          refine ⟨_, rfl, hS1, ?_⟩
          clear hb2
          simp only [Act.put, List.setIfInBounds_toArray, List.set_cons_zero, List.set_cons_succ]
          refine wpAnyH_done (by kernel_rfl) ?_ _
          clear hxx hyy ks ko hS
          have HB1 := hide (nextB HB.out hS1)
          clear hS1
          cases hc : clashB s o with
          | true =>
            have HCC := hide hc
            clear hc
            have HBF := hide (nextB HA.out HB1.out)
            go_wp2_with fail
            go_ret
            refine ⟨?_, HBF.out⟩
            have h1 : clE l1 l2 = true := clE_iff.2 ⟨s, List.mem_of_mem_take (by rw [HTS.out]; simp), o, List.mem_of_mem_take (by rw [HTO.out]; simp), HCC.out⟩
            rw [h1]; rfl
          | false =>
            have HCC := hide hc
            clear hc
            go_wp2_with fail
            go_roundg m2
            case measure => omega
            case rel => exact ⟨k + 1, by omega, by simp, hide (by rw [HTO.out, List.any_append, HD.out]; simp [HCC.out]), HB1⟩
end Go.Proofs.Ytjofbehmhdjohaa
