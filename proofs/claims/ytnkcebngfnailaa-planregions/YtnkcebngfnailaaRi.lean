/- The document's Right. -/
import Derived.Test.YtnkcebngfnailaaRs
import Derived.Test.YtnkcebngfnailaaIe
namespace Go.Proofs.Ytnkcebngfnailaa
open Go.RowKit Go.Extern

theorem Rt.take_snoc {l : List Int} {j : Nat} {p : Int} (hp : l[j]? = some p) (h : Rt (l.take j)) (h1 : 1 ≤ p ∧ p < 32768) (h2 : ∀ q ∈ l.take j, q ≠ p) : Rt (l.take (j + 1)) := by
  rw [_root_.Go.Proofs.Ytnkcebngfnailaa.take_snoc hp]
  refine ⟨fun k hk => ?_, ?_⟩
  · rcases List.mem_append.1 hk with hk | hk
    · exact h.1 k hk
    · rw [List.mem_singleton.1 hk]; exact h1
  · rw [List.nodup_append]
    exact ⟨h.2, by simp, fun a ha b hb => by rw [List.mem_singleton.1 hb]; exact h2 a ha⟩
theorem Rt.no {l : List Int} {j t : Nat} {p q : Int} (hp : l[j]? = some p) (hq : l[t]? = some q) (ht : t < j) (he : q = p) : ¬ Rt l := by
  intro h
  subst he
  have := (List.getElem?_inj (l := l) (i := t) (j := j) (List.getElem?_eq_some_iff.1 hq).1 h.2).1 (by rw [hq, hp])
  omega
/-- What Right leaves. -/
def Rightd (w : World) (l : List Int) (e : Ending) (w' : World) : Prop := (∃ b : Bool, e = .returned (.bool b) ∧ (b = true ↔ Rt l)) ∧ Below w.heap.size w w'
set_option maxRecDepth 100000 in
set_option maxHeartbeats 4000000 in
theorem right_any {w : World} {v : Value} {l : List Int} (hv : Ints w v l) : Calls Try.prog 12 #[v] w (Rightd w l) := by
  have h5 := hv.len
  obtain ⟨ao, cap, g, off, rfl, h2, h3⟩ := hv.at_
  have H2 := hide h2
  have H3 := hide h3
  obtain ⟨n, hn⟩ : ∃ n, l.length = n := ⟨_, rfl⟩
  rw [hn] at h5 ⊢
  have HN := hide hn
  clear h2 h3 hn hv
  go_enter Try.func12, Try.ntmps12
  go_wp2_with fail
  go_loopg [3] n (fun k i wr => ∃ j : Nat, j + k = n ∧ i = .int .i64 (j : Int) ∧ Hid (Rt (l.take j)) ∧ Hid (Below w.heap.size w wr))
  case atStart => exact ⟨0, by omega, rfl, hide ⟨by simp, by simp⟩, hide (Below.refl _ _)⟩
  case round =>
    obtain ⟨j, hj, rfl, HA, HB⟩ := hrel
    cases gk with
    | zero =>
      have hnl : ¬ (j : Int) < (n : Int) := by omega
      have hend : l.take j = l := List.take_of_length_le (by rw [HN.out]; omega)
      rw [hend] at HA
      clear hend
      go_wp2_with fail
      go_ret
      exact ⟨⟨true, rfl, by simp; exact HA.out⟩, HB.out⟩
    | succ m =>
      have hlt : (j : Int) < (n : Int) := by omega
      have hb0 : (0 : Int) ≤ (j : Int) := by omega
      obtain ⟨p, he⟩ : ∃ e, l[j]? = some e := ⟨l[j]'(by rw [HN.out]; omega), by rw [List.getElem?_eq_getElem]⟩
      obtain rfl := H2.out (by rw [HN.out]; omega)
      have k0 := cell_bel HB.out (H3.out j p he)
      have HE := hide he
      have hj63 : IntKind.i64.wrap ((j : Int) + 1) = (j : Int) + 1 := IntWalk.i64_in _ ⟨by omega, by omega⟩
      clear he
      by_cases c1 : p < 1
      · go_wp2_with fail
        go_ret
        exact ⟨⟨false, rfl, by simp; exact fun h => absurd (h.1 p (List.mem_of_getElem? HE.out)).1 (by omega)⟩, HB.out⟩
      · by_cases c2 : 32768 ≤ p
        · go_wp2_with fail
          go_ret
          exact ⟨⟨false, rfl, by simp; exact fun h => absurd (h.1 p (List.mem_of_getElem? HE.out)).2 (by omega)⟩, HB.out⟩
        · have HC : Hid (1 ≤ p ∧ p < 32768) := hide ⟨by omega, by omega⟩
          go_wp2_with fail
          have HJ := hide hj
          have hjn : j < n := by omega
          clear k0 c1 c2 hj
          go_loopg [4] j (fun k i wr2 => ∃ t : Nat, t + k = j ∧ i = .int .i64 (t : Int) ∧ Hid (∀ q ∈ l.take t, q ≠ p) ∧ Hid (Below w.heap.size w wr2))
          case atStart => exact ⟨0, by omega, rfl, hide (by simp), HB⟩
          case round =>
            obtain ⟨t, ht, rfl, HQ, HBT⟩ := hrel
            cases gk with
            | zero =>
              have htj : t = j := by omega
              subst htj
              have hnl : ¬ (t : Int) < (t : Int) := by omega
              clear ht
              go_wp2_with fail
              go_roundg m
              case measure => omega
              case rel => exact ⟨t + 1, by have := HJ.out; omega, by simp, hide (HA.out.take_snoc HE.out HC.out HQ.out), HBT⟩
            | succ m2 =>
              have hlt2 : (t : Int) < (j : Int) := by omega
              have hbt0 : (0 : Int) ≤ (t : Int) := by omega
              have htn : t < n := by omega
              have htj : t < j := by omega
              obtain ⟨q, hq⟩ : ∃ e, l[t]? = some e := ⟨l[t]'(by rw [HN.out]; omega), by rw [List.getElem?_eq_getElem]⟩
              have k1 := cell_bel HBT.out (H3.out t q hq)
              have k2 := cell_bel HBT.out (H3.out j p HE.out)
              have HQE := hide hq
              have ht63 : IntKind.i64.wrap ((t : Int) + 1) = (t : Int) + 1 := IntWalk.i64_in _ ⟨by omega, by omega⟩
              have HT := hide ht
              clear hq ht
              go_wp2_with fail
              refine wp_region_held_drew (S := fun wx => Below wr.heap.size wr wx) (by kernel_rfl) (below_drew0 wr) (fun hS => ?_)
              refine take_want 0 (some 28) (.slice (some ⟨g, off, none⟩) n cap) rfl rfl rfl (by kernel_rfl) (by kernel_rfl) (by kernel_rfl) (fun _ _ _ h => h) (fun wx hx => exec_move rfl rfl) hS ?_
              simp only [Act.put, List.setIfInBounds_toArray, List.set_cons_zero, List.set_cons_succ]
              refine take_want 1 (some 29) (.int .i64 (t : Int)) rfl rfl rfl (by kernel_rfl) (by kernel_rfl) (by kernel_rfl) (fun _ _ _ h => h) (fun wx hx => exec_move rfl rfl) hS ?_
              simp only [Act.put, List.setIfInBounds_toArray, List.set_cons_zero, List.set_cons_succ]
              refine take_want 2 (some 30) (.pointer (some ⟨g, off + t, none⟩)) rfl rfl rfl (by kernel_rfl) (by kernel_rfl) (by kernel_rfl) (fun _ _ _ h => h) (fun wx hx => exec_index rfl (index_intsN htn) rfl rfl) hS ?_
              simp only [Act.put, List.setIfInBounds_toArray, List.set_cons_zero, List.set_cons_succ]
              refine take_want 3 (some 31) (.int .i64 q) rfl rfl rfl (by kernel_rfl) (by kernel_rfl) (by kernel_rfl) (fun _ _ _ h => h) (fun wx hx => exec_load rfl (load_intV (cell_bel hx k1)) rfl) hS ?_
              simp only [Act.put, List.setIfInBounds_toArray, List.set_cons_zero, List.set_cons_succ]
              refine take_want 4 (some 32) (.slice (some ⟨g, off, none⟩) n cap) rfl rfl rfl (by kernel_rfl) (by kernel_rfl) (by kernel_rfl) (fun _ _ _ h => h) (fun wx hx => exec_move rfl rfl) hS ?_
              simp only [Act.put, List.setIfInBounds_toArray, List.set_cons_zero, List.set_cons_succ]
              refine take_want 5 (some 33) (.int .i64 (j : Int)) rfl rfl rfl (by kernel_rfl) (by kernel_rfl) (by kernel_rfl) (fun _ _ _ h => h) (fun wx hx => exec_move rfl rfl) hS ?_
              simp only [Act.put, List.setIfInBounds_toArray, List.set_cons_zero, List.set_cons_succ]
              refine take_want 6 (some 34) (.pointer (some ⟨g, off + j, none⟩)) rfl rfl rfl (by kernel_rfl) (by kernel_rfl) (by kernel_rfl) (fun _ _ _ h => h) (fun wx hx => exec_index rfl (index_intsN hjn) rfl rfl) hS ?_
              simp only [Act.put, List.setIfInBounds_toArray, List.set_cons_zero, List.set_cons_succ]
              refine take_want 7 (some 35) (.int .i64 p) rfl rfl rfl (by kernel_rfl) (by kernel_rfl) (by kernel_rfl) (fun _ _ _ h => h) (fun wx hx => exec_load rfl (load_intV (cell_bel hx k2)) rfl) hS ?_
              simp only [Act.put, List.setIfInBounds_toArray, List.set_cons_zero, List.set_cons_succ]
              refine take_want 8 (some 36) (.bool (decide (q = p))) rfl rfl rfl (by kernel_rfl) (by kernel_rfl) (by kernel_rfl) (fun _ _ _ h => h) (fun wx hx => exec_eql rfl rfl rfl rfl) hS ?_
              simp only [Act.put, List.setIfInBounds_toArray, List.set_cons_zero, List.set_cons_succ]
              refine wpAnyH_done (by kernel_rfl) ?_ _
              have HB1 := hide (nextB HBT.out hS)
              clear hS k1 k2
              by_cases hc : q = p
              · rw [decide_eq_true hc]
                have HC2 := hide hc
                clear hc
                go_wp2_with fail
                go_ret
                exact ⟨⟨false, rfl, by simp; exact Rt.no HE.out HQE.out htj HC2.out⟩, HB1.out⟩
              · rw [decide_eq_false hc]
                have HC2 := hide hc
                clear hc
                go_wp2_with fail
                go_roundg m2
                case measure => omega
                case rel => exact ⟨t + 1, by have := HT.out; omega, by simp, hide (fun x hx => by
                  rw [take_snoc HQE.out] at hx
                  rcases List.mem_append.1 hx with hx | hx
                  · exact HQ.out x hx
                  · rw [List.mem_singleton.1 hx]; exact HC2.out), HB1⟩
end Go.Proofs.Ytnkcebngfnailaa
