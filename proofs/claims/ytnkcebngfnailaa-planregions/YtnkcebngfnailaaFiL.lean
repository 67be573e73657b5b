/- The law PlanFirst. -/
import Derived.Test.YtnkcebngfnailaaFs
import Derived.Test.YtnkcebngfnailaaRi
import Derived.Test.YtnkcebngfnailaaAw
namespace Go.Proofs.Ytnkcebngfnailaa
open Go.RowKit Go.Extern

/-- A new list with the same numbers. -/
theorem anew {w : World} {v : Value} {l : List Int} (hv : Ints w v l) (hl : l.length ≤ 1000) :
    ∃ a n c w', (Builtin.append_ #[22, 22] 22 #[.slice (some ⟨w.heap.size, 0, none⟩) 0 0, v]).run Try.prog (w.alloc (.cells #[] 3)) = .ok (.slice a n c) w' ∧ Ints w' (.slice a n c) l ∧ Below w.heap.size w w' := by
  have hA := bel_alloc w (.cells #[] 3)
  obtain ⟨v', w', hap, hg⟩ := append_i (w.alloc (.cells #[] 3)) 22 w.heap.size _ _ [] l (OwnI.empty w w.heap.size (Nat.le_refl _)) (hv.below hA) (by simp; omega) (by simp)
  rw [List.nil_append] at hg
  obtain ⟨a, n, c, rfl, -⟩ := hg.own.form
  exact ⟨a, n, c, w', hap, hg.own.ints, hA.trans (hg.below (B := w.heap.size) (by simp) (fun k hk => by simp [Value.ownBlock] at hk; omega))⟩
/-- What the laws leave. -/
def Tru (w : World) (e : Ending) (w' : World) : Prop := e = .returned (.bool true) ∧ Below w.heap.size w w'
set_option maxRecDepth 100000 in
set_option maxHeartbeats 8000000 in
theorem firstL_any {w : World} {v : Value} {l : List Int} {d : Int} (hv : Ints w v l) (_hd : I64 d) : Calls Try.prog 7 #[v, .int .i64 d] w (Tru w) := by
  have hR := right_any hv
  have HV := hide hv
  obtain ⟨a0, n, c0, rfl, hn⟩ := hv.form
  have h5 := hv.len
  rw [← hn.out] at h5
  clear hv _hd
  go_enter Try.func7, Try.ntmps7
  go_wp2_with fail
  refine hR.mono ?_
  rintro e w1 ⟨⟨b, rfl, hb⟩, hb1⟩
  have HB1 := hide hb1
  have HV1 := hide (HV.out.below hb1)
  clear hb1 hR HV
  cases b with
  | false =>
    clear hb
    go_wp2_with fail
    refine (awake_any _).mono ?_
    rintro e w2 ⟨rfl, hb2⟩
    have HB2 := hide (nextB HB1.out hb2)
    clear hb2
    go_wp2_with fail
    go_ret
    exact ⟨rfl, HB2.out⟩
  | true =>
    have HRT := hide (hb.1 rfl)
    clear hb
    by_cases c1 : (100 : Int) < (n : Int)
    · go_wp2_with fail
      refine (awake_any _).mono ?_
      rintro e w2 ⟨rfl, hb2⟩
      have HB2 := hide (nextB HB1.out hb2)
      clear hb2
      go_wp2_with fail
      go_ret
      exact ⟨rfl, HB2.out⟩
    · have HLN : Hid (l.length ≤ 1000) := by show _ ≤ _; rw [← hn.out]; omega
      by_cases c2 : d < 0
      · go_wp2_with fail
        refine (awake_any _).mono ?_
        rintro e w2 ⟨rfl, hb2⟩
        have HB2 := hide (nextB HB1.out hb2)
        clear hb2
        go_wp2_with fail
        go_ret
        exact ⟨rfl, HB2.out⟩
      · by_cases c3 : 7 < d
        · go_wp2_with fail
          refine (awake_any _).mono ?_
          rintro e w2 ⟨rfl, hb2⟩
          have HB2 := hide (nextB HB1.out hb2)
          clear hb2
          go_wp2_with fail
          go_ret
          exact ⟨rfl, HB2.out⟩
        · have HD : Hid (0 ≤ d ∧ d < 8) := hide ⟨by omega, by omega⟩
          obtain ⟨xa, xn, xc, w2, hap, hx2, hb2⟩ := anew HV1.out HLN.out
          have HB2 := hide (nextB HB1.out hb2)
          have HV2 := hide (HV1.out.below hb2)
          have hC := regions_any hx2 HLN.out
          clear hx2 hb2
          go_wp2_with (at_builtin; refine wpList_append_eq rfl _ _ rfl rfl rfl hap ?_)
          refine hC.mono ?_
          rintro e w3 ⟨h, hb3⟩
          rcases h with ⟨-, vL, L, rfl, hg, ho⟩ | ⟨hno, -⟩
          · have HB3 := hide (nextB HB2.out hb3)
            have HV3 := hide (HV2.out.below hb3)
            have HG := hide hg
            have HO := hide ho
            obtain ⟨la, ln, lc, rfl, -⟩ := hg.form
            obtain ⟨ya, yn, yc, w4, hap2, hx4, hb4⟩ := anew HV3.out HLN.out
            have HB4 := hide (nextB HB3.out hb4)
            have HG4 := hide (HG.out.below hb4)
            have hF := first_any hx4 HLN.out d
            clear hb3 hg ho hap hC HG hx4 hb4 c1 c2 c3
            go_wp2_with (at_builtin; refine wpList_append_eq rfl _ _ rfl rfl rfl hap2 ?_)
            refine hF.mono ?_
            rintro e w5 ⟨h, hb5⟩
            rcases h with ⟨-, -, vf, rfl, hif⟩ | ⟨hno, -⟩ | ⟨-, hno, -⟩
            · have HB5 := hide (nextB HB4.out hb5)
              have hg5 := HG4.out.below hb5
              rw [← HO.out] at hif
              have HF := hide hif
              obtain ⟨fa, fn, fc, rfl, hfn⟩ := hif.form
              obtain ⟨ao, cap, g, ev, h5, h2, h3⟩ := hg5.at_
              simp only [Value.slice.injEq] at ev
              obtain ⟨rfl, rfl, rfl⟩ := ev
              have H2 := hide h2
              have H3 := hide h3
              obtain ⟨n2, hn2⟩ : ∃ n, L.length = n := ⟨_, rfl⟩
              rw [hn2] at h5 ⊢
              have HN := hide hn2
              clear hb5 hg5 hif h2 h3 hn2 hap2 hF HV1 HV2 HV3 HB1 HB2 HB3 HB4 HG4 HO
              go_wp2_with fail
              go_loopg [51] n2 (fun k i wr => ∃ j : Nat, j + k = n2 ∧ i = .int .i64 (j : Int) ∧ Hid (∀ x ∈ L.take j, x.dev ≠ d) ∧ Hid (Below w5.heap.size w5 wr))
              case atStart => exact ⟨0, by omega, rfl, hide (by simp), hide (Below.refl _ _)⟩
              case round =>
                obtain ⟨j, hj, rfl, HA, HB⟩ := hrel
                cases gk with
                | zero =>
                  have hnl : ¬ (j : Int) < (n2 : Int) := by omega
                  have hend : L.take j = L := List.take_of_length_le (by rw [HN.out]; omega)
                  rw [hend] at HA
                  have hf0 : fn = 0 := by
                    rw [hfn.out, pick_none HA.out]; rfl
                  subst hf0
                  clear hend hj
                  go_wp2_with fail
                  refine (awake_any _).mono ?_
                  rintro e w6 ⟨rfl, hb6⟩
                  have HB6 := hide (nextB (nextB HB5.out HB.out) hb6)
                  clear hb6
                  go_wp2_with fail
                  go_ret
                  exact ⟨rfl, HB6.out⟩
                | succ m =>
                  have hlt : (j : Int) < (n2 : Int) := by omega
                  have hb0 : (0 : Int) ≤ (j : Int) := by omega
                  obtain ⟨r, he⟩ : ∃ e, L[j]? = some e := ⟨L[j]'(by rw [HN.out]; omega), by rw [List.getElem?_eq_getElem]⟩
                  obtain rfl := H2.out (by rw [HN.out]; omega)
                  obtain ⟨k0, k1, hi⟩ := H3.out j r he
                  have HI := hide (hi.below HB.out)
                  replace k0 := cell_bel HB.out k0
                  replace k1 := cell_bel HB.out k1
                  have HE := hide he
                  have hj63 : IntKind.i64.wrap ((j : Int) + 1) = (j : Int) + 1 := IntWalk.i64_in _ ⟨by omega, by omega⟩
                  have HA1 := hide (bel_alloc wr (.cells #[.int .i64 r.dev, .slice r.ao r.n r.cap] 36))
                  clear he hi
                  by_cases hc : r.dev = d
                  · have e1 : (r.dev == d) = true := by simp [hc]
                    have hQ := ints_any ((HF.out.below HB.out).below HA1.out) (HI.out.below HA1.out)
                    rw [pick_at HE.out HA.out hc, decide_eq_true rfl] at hQ
                    clear hc
                    go_wp2_with fail
                    refine hQ.mono ?_
                    rintro e w6 ⟨rfl, hb6⟩
                    have HB6 := hide (nextB (nextB (nextB HB5.out HB.out) HA1.out) hb6)
                    clear hb6 hQ k0 k1
                    go_wp2_with fail
                    refine (awake_any _).mono ?_
                    rintro e w7 ⟨rfl, hb7⟩
                    have HB7 := hide (nextB HB6.out hb7)
                    clear hb7
                    go_wp2_with fail
                    go_ret
                    exact ⟨rfl, HB7.out⟩
                  · have e1 : (r.dev == d) = false := by simp [hc]
                    have HC := hide hc
                    clear hc
                    go_wp2_with fail
                    go_roundg m
                    case measure => omega
                    case rel => exact ⟨j + 1, by omega, by simp, hide (fun x hx => by
                      rw [take_snoc HE.out] at hx
                      rcases List.mem_append.1 hx with hx | hx
                      · exact HA.out x hx
                      · rw [List.mem_singleton.1 hx]; exact HC.out), hide (nextB HB.out HA1.out)⟩
            · exact absurd HRT.out hno
            · exact absurd HD.out hno
          · exact absurd HRT.out hno
end Go.Proofs.Ytnkcebngfnailaa
