/- First. -/
import Derived.Test.YtnkcebngfnailaaRg
namespace Go.Proofs.Ytnkcebngfnailaa
open Go.RowKit Go.Extern

/-- The numbers of a device's first region. -/
def pickD (d : Int) (R : List (Int × List Int)) : List Int := ((R.find? fun r => decide (r.1 = d)).map (·.2)).getD []
theorem pick_at {d : Int} {L : List Rg} {j : Nat} {r : Rg} (h : L[j]? = some r) (h1 : ∀ x ∈ L.take j, x.dev ≠ d) (h2 : r.dev = d) : pickD d (outR L) = r.l := by
  have e : L = L.take j ++ r :: L.drop (j + 1) := by
    obtain ⟨hj, rfl⟩ := List.getElem?_eq_some_iff.1 h
    rw [← List.drop_eq_getElem_cons hj, List.take_append_drop]
  have e2 : (outR (L.take j)).find? (fun r => decide (r.1 = d)) = none := by
    rw [List.find?_eq_none]
    intro x hx
    obtain ⟨y, hy, rfl⟩ := List.mem_map.1 hx
    simpa using h1 y hy
  rw [pickD, e, outR_append, List.find?_append, e2]
  simp [outR, h2]
theorem pick_none {d : Int} {L : List Rg} (h1 : ∀ x ∈ L, x.dev ≠ d) : pickD d (outR L) = [] := by
  have e2 : (outR L).find? (fun r => decide (r.1 = d)) = none := by
    rw [List.find?_eq_none]
    intro x hx
    obtain ⟨y, hy, rfl⟩ := List.mem_map.1 hx
    simpa using h1 y hy
  rw [pickD, e2]; rfl
/-- A region's two cells. -/
theorem Rgs.at_ {w : World} {base : Nat} {v : Value} {L : List Rg} (h : Rgs w base v L) : ∃ ao cap g, v = .slice ao L.length cap ∧ L.length ≤ 1000 ∧ (0 < L.length → ao = some ⟨g, 0, none⟩) ∧ ∀ (i : Nat) r, L[i]? = some r → w.cell? ⟨g, i * 2, none⟩ = some (.int .i64 r.dev) ∧ w.cell? ⟨g, i * 2 + 1, none⟩ = some (.slice r.ao r.n r.cap) ∧ Ints w (.slice r.ao r.n r.cap) r.l := by
  obtain ⟨ao, cap, g, rfl, -, -, -, -, h2, h3⟩ := h.1.cell enR_len
  refine ⟨ao, cap, g, rfl, h.1.2, fun hp => (h2 hp).1, fun i r hr => ⟨?_, ?_, (h.2 r (List.mem_of_getElem? hr)).ints⟩⟩
  · have := h3 i 0 r hr (by omega); rw [Nat.add_zero] at this; exact this
  · exact h3 i 1 r hr (by omega)
/-- What First leaves. -/
def Firstd (w : World) (l : List Int) (d : Int) (e : Ending) (w' : World) : Prop :=
  ((Rt l ∧ (0 ≤ d ∧ d < 8) ∧ ∃ v, e = .returned (.tuple #[v, .nilIface]) ∧ Ints w' v (pickD d (regs (sortS l)))) ∨ (¬ Rt l ∧ e = .returned (.tuple #[.slice none 0 0, .iface 51 (.int .i64 110)])) ∨
    (Rt l ∧ ¬ (0 ≤ d ∧ d < 8) ∧ e = .returned (.tuple #[.slice none 0 0, .iface 51 (.int .i64 20)]))) ∧ Below w.heap.size w w'
set_option maxRecDepth 100000 in
set_option maxHeartbeats 4000000 in
theorem first_any {w : World} {v : Value} {l : List Int} (hv : Ints w v l) (hl : l.length ≤ 1000) (d : Int) : Calls Try.prog 10 #[.int .i64 d, v] w (Firstd w l d) := by
  have hC := regions_any hv hl
  obtain ⟨a0, n0, c0, rfl, -⟩ := hv.form
  clear hv hl
  go_enter Try.func10, Try.ntmps10
  go_wp2_with fail
  refine hC.mono ?_
  rintro e w2 ⟨h, hb2⟩
  have HB2 := hide hb2
  clear hb2 hC
  rcases h with ⟨hrt, v2, L, rfl, hg, ho⟩ | ⟨hrt, rfl⟩
  · have HRT := hide hrt
    have HO := hide ho
    obtain ⟨ao, cap, g, rfl, h5, h2, h3⟩ := hg.at_
    have H2 := hide h2
    have H3 := hide h3
    obtain ⟨n, hn⟩ : ∃ n, L.length = n := ⟨_, rfl⟩
    rw [hn] at h5 ⊢
    have HN := hide hn
    clear hrt ho hg h2 h3 hn
    by_cases c1 : d < 0
    · go_wp2_with fail
      go_ret2
      exact ⟨.inr (.inr ⟨HRT.out, by omega, rfl⟩), HB2.out⟩
    · by_cases c2 : 8 ≤ d
      · go_wp2_with fail
        go_ret2
        exact ⟨.inr (.inr ⟨HRT.out, by omega, rfl⟩), HB2.out⟩
      · have HD : Hid (0 ≤ d ∧ d < 8) := hide ⟨by omega, by omega⟩
        go_wp2_with fail
        clear c1 c2
        go_loopg [27] n (fun k i wr => ∃ j : Nat, j + k = n ∧ i = .int .i64 (j : Int) ∧ Hid (∀ x ∈ L.take j, x.dev ≠ d) ∧ Hid (Below w2.heap.size w2 wr))
        case atStart => exact ⟨0, by omega, rfl, hide (by simp), hide (Below.refl _ _)⟩
        case round =>
          obtain ⟨j, hj, rfl, HA, HB⟩ := hrel
          cases gk with
          | zero =>
            have hnl : ¬ (j : Int) < (n : Int) := by omega
            have hend : L.take j = L := List.take_of_length_le (by rw [HN.out]; omega)
            rw [hend] at HA
            clear hend
            go_wp2_with fail
            go_ret2
            refine ⟨.inl ⟨HRT.out, HD.out, _, rfl, ?_⟩, nextB HB2.out HB.out⟩
            rw [← HO.out, pick_none HA.out]
            exact Ints.nil _
          | succ m =>
            have hlt : (j : Int) < (n : Int) := by omega
            have hb0 : (0 : Int) ≤ (j : Int) := by omega
            obtain ⟨r, he⟩ : ∃ e, L[j]? = some e := ⟨L[j]'(by rw [HN.out]; omega), by rw [List.getElem?_eq_getElem]⟩
            obtain rfl := H2.out (by rw [HN.out]; omega)
            obtain ⟨k0, k1, hi⟩ := H3.out j r he
            have HI := hide (hi.below HB.out)
            replace k0 := cell_bel HB.out k0
            replace k1 := cell_bel HB.out k1
            have HE := hide he
            have hj63 : IntKind.i64.wrap ((j : Int) + 1) = (j : Int) + 1 := IntWalk.i64_in _ ⟨by omega, by omega⟩
            have HA1 := hide (bel_alloc wr (.cells #[.int .i64 r.dev, .slice r.ao r.n r.cap] 36))
            clear he hi
            by_cases hc : r.dev = d
            · have e1 : (r.dev == d) = true := by simp [hc]
              have HC := hide hc
              clear hc
              go_wp2_with fail
              go_ret2
              refine ⟨.inl ⟨HRT.out, HD.out, _, rfl, ?_⟩, nextB (nextB HB2.out HB.out) HA1.out⟩
              rw [← HO.out, pick_at HE.out HA.out HC.out]
              exact HI.out.below HA1.out
            · have e1 : (r.dev == d) = false := by simp [hc]
              have HC := hide hc
              clear hc
              go_wp2_with fail
              go_roundg m
              case measure => omega
              case rel => exact ⟨j + 1, by omega, by simp, hide (fun x hx => by
                rw [take_snoc HE.out] at hx
                rcases List.mem_append.1 hx with hx | hx
                · exact HA.out x hx
                · rw [List.mem_singleton.1 hx]; exact HC.out), hide (nextB HB.out HA1.out)⟩
  · have HRT := hide hrt
    clear hrt
    go_wp2_with fail
    go_ret2
    exact ⟨.inr (.inl ⟨HRT.out, rfl⟩), HB2.out⟩
end Go.Proofs.Ytnkcebngfnailaa
