/- The law NodeFinds. -/
import Derived.Test.YtcidadikmmdalabAw
import Derived.Test.YtcidadikmmdalabRi
namespace Go.Proofs.Ytcidadikmmdalab
open Go.RowKit Go.Extern

theorem found_at {K : List Int} (hu : Up K) {j : Nat} {k at_ : Int} {ex : Bool} (hj : K[j]? = some k) (h : Found K k at_ ex) : at_ = (j : Int) ∧ ex = true := by
  obtain ⟨m, hs, ⟨rfl, hm, rfl⟩ | ⟨rfl, hm, rfl⟩⟩ := h
  · refine ⟨?_, rfl⟩
    rcases Nat.lt_trichotomy m j with e | e | e
    · have := hu.lt hm hj e; omega
    · rw [e]
    · have := hu.lt hj hm e; omega
  · exact absurd (List.mem_of_getElem? hj) hm
theorem found_pred {K : List Int} (hu : Up K) {j : Nat} {k at_ : Int} {ex : Bool} (hj : K[j]? = some k) (h : Found K (k - 1) at_ ex) : at_ = (j : Int) - 1 ∧ (ex = true ↔ 0 < j ∧ K[j - 1]? = some (k - 1)) := by
  have hjl : j < K.length := (List.getElem?_eq_some_iff.1 hj).1
  obtain ⟨m, hs, ⟨rfl, hm, rfl⟩ | ⟨rfl, hm, rfl⟩⟩ := h
  · have hmj : m = j - 1 ∧ 0 < j := by
      rcases Nat.lt_or_ge m j with e | e
      · refine ⟨?_, by omega⟩
        rcases Nat.lt_or_ge m (j - 1) with e2 | e2
        · obtain ⟨x, hx⟩ : ∃ x, K[j - 1]? = some x := ⟨K[j - 1]'(by omega), by rw [List.getElem?_eq_getElem]⟩
          have h1 := hu.lt hm hx e2
          have h2 := hu.lt hx hj (by omega)
          omega
        · omega
      · have := hu.le hj hm e; omega
    obtain ⟨rfl, h0⟩ := hmj
    exact ⟨by omega, by simp [h0, hm]⟩
  · have hmj : m = j := by
      rcases Nat.lt_trichotomy m j with e | e | e
      · obtain ⟨x, hx⟩ : ∃ x, K[m]? = some x := ⟨K[m]'(by omega), by rw [List.getElem?_eq_getElem]⟩
        have h1 := hs.hi m x hx (Nat.le_refl _)
        have h2 := hu.lt hx hj e
        have h3 : x = k - 1 := by omega
        subst h3
        exact absurd (List.mem_of_getElem? hx) hm
      · exact e
      · have := hs.lo j k hj e; omega
    subst hmj
    exact ⟨rfl, by simp; intro _ h2; exact hm (List.mem_of_getElem? h2)⟩
theorem found_top {K : List Int} {t at_ : Int} {ex : Bool} (hlt : ∀ k ∈ K, k < t) (h : Found K t at_ ex) : at_ = (K.length : Int) - 1 ∧ ex = false := by
  obtain ⟨m, hs, ⟨rfl, hm, rfl⟩ | ⟨rfl, hm, rfl⟩⟩ := h
  · have := hlt _ (List.mem_of_getElem? hm); omega
  · refine ⟨?_, rfl⟩
    have : m = K.length := by
      rcases Nat.lt_or_ge m K.length with e | e
      · have h1 := hs.hi m K[m] (by simp [e]) (Nat.le_refl _)
        have h2 := hlt K[m] (List.getElem_mem e)
        omega
      · have := hs.le; omega
    rw [this]
theorem Rt.key {L : Int} {K V : List Int} (h : Rt L K V) {k : Int} (hk : k ∈ K) : 0 ≤ k ∧ k ≤ 1099511627776 := by
  rw [← zip_fst h.same] at hk
  obtain ⟨p, hp, rfl⟩ := List.mem_map.1 hk
  have := h.ris.1 p hp
  unfold fitP at this; omega

set_option maxRecDepth 100000 in
set_option maxHeartbeats 2000000 in
theorem findsL_any {w : World} {kv vv : Value} {K V : List Int} (L : Int) (hk : Ints w kv K) (hv : Ints w vv V) :
    Calls Try.prog 3 #[.agg #[.int .i64 L, kv, vv]] w fun e w' => e = .returned (.bool true) ∧ Below w.heap.size w w' := by
  have HBA := hide (bel_alloc w (.cells #[.int .i64 L, kv, vv] 24))
  have HK := hide (hk.below HBA.out)
  have HV := hide (hv.below HBA.out)
  have HX := hide (BoxN.new 24 w L kv vv)
  obtain ⟨aV, nV, cV, hvf, -⟩ := hv.form
  by_cases hR : Rt L K V
  · have hrt := rtB_iff.2 hR
    have HR := hide hR
    have hpos := hR.pos
    have hfew := hR.few
    obtain ⟨aK, cK, gK, oK, hkf, hK1, hK2⟩ := hk.at_
    obtain ⟨n, hn⟩ : ∃ n, K.length = n := ⟨_, rfl⟩
    rw [hn] at hpos hfew hkf
    obtain rfl := hK1 (by omega)
    have HK2 := hide hK2
    have HN := hide hn
    clear hk hv hR hK1 hK2 hn
    subst hkf hvf
    go_enter Try.func3, Try.ntmps3
    go_wp2_with fail
    refine (right_any L HK.out HV.out).mono ?_
    rintro e w1 ⟨rfl, hb1⟩
    rw [hrt]
    have HB1 := hide hb1
    obtain ⟨x0, x1, x2⟩ := (HX.out.below hb1).cells
    clear hb1
    go_wp2_with fail
    clear x0 x1 x2
    refine (of_any L (HK.out.below HB1.out) (HV.out.below HB1.out) (by rw [HN.out]; omega) (by rw [HR.out.same, HN.out]; omega)).mono ?_
    rintro e w3 ⟨kv3, vv3, rfl, ht3, hb3⟩
    obtain ⟨aK3, nK3, cK3, rfl, -⟩ := ht3.hk.form
    obtain ⟨aV3, nV3, cV3, rfl, -⟩ := ht3.hv.form
    have hbX := bel_alloc w3 (.cells #[.int .i64 L, .slice aK3 nK3 cK3, .slice aV3 nV3 cV3] 27)
    have HI := hide (ht3.ints.1.below hbX)
    have HXX := hide (BoxN.new 27 w3 L (.slice aK3 nK3 cK3) (.slice aV3 nV3 cV3))
    have HX3 := hide (HX.out.below (nextB (nextB HB1.out hb3) hbX))
    have HBX := hide (nextB HBA.out (nextB (nextB HB1.out hb3) hbX))
    obtain ⟨x0, x1, x2⟩ := HX3.out.cells
    obtain ⟨b, hb⟩ : ∃ b, w3.heap.size = b := ⟨_, rfl⟩
    have HBE := hide hb
    clear ht3 hb3 hbX hb
    go_wp2_with fail
    clear x0 x1 x2
    obtain ⟨wX, hwX⟩ : ∃ wX, w3.alloc (.cells #[.int .i64 L, .slice aK3 nK3 cK3, .slice aV3 nV3 cV3] 27) = wX := ⟨_, rfl⟩
    rw [HBE.out] at HXX ⊢
    simp only [hwX] at HI HXX HX3 HBX ⊢
    clear hwX HBE
    go_loopg [21] n (fun t i wr => ∃ j : Nat, j + t = n ∧ i = .int .i64 (j : Int) ∧ Hid (Below wX.heap.size wX wr))
    case atStart => exact ⟨0, by omega, rfl, hide (Below.refl _ _)⟩
    case round =>
      obtain ⟨j, hj, rfl, HB⟩ := hrel
      obtain ⟨x0, x1, x2⟩ := (HX3.out.below HB.out).cells
      obtain ⟨y0, y1, y2⟩ := (HXX.out.below HB.out).cells
      cases gk with
      | zero =>
        have hnl : ¬ (j : Int) < (n : Int) := by omega
        go_wp2_with fail
        refine (find_any L (HI.out.below HB.out) HR.out.up (by rw [HN.out]; omega) 4611686018427387904 ⟨_, _, _, rfl⟩).mono ?_
        rintro e w4 ⟨⟨at_, ex, rfl, hfd⟩, hb4⟩
        obtain ⟨rfl, rfl⟩ := found_top (fun k hk => by have := HR.out.key hk; omega) hfd
        obtain ⟨x0, x1, x2⟩ := (HX3.out.below (nextB HB.out hb4)).cells
        rw [HN.out]
        have HB4 := hide (nextB HBX.out (nextB HB.out hb4))
        have e1 : IntKind.i64.wrap ((n : Int) - 1) = (n : Int) - 1 := IntWalk.i64_in _ ⟨by omega, by omega⟩
        clear hfd hb4 y0 y1 y2
        go_wp2_with (go_at_call 6; refine (awake_any _).mono ?_; rintro e w5 ⟨rfl, hb5⟩; have HB5 := hide (nextB HB4.out hb5); clear hb5)
        go_ret
        exact ⟨rfl, HB5.out⟩
      | succ m =>
        have hlt : (j : Int) < (n : Int) := by omega
        have hb0 : (0 : Int) ≤ (j : Int) := by omega
        obtain ⟨k, hkj⟩ : ∃ k, K[j]? = some k := ⟨K[j]'(by rw [HN.out]; omega), by rw [List.getElem?_eq_getElem]⟩
        have HKJ := hide hkj
        have k1 := cell_bel (nextB HBX.out HB.out) (HK2.out j k hkj)
        have hkr := HR.out.key (List.mem_of_getElem? hkj)
        have e7 : IntKind.i64.wrap ((j : Int) + 1) = (j : Int) + 1 := IntWalk.i64_in _ ⟨by omega, by omega⟩
        have e8 : IntKind.i64.wrap (k - 1) = k - 1 := IntWalk.i64_in _ ⟨by omega, by omega⟩
        have HE7 := hide e7
        have HE8 := hide e8
        have HKR := hide hkr
        clear hkj e7 e8 hkr
        go_wp2_with fail
        clear k1
        refine (find_any L (HI.out.below HB.out) HR.out.up (by rw [HN.out]; omega) k ⟨_, _, _, rfl⟩).mono ?_
        rintro e w4 ⟨⟨at_, ex, rfl, hfd⟩, hb4⟩
        obtain ⟨rfl, rfl⟩ := found_at HR.out.up HKJ.out hfd
        have HB4 := hide (nextB HB.out hb4)
        obtain ⟨y0, y1, y2⟩ := (HXX.out.below HB4.out).cells
        have e8 := HE8.out
        clear hfd hb4
        go_wp2_with fail
        clear y0 y1 y2 e8 x0 x1 x2
        refine (find_any L (HI.out.below HB4.out) HR.out.up (by rw [HN.out]; omega) (k - 1) ⟨_, _, _, rfl⟩).mono ?_
        rintro e w5 ⟨⟨at_, ex, rfl, hfd⟩, hb5⟩
        obtain ⟨rfl, hex⟩ := found_pred HR.out.up HKJ.out hfd
        have HB5 := hide (nextB HB4.out hb5)
        obtain ⟨x0, x1, x2⟩ := (HX3.out.below HB5.out).cells
        cases j with
        | zero =>
          have hexf : ex = false := by cases ex with | false => rfl | true => have := (hex.1 rfl).1; omega
          subst hexf
          have e7 := HE7.out
          clear hfd hb5 hex
          go_wp2_with fail
          go_roundg m
          case measure => omega
          case rel => exact ⟨1, by omega, by go_num, HB5⟩
        | succ i =>
          obtain ⟨q, hq⟩ : ∃ q, K[i]? = some q := ⟨K[i]'(by rw [HN.out]; omega), by rw [List.getElem?_eq_getElem]⟩
          have q1 := cell_bel (nextB HBX.out HB5.out) (HK2.out i q hq)
          have hexq : ex = decide (q = k - 1) := by
            rw [Bool.eq_iff_iff, hex, show i + 1 - 1 = i by omega, hq]; simp
          subst hexq
          have e7 := HE7.out
          have e8 := HE8.out
          have hil : (i : Int) < (n : Int) := by omega
          have e9 : ((i + 1 : Nat) : Int) - 1 = (i : Int) := by omega
          clear hfd hb5 hex hq
          by_cases hqk : q = k - 1
          · have hd : decide (q = k - 1) = true := decide_eq_true hqk
            have hd2 : (q == k - 1) = true := by simpa using hqk
            rw [hd]
            clear hqk hd
            go_wp2_with fail
            go_roundg m
            case measure => omega
            case rel => exact ⟨i + 1 + 1, by omega, by go_num, HB5⟩
          · have hd : decide (q = k - 1) = false := decide_eq_false hqk
            have hd2 : (q == k - 1) = false := by simpa using hqk
            rw [hd]
            clear hqk hd
            go_wp2_with fail
            go_roundg m
            case measure => omega
            case rel => exact ⟨i + 1 + 1, by omega, by go_num, HB5⟩
  · have hrt := rtB_false.2 hR
    obtain ⟨aK, nK, cK, hkf, -⟩ := hk.form
    clear hk hv hR
    subst hkf hvf
    go_enter Try.func3, Try.ntmps3
    go_wp2_with (first
      | (go_at_call 5; refine (right_any L HK.out HV.out).mono ?_; rintro e w1 ⟨rfl, hb1⟩; rw [hrt]; have HB1 := hide (nextB HBA.out hb1); clear hb1)
      | (go_at_call 6; refine (awake_any _).mono ?_; rintro e w3 ⟨rfl, hb3⟩; have HB3 := hide (nextB HB1.out hb3); clear hb3))
    go_ret
    exact ⟨rfl, HB3.out⟩
end Go.Proofs.Ytcidadikmmdalab
