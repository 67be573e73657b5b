/- BinarySearch; Find. -/
import Derived.Test.YtcidadikmmdalaaDoorEx
namespace Go.Proofs.YtcidadikmmdalaaDoor
open Go.RowKit Go.Extern

theorem isNaN_any (k : Int) (w : World) : Calls Tryd.prog 62 #[.int .i64 k] w fun e w' => e = .returned (.bool false) ∧ w' = w := by
  go_enter Tryd.func62, Tryd.ntmps62
  go_wp2
  go_ret
  exact ⟨by simp, rfl⟩
theorem sisNaN_any (k : Int) (w : World) : Calls Tryd.prog 60 #[.int .i64 k] w fun e w' => e = .returned (.bool false) ∧ w' = w := by
  go_enter Tryd.func60, Tryd.ntmps60
  go_wp2
  go_ret
  exact ⟨by simp, rfl⟩
theorem cmpLess_any (a b : Int) (w : World) : Calls Tryd.prog 59 #[.int .i64 a, .int .i64 b] w fun e w' => e = .returned (.bool (decide (a < b))) ∧ w' = w := by
  go_enter Tryd.func59, Tryd.ntmps59
  go_wp2_with (go_at_call 62; refine (isNaN_any _ _).mono ?_; rintro e w' ⟨rfl, rfl⟩)
  go_ret
  exact ⟨rfl, rfl⟩
/-- Where a key stands, or would stand. -/
structure Spot (K : List Int) (k : Int) (m : Nat) : Prop where
  le : m ≤ K.length
  lo : ∀ (i : Nat) x, K[i]? = some x → i < m → x < k
  hi : ∀ (i : Nat) x, K[i]? = some x → m ≤ i → k ≤ x
/-- Rising keys. -/
def Up (K : List Int) : Prop := K.Pairwise (fun a b => a < b)
theorem Up.lt {K : List Int} (h : Up K) {i j : Nat} {a b : Int} (hi : K[i]? = some a) (hj : K[j]? = some b) (hij : i < j) : a < b := by
  obtain ⟨h1, rfl⟩ := List.getElem?_eq_some_iff.1 hi
  obtain ⟨h2, rfl⟩ := List.getElem?_eq_some_iff.1 hj
  exact List.pairwise_iff_getElem.1 h i j h1 h2 hij
theorem Up.le {K : List Int} (h : Up K) {i j : Nat} {a b : Int} (hi : K[i]? = some a) (hj : K[j]? = some b) (hij : i ≤ j) : a ≤ b := by
  rcases Nat.eq_or_lt_of_le hij with rfl | e
  · rw [hi] at hj; cases hj; omega
  · have := h.lt hi hj e; omega
theorem Ris.up {l : List En} (h : Ris l) : Up (l.map Prod.fst) := List.pairwise_map.2 h.2
theorem Rt.up {L : Int} {K V : List Int} (h : Rt L K V) : Up K := by rw [← zip_fst h.same]; exact h.ris.up
/-- What Find tells. -/
def Found (K : List Int) (k : Int) (at_ : Int) (ex : Bool) : Prop := ∃ m : Nat, Spot K k m ∧ ((ex = true ∧ K[m]? = some k ∧ at_ = (m : Int)) ∨ (ex = false ∧ k ∉ K ∧ at_ = (m : Int) - 1))
theorem Spot.not_mem {K : List Int} {k : Int} {m : Nat} (h : Spot K k m) (hu : Up K) (hne : K[m]? ≠ some k) : k ∉ K := fun hk => by
  obtain ⟨i, hi⟩ := List.mem_iff_getElem?.1 hk
  rcases Nat.lt_trichotomy i m with e | e | e
  · have := h.lo i k hi e; omega
  · subst e; exact hne hi
  · obtain ⟨x, hx⟩ : ∃ x, K[m]? = some x := ⟨K[m]'(by have := (List.getElem?_eq_some_iff.1 hi).1; omega), by rw [List.getElem?_eq_getElem]⟩
    have h1 := hu.lt hx hi e
    have h2 := h.hi m x hx (Nat.le_refl _)
    omega

/-- What BinarySearch leaves. -/
def Searched (w : World) (K : List Int) (k : Int) (e : Ending) (w' : World) : Prop := (∃ (m : Nat) (b : Bool), e = .returned (.tuple #[.int .i64 (m : Int), .bool b]) ∧ Spot K k m ∧ (b = true ↔ K[m]? = some k)) ∧ Below w.heap.size w w'
/-- What Find leaves. -/
def Fnd (w : World) (K : List Int) (k : Int) (e : Ending) (w' : World) : Prop := (∃ (at_ : Int) (ex : Bool), e = .returned (.tuple #[.int .i64 at_, .bool ex]) ∧ Found K k at_ ex) ∧ Below w.heap.size w w'

set_option maxRecDepth 100000 in
set_option maxHeartbeats 1000000 in
theorem search_any {w : World} {v : Value} {K : List Int} (hv : Ints w v K) (hu : Up K) (hl : K.length ≤ 1000) (k : Int) :
    Calls Tryd.prog 53 #[v, .int .i64 k] w (Searched w K k) := by
  obtain ⟨ao, cap, g, off, rfl, h2, h3⟩ := hv.at_
  have H2 := hide h2
  have H3 := hide h3
  have HU := hide hu
  obtain ⟨n, hn⟩ : ∃ n, K.length = n := ⟨_, rfl⟩
  rw [hn] at hl ⊢
  have HN := hide hn
  clear h2 h3 hn hv hu
  go_enter Tryd.func53, Tryd.ntmps53
  go_wp2_with fail
  go_loopg [7, 8] n (fun t s7 s8 wr => ∃ lo hi : Nat, s7 = .int .i64 (lo : Int) ∧ s8 = .int .i64 (hi : Int) ∧ lo ≤ hi ∧ hi ≤ n ∧ hi - lo ≤ t ∧ Hid (∀ (i : Nat) x, K[i]? = some x → i < lo → x < k) ∧ Hid (∀ (i : Nat) x, K[i]? = some x → hi ≤ i → k ≤ x) ∧ Hid (Below w.heap.size w wr))
  case atStart => exact ⟨0, n, rfl, rfl, by omega, Nat.le_refl _, by omega, hide (fun i x _ h => by omega), hide (fun i x hx h => by have := (List.getElem?_eq_some_iff.1 hx).1; have := HN.out; omega), hide (Below.refl _ _)⟩
  case round =>
    obtain ⟨lo, hi, rfl, rfl, hlh, hin, hg, HLO, HHI, HB⟩ := hrel
    by_cases hlt : lo < hi
    · obtain ⟨y, hy⟩ : ∃ y, K[(lo + hi) / 2]? = some y := ⟨K[(lo + hi) / 2]'(by rw [HN.out]; omega), by rw [List.getElem?_eq_getElem]⟩
      obtain rfl := H2.out (by rw [HN.out]; omega)
      have cm := cell_bel HB.out (H3.out _ y hy)
      have HY := hide hy
      clear hy
      by_cases hyx : y < k
      · go_wp2_with (go_at_call 59; refine (cmpLess_any _ _ _).mono ?_; rintro e w' ⟨rfl, rfl⟩)
        go_roundg (hi - ((lo + hi) / 2 + 1))
        case measure => omega
        case rel =>
          refine ⟨(lo + hi) / 2 + 1, hi, by rw [show ((lo : Int) + (hi : Int)) / 2 + 1 = (((lo + hi) / 2 + 1 : Nat) : Int) by omega], rfl, by omega, hin, Nat.le_refl _, hide (fun i x hx hi' => ?_), HHI, HB⟩
          have := HU.out.le hx HY.out (by omega)
          omega
      · go_wp2_with (go_at_call 59; refine (cmpLess_any _ _ _).mono ?_; rintro e w' ⟨rfl, rfl⟩)
        go_roundg ((lo + hi) / 2 - lo)
        case measure => omega
        case rel =>
          refine ⟨lo, (lo + hi) / 2, rfl, by rw [show ((lo : Int) + (hi : Int)) / 2 = (((lo + hi) / 2 : Nat) : Int) by omega], by omega, by omega, Nat.le_refl _, HLO, hide (fun i x hx hi' => ?_), HB⟩
          have := HU.out.le HY.out hx (by omega)
          omega
    · obtain rfl : lo = hi := by omega
      have HS : Hid (Spot K k lo) := hide ⟨by rw [HN.out]; exact hin, fun i x hx h => HLO.out i x hx h, fun i x hx h => HHI.out i x hx h⟩
      by_cases hln : lo < n
      · obtain ⟨y, hy⟩ : ∃ y, K[lo]? = some y := ⟨K[lo]'(by rw [HN.out]; omega), by rw [List.getElem?_eq_getElem]⟩
        obtain rfl := H2.out (by rw [HN.out]; omega)
        have cm := cell_bel HB.out (H3.out _ y hy)
        have HY := hide hy
        clear hy
        by_cases hyk : y = k
        · subst hyk
          go_wp2_with (go_at_call 60; refine (sisNaN_any _ _).mono ?_; rintro e w' ⟨rfl, rfl⟩)
          go_ret2
          exact ⟨⟨lo, true, rfl, HS.out, by rw [HY.out]; simp⟩, HB.out⟩
        · have e1 : (y == k) = false := by simpa using hyk
          go_wp2_with (go_at_call 60; refine (sisNaN_any _ _).mono ?_; rintro e w' ⟨rfl, rfl⟩)
          go_ret2
          exact ⟨⟨lo, false, rfl, HS.out, by rw [HY.out]; simpa using hyk⟩, HB.out⟩
      · go_wp2_with (go_at_call 60; refine (sisNaN_any _ _).mono ?_; rintro e w' ⟨rfl, rfl⟩)
        go_ret2
        exact ⟨⟨lo, false, rfl, HS.out, by rw [List.getElem?_eq_none (by rw [HN.out]; omega)]; simp⟩, HB.out⟩

set_option maxRecDepth 100000 in
set_option maxHeartbeats 1000000 in
theorem find_any {w : World} {kv vv : Value} {K : List Int} (L : Int) (hk : Ints w kv K) (hu : Up K) (hl : K.length ≤ 1000) (k : Int) (hvv : ∃ a n c, vv = .slice a n c) :
    Calls Tryd.prog 39 #[.agg #[.int .i64 L, kv, vv], .int .i64 k] w (Fnd w K k) := by
  obtain ⟨aV, nV, cV, rfl⟩ := hvv
  obtain ⟨aK, n, cK, rfl, hn⟩ := hk.form
  have HBA := hide (bel_alloc w (.cells #[.int .i64 L, .slice aK n cK, .slice aV nV cV] 30))
  have hS := search_any (hk.below HBA.out) hu hl k
  have HU := hide hu
  have HL := hide hl
  clear hk hl hu
  go_enter Tryd.func39, Tryd.ntmps39
  go_wp2_with fail
  refine hS.mono ?_
  rintro e w1 ⟨⟨m, b, rfl, hsp, hb⟩, hbel⟩
  have HSP := hide hsp
  have HBB := hide hb
  have HB1 := hide (nextB HBA.out hbel)
  have hm : m ≤ 1000 := by have := hsp.le; have := HL.out; omega
  clear hsp hb hbel
  cases b with
  | true =>
    have HT := hide (HBB.out.1 rfl)
    clear HBB
    go_wp2_with fail
    go_ret2
    exact ⟨⟨_, _, rfl, m, HSP.out, .inl ⟨rfl, HT.out, rfl⟩⟩, HB1.out⟩
  | false =>
    have ew : IntKind.i64.wrap ((m : Int) - 1) = (m : Int) - 1 := IntWalk.i64_in _ ⟨by omega, by omega⟩
    have HT := hide (HSP.out.not_mem HU.out (fun e => by have := HBB.out.2 e; cases this))
    clear HBB
    go_wp2_with fail
    go_ret2
    exact ⟨⟨_, _, rfl, m, HSP.out, .inr ⟨rfl, HT.out, rfl⟩⟩, HB1.out⟩
end Go.Proofs.YtcidadikmmdalaaDoor
