/- Entries in memory; the search for a number. -/
import Derived.Test.YtjofbehmhdjohaaCl
namespace Go.Proofs.Ytjofbehmhdjohaa
open Go.RowKit Go.Extern

/-- An entry: its number, where its spans stand, and these. -/
structure En where
  num : Int
  ao : Option Addr
  n : Nat
  cap : Nat
  sps : List S
def En.sv (e : En) : Value := .slice e.ao e.n e.cap
def enE (e : En) : List Value := [.int .i64 e.num, .slice e.ao e.n e.cap]
theorem enE_len (e : En) : (enE e).length = 2 := rfl
theorem enE_one (e : En) : ∀ u ∈ enE e, u.oneCell' = true := by
  intro u hu; simp only [enE, List.mem_cons, List.not_mem_nil, or_false] at hu; rcases hu with rfl | rfl <;> rfl
abbrev anyZ : Nat → Prop := fun _ => True
/-- 'v' is, in the world 'w', a slice of the entries 'E'. -/
def Ens (w : World) (v : Value) (E : List En) : Prop :=
  ∃ ao cap g off, v = .slice ao E.length cap ∧ (0 < E.length → ao = some ⟨g, off, none⟩) ∧
    (∀ (i : Nat) e, E[i]? = some e → w.cell? ⟨g, off + i * 2, none⟩ = some (.int .i64 e.num) ∧ w.cell? ⟨g, off + i * 2 + 1, none⟩ = some (.slice e.ao e.n e.cap)) ∧
    (∀ e ∈ E, Sps w anyZ e.sv e.sps) ∧ E.length ≤ 1000 ∧ E.length ≤ cap ∧ cap ≤ maxLen
section
variable {w w' : World} {v : Value} {E : List En}
theorem Ens.below (hb : Below w.heap.size w w') (h : Ens w v E) : Ens w' v E := by
  obtain ⟨ao, cap, g, off, h1, h2, h3, h4, h5⟩ := h
  exact ⟨ao, cap, g, off, h1, h2, fun i q hq => ⟨cell_bel hb (h3 i q hq).1, cell_bel hb (h3 i q hq).2⟩, fun e he => (h4 e he).below hb, h5⟩
theorem Ens.form (h : Ens w v E) : ∃ ao n cap, v = .slice ao n cap ∧ Hid (n = E.length) := by
  obtain ⟨ao, cap, g, off, rfl, -⟩ := h; exact ⟨_, _, _, rfl, rfl⟩
theorem Ens.few (h : Ens w v E) : E.length ≤ 1000 := by obtain ⟨ao, cap, g, off, h1, h2, h3, h4, h5, -⟩ := h; exact h5
theorem Ens.sps (h : Ens w v E) {e : En} (he : e ∈ E) : Sps w anyZ e.sv e.sps := by obtain ⟨ao, cap, g, off, h1, h2, h3, h4, -⟩ := h; exact h4 e he
theorem OwnK.ens {T : TypeId} {base : Nat} (h : OwnK enE 2 T w base v E) (hs : ∀ e ∈ E, Sps w anyZ e.sv e.sps) : Ens w v E := by
  have h2 := h.2
  obtain ⟨ao, cap, g, hv, hc, hm, hn, -, hp, hx⟩ := h.cell enE_len
  refine ⟨ao, cap, g, 0, hv, fun hl => (hp hl).1, fun i e he => ?_, hs, h2, hc, hm⟩
  rw [Nat.zero_add]
  exact ⟨hx i 0 e he (by omega), hx i 1 e he (by omega)⟩
end
/-- Where a key stands, or would stand. -/
structure Spot (K : List Int) (k : Int) (m : Nat) : Prop where
  le : m ≤ K.length
  lo : ∀ (i : Nat) x, K[i]? = some x → i < m → x < k
  hi : ∀ (i : Nat) x, K[i]? = some x → m ≤ i → k ≤ x
/-- Rising keys. -/
def Up (K : List Int) : Prop := K.Pairwise (fun a b => a < b)
theorem Up.lt {K : List Int} (h : Up K) {i j : Nat} {a b : Int} (hi : K[i]? = some a) (hj : K[j]? = some b) (hij : i < j) : a < b := by
  obtain ⟨h1, rfl⟩ := List.getElem?_eq_some_iff.1 hi
  obtain ⟨h2, rfl⟩ := List.getElem?_eq_some_iff.1 hj
  exact List.pairwise_iff_getElem.1 h i j h1 h2 hij
theorem Up.le {K : List Int} (h : Up K) {i j : Nat} {a b : Int} (hi : K[i]? = some a) (hj : K[j]? = some b) (hij : i ≤ j) : a ≤ b := by
  rcases Nat.eq_or_lt_of_le hij with rfl | e
  · rw [hi] at hj; cases hj; omega
  · have := h.lt hi hj e; omega
theorem Up.inj {K : List Int} (h : Up K) {i j : Nat} {a : Int} (hi : K[i]? = some a) (hj : K[j]? = some a) : i = j := by
  rcases Nat.lt_trichotomy i j with e | e | e
  · have := h.lt hi hj e; omega
  · exact e
  · have := h.lt hj hi e; omega
theorem Spot.not_mem {K : List Int} {k : Int} {m : Nat} (h : Spot K k m) (hu : Up K) (hne : K[m]? ≠ some k) : k ∉ K := fun hk => by
  obtain ⟨i, hi⟩ := List.mem_iff_getElem?.1 hk
  rcases Nat.lt_trichotomy i m with e | e | e
  · have := h.lo i k hi e; omega
  · subst e; exact hne hi
  · obtain ⟨x, hx⟩ : ∃ x, K[m]? = some x := ⟨K[m]'(by have := (List.getElem?_eq_some_iff.1 hi).1; omega), by rw [List.getElem?_eq_getElem]⟩
    have h1 := hu.lt hx hi e
    have h2 := h.hi m x hx (Nat.le_refl _)
    omega

theorem isNaN_any (k : Int) (w : World) : Calls Try.prog 49 #[.int .i64 k] w fun e w' => e = .returned (.bool false) ∧ w' = w := by
  go_enter Try.func49, Try.ntmps49
  go_wp2
  go_ret
  exact ⟨by simp, rfl⟩
def cmp3 (a b : Int) : Int := if a < b then -1 else if b < a then 1 else 0
set_option maxRecDepth 100000 in
theorem cmpCompare_any (a b : Int) (w : World) : Calls Try.prog 47 #[.int .i64 a, .int .i64 b] w fun e w' => e = .returned (.int .i64 (cmp3 a b)) ∧ w' = w := by
  unfold cmp3
  by_cases h1 : a < b
  · rw [if_pos h1]
    go_enter Try.func47, Try.ntmps47
    go_wp2_with (go_at_call 49; refine (isNaN_any _ _).mono ?_; rintro e w' ⟨rfl, rfl⟩)
    go_ret
    exact ⟨rfl, rfl⟩
  rw [if_neg h1]
  by_cases h2 : b < a
  · rw [if_pos h2]
    go_enter Try.func47, Try.ntmps47
    go_wp2_with (go_at_call 49; refine (isNaN_any _ _).mono ?_; rintro e w' ⟨rfl, rfl⟩)
    go_ret
    exact ⟨rfl, rfl⟩
  rw [if_neg h2]
  go_enter Try.func47, Try.ntmps47
  go_wp2_with (go_at_call 49; refine (isNaN_any _ _).mono ?_; rintro e w' ⟨rfl, rfl⟩)
  go_ret
  exact ⟨rfl, rfl⟩
set_option maxRecDepth 100000 in
theorem compare_any (n : Int) (a : Option Addr) (m c : Nat) (k : Int) (w : World) : Calls Try.prog 43 #[.agg #[.int .i64 n, .slice a m c], .int .i64 k] w fun e w' => e = .returned (.int .i64 (cmp3 n k)) ∧ Below w.heap.size w w' := by
  have HB := hide (bel_alloc w (.cells #[.int .i64 n, .slice a m c] 69))
  go_enter Try.func43, Try.ntmps43
  go_wp2_with (go_at_call 47; refine (cmpCompare_any _ _ _).mono ?_; rintro e w' ⟨rfl, rfl⟩)
  go_ret
  exact ⟨rfl, HB.out⟩
theorem cmp3_lt {a b : Int} (h : a < b) : cmp3 a b = -1 := by simp [cmp3, h]
theorem cmp3_ge {a b : Int} (h : ¬ a < b) : ¬ cmp3 a b < 0 := by unfold cmp3; rw [if_neg h]; split <;> omega
theorem cmp3_eq {a b : Int} : (cmp3 a b == 0) = decide (a = b) := by
  unfold cmp3; rw [Bool.eq_iff_iff]; split <;> (try split) <;> simp <;> omega
/-- What the search leaves. -/
def Fnd (w : World) (E : List En) (k : Int) (e : Ending) (w' : World) : Prop :=
  (∃ (m : Nat) (b : Bool), e = .returned (.tuple #[.int .i64 (m : Int), .bool b]) ∧ m ≤ E.length ∧ (b = true → ∃ x, E[m]? = some x ∧ x.num = k) ∧ (b = false → ∀ x ∈ E, x.num ≠ k)) ∧ Below w.heap.size w w'
theorem num_at {E : List En} {i : Nat} {x : En} (h : E[i]? = some x) : (E.map En.num)[i]? = some x.num := by rw [List.getElem?_map, h]; rfl

set_option maxRecDepth 100000 in
set_option maxHeartbeats 2000000 in
theorem bsf_any {w : World} {v : Value} {E : List En} (hv : Ens w v E) (hu : Up (E.map En.num)) (k : Int) :
    Calls Try.prog 42 #[v, .int .i64 k, .func (.func 43) #[] #[]] w (Fnd w E k) := by
  obtain ⟨ao, cap, g, off, rfl, h2, h3, -, h5, -⟩ := hv
  have H2 := hide h2
  have H3 := hide h3
  have HU := hide hu
  obtain ⟨n, hn⟩ : ∃ n, E.length = n := ⟨_, rfl⟩
  rw [hn] at h5 ⊢
  have HN := hide hn
  clear h2 h3 hn hu
  go_enter Try.func42, Try.ntmps42
  go_wp2_with fail
  go_loopg [9, 10] n (fun t s7 s8 wr => ∃ lo hi : Nat, s7 = .int .i64 (lo : Int) ∧ s8 = .int .i64 (hi : Int) ∧ lo ≤ hi ∧ hi ≤ n ∧ hi - lo ≤ t ∧ Hid (∀ (i : Nat) x, (E.map En.num)[i]? = some x → i < lo → x < k) ∧ Hid (∀ (i : Nat) x, (E.map En.num)[i]? = some x → hi ≤ i → k ≤ x) ∧ Hid (Below w.heap.size w wr))
  case atStart => exact ⟨0, n, rfl, rfl, by omega, Nat.le_refl _, by omega, hide (fun i x _ h => by omega), hide (fun i x hx h => by have := (List.getElem?_eq_some_iff.1 hx).1; have := HN.out; simp at *; omega), hide (Below.refl _ _)⟩
  case round =>
    obtain ⟨lo, hi, rfl, rfl, hlh, hin, hg, HLO, HHI, HB⟩ := hrel
    by_cases hlt : lo < hi
    · obtain ⟨y, hy⟩ : ∃ y, E[(lo + hi) / 2]? = some y := ⟨E[(lo + hi) / 2]'(by rw [HN.out]; omega), by rw [List.getElem?_eq_getElem]⟩
      obtain rfl := H2.out (by rw [HN.out]; omega)
      obtain ⟨c0, c1⟩ := H3.out _ y hy
      replace c0 := cell_bel HB.out c0
      replace c1 := cell_bel HB.out c1
      have HY := hide (num_at hy)
      clear hy
      by_cases hyx : y.num < k
      · have hc := cmp3_lt hyx
        have HYX := hide hyx
        clear hyx
        go_wp2_with (go_at_call 43; refine (compare_any _ _ _ _ _ _).mono ?_; rintro e w' ⟨rfl, hb⟩; have HB2 := hide (nextB HB.out hb); clear hb c0 c1)
        go_roundg (hi - ((lo + hi) / 2 + 1))
        case measure => omega
        case rel =>
          refine ⟨(lo + hi) / 2 + 1, hi, by rw [show ((lo : Int) + (hi : Int)) / 2 + 1 = (((lo + hi) / 2 + 1 : Nat) : Int) by omega], rfl, by omega, hin, Nat.le_refl _, hide (fun i x hx hi' => ?_), HHI, HB2⟩
          have := HU.out.le hx HY.out (by omega)
          have := HYX.out
          omega
      · have hc := cmp3_ge hyx
        have HYX := hide hyx
        clear hyx
        go_wp2_with (go_at_call 43; refine (compare_any _ _ _ _ _ _).mono ?_; rintro e w' ⟨rfl, hb⟩; have HB2 := hide (nextB HB.out hb); clear hb c0 c1)
        go_roundg ((lo + hi) / 2 - lo)
        case measure => omega
        case rel =>
          refine ⟨lo, (lo + hi) / 2, rfl, by rw [show ((lo : Int) + (hi : Int)) / 2 = (((lo + hi) / 2 : Nat) : Int) by omega], by omega, by omega, Nat.le_refl _, HLO, hide (fun i x hx hi' => ?_), HB2⟩
          have := HU.out.le HY.out hx (by omega)
          have := HYX.out
          omega
    · obtain rfl : lo = hi := by omega
      have HS : Hid (Spot (E.map En.num) k lo) := hide ⟨by rw [List.length_map, HN.out]; exact hin, fun i x hx h => HLO.out i x hx h, fun i x hx h => HHI.out i x hx h⟩
      clear hlt hlh
      by_cases hln : lo < n
      · obtain ⟨y, hy⟩ : ∃ y, E[lo]? = some y := ⟨E[lo]'(by rw [HN.out]; omega), by rw [List.getElem?_eq_getElem]⟩
        obtain rfl := H2.out (by rw [HN.out]; omega)
        obtain ⟨c0, c1⟩ := H3.out _ y hy
        replace c0 := cell_bel HB.out c0
        replace c1 := cell_bel HB.out c1
        have HY := hide hy
        clear hy
        go_wp2_with (go_at_call 43; refine (compare_any _ _ _ _ _ _).mono ?_; rintro e w' ⟨rfl, hb⟩; have HB2 := hide (nextB HB.out hb); clear hb c0 c1)
        go_ret2
        refine ⟨⟨lo, decide (y.num = k), by rw [← cmp3_eq]; rfl, by rw [HN.out]; exact hin, fun h => ⟨y, HY.out, by simpa using h⟩, fun h x hx e => ?_⟩, HB2.out⟩
        refine HS.out.not_mem HU.out (fun e2 => ?_) (List.mem_map.2 ⟨x, hx, e⟩)
        rw [num_at HY.out] at e2
        simp at h e2
        exact h e2
      · go_wp2_with fail
        go_ret2
        refine ⟨⟨lo, false, rfl, by rw [HN.out]; exact hin, by simp, fun _ x hx e => ?_⟩, HB.out⟩
        refine HS.out.not_mem HU.out (fun e2 => ?_) (List.mem_map.2 ⟨x, hx, e⟩)
        rw [List.getElem?_eq_none (by rw [List.length_map, HN.out]; omega)] at e2
        cases e2
end Go.Proofs.Ytjofbehmhdjohaa
