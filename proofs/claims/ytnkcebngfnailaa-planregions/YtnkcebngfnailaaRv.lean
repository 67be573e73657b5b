/- The reserve, whether there is enough, the bounds, by their contracts. -/
import Derived.Test.YtnkcebngfnailaaCn
namespace Go.Proofs.Ytnkcebngfnailaa
open Go.RowKit Go.Extern

theorem ints_lits (w : World) (l : List Int) (hl : l.length ≤ 1000) (h : ∀ k ∈ l, I64 k) : Ints (w.alloc (.cells (l.map encI).toArray 3)) (.slice (some ⟨w.heap.size, 0, none⟩) l.length l.length) l :=
  ⟨ownsRow_row (base := w.heap.size) (by have := lit_row w w.heap.size 3 (l.map encI) (Nat.le_refl _) (by simp; omega); simpa using this) (by simp; omega), h⟩
theorem any2 (a b : Int) : ([a, b].any noFit) = (noFit a || noFit b) := by simp
theorem any3 (a b c : Int) : ([a, b, c].any noFit) = (noFit a || (noFit b || noFit c)) := by simp
/-- Two numbers that are handed in as such. -/
theorem counts2 {a b : Int} (ha : I64 a) (hb : I64 b) (w : World) : Calls Try.prog 26 #[.slice (some ⟨w.heap.size, 0, none⟩) 2 2] (w.alloc (.cells #[.int .i64 a, .int .i64 b] 3)) fun e w' => e = .returned (.bool (!(noFit a || noFit b))) ∧ Below w.heap.size w w' := by
  have h := counts_any (ints_lits w [a, b] (by simp) (by simp [ha, hb]))
  rw [any2] at h
  refine h.mono ?_
  rintro e w' ⟨rfl, hb⟩
  exact ⟨rfl, nextB (bel_alloc _ _) hb⟩
theorem counts3 {a b c : Int} (ha : I64 a) (hb : I64 b) (hc : I64 c) (w : World) : Calls Try.prog 26 #[.slice (some ⟨w.heap.size, 0, none⟩) 3 3] (w.alloc (.cells #[.int .i64 a, .int .i64 b, .int .i64 c] 3)) fun e w' => e = .returned (.bool (!(noFit a || (noFit b || noFit c)))) ∧ Below w.heap.size w w' := by
  have h := counts_any (ints_lits w [a, b, c] (by simp) (by simp [ha, hb, hc]))
  rw [any3] at h
  refine h.mono ?_
  rintro e w' ⟨rfl, hb⟩
  exact ⟨rfl, nextB (bel_alloc _ _) hb⟩
/-- What a call that tells a number leaves: the number, or ErrRange. -/
def Tells (ok : Prop) (x : Int) (w : World) (e : Ending) (w' : World) : Prop := ((ok ∧ e = .returned (.tuple #[.int .i64 x, .nilIface])) ∨ (¬ ok ∧ e = .returned (.tuple #[.int .i64 0, .iface 51 (.int .i64 20)]))) ∧ Below w.heap.size w w'

set_option maxRecDepth 100000 in
theorem reserve_any {a b : Int} (ha : I64 a) (hb : I64 b) (w : World) : Calls Try.prog 15 #[.int .i64 a, .int .i64 b] w (Tells (Fit a ∧ Fit b) (2 * a + 8 * b + 32) w) := by
  have hC := counts2 ha hb w
  by_cases h : Fit a ∧ Fit b
  · rw [noFit_ok h.1, noFit_ok h.2] at hC
    have H := hide h
    obtain ⟨⟨a1, a2⟩, b1, b2⟩ := h
    have e1 : IntKind.i64.wrap (2 * a) = 2 * a := by rw [IntKind.wrap_i64]; omega
    have e2 : IntKind.i64.wrap (8 * b) = 8 * b := by rw [IntKind.wrap_i64]; omega
    have e3 : IntKind.i64.wrap (2 * a + 8 * b) = 2 * a + 8 * b := by rw [IntKind.wrap_i64]; omega
    have e4 : IntKind.i64.wrap (2 * a + 8 * b + 32) = 2 * a + 8 * b + 32 := by rw [IntKind.wrap_i64]; omega
    clear ha hb a1 a2 b1 b2
    go_enter Try.func15, Try.ntmps15
    go_wp2_with fail
    refine hC.mono ?_
    rintro e w1 ⟨rfl, hb⟩
    have HB := hide hb
    clear hb hC
    go_wp2_with fail
    go_ret2
    exact ⟨.inl ⟨H.out, rfl⟩, HB.out⟩
  · have hq : (noFit a || noFit b) = true := by
      by_cases h1 : Fit a
      · rw [noFit_bad (n := b) fun h2 => h ⟨h1, h2⟩]; simp
      · rw [noFit_bad h1]; rfl
    rw [hq] at hC
    have H := hide h
    clear ha hb h hq
    go_enter Try.func15, Try.ntmps15
    go_wp2_with fail
    refine hC.mono ?_
    rintro e w1 ⟨rfl, hb⟩
    have HB := hide hb
    clear hb hC
    go_wp2_with fail
    go_ret2
    exact ⟨.inr ⟨H.out, rfl⟩, HB.out⟩
set_option maxRecDepth 100000 in
theorem most_any {a b : Int} (ha : I64 a) (hb : I64 b) (w : World) : Calls Try.prog 18 #[.int .i64 a, .int .i64 b] w (Tells (Fit a ∧ Fit b) (8 * a + 24 * b) w) := by
  have hC := counts2 ha hb w
  by_cases h : Fit a ∧ Fit b
  · rw [noFit_ok h.1, noFit_ok h.2] at hC
    have H := hide h
    obtain ⟨⟨a1, a2⟩, b1, b2⟩ := h
    have e1 : IntKind.i64.wrap (8 * a) = 8 * a := by rw [IntKind.wrap_i64]; omega
    have e2 : IntKind.i64.wrap (24 * b) = 24 * b := by rw [IntKind.wrap_i64]; omega
    have e3 : IntKind.i64.wrap (8 * a + 24 * b) = 8 * a + 24 * b := by rw [IntKind.wrap_i64]; omega
    clear ha hb a1 a2 b1 b2
    go_enter Try.func18, Try.ntmps18
    go_wp2_with fail
    refine hC.mono ?_
    rintro e w1 ⟨rfl, hb⟩
    have HB := hide hb
    clear hb hC
    go_wp2_with fail
    go_ret2
    exact ⟨.inl ⟨H.out, rfl⟩, HB.out⟩
  · have hq : (noFit a || noFit b) = true := by
      by_cases h1 : Fit a
      · rw [noFit_bad (n := b) fun h2 => h ⟨h1, h2⟩]; simp
      · rw [noFit_bad h1]; rfl
    rw [hq] at hC
    have H := hide h
    clear ha hb h hq
    go_enter Try.func18, Try.ntmps18
    go_wp2_with fail
    refine hC.mono ?_
    rintro e w1 ⟨rfl, hb⟩
    have HB := hide hb
    clear hb hC
    go_wp2_with fail
    go_ret2
    exact ⟨.inr ⟨H.out, rfl⟩, HB.out⟩
set_option maxRecDepth 100000 in
theorem bound_any {a b c : Int} (ha : I64 a) (hb : I64 b) (hc : I64 c) (w : World) : Calls Try.prog 17 #[.int .i64 a, .int .i64 b, .int .i64 c] w (Tells (Fit a ∧ Fit b ∧ Fit c) (4 * a + 12 * b + 8 * c + 8) w) := by
  have hC := counts3 ha hb hc w
  by_cases h : Fit a ∧ Fit b ∧ Fit c
  · rw [noFit_ok h.1, noFit_ok h.2.1, noFit_ok h.2.2] at hC
    have H := hide h
    obtain ⟨⟨a1, a2⟩, ⟨b1, b2⟩, c1, c2⟩ := h
    have e1 : IntKind.i64.wrap (4 * a) = 4 * a := by rw [IntKind.wrap_i64]; omega
    have e2 : IntKind.i64.wrap (12 * b) = 12 * b := by rw [IntKind.wrap_i64]; omega
    have e3 : IntKind.i64.wrap (4 * a + 12 * b) = 4 * a + 12 * b := by rw [IntKind.wrap_i64]; omega
    have e4 : IntKind.i64.wrap (8 * c) = 8 * c := by rw [IntKind.wrap_i64]; omega
    have e5 : IntKind.i64.wrap (4 * a + 12 * b + 8 * c) = 4 * a + 12 * b + 8 * c := by rw [IntKind.wrap_i64]; omega
    have e6 : IntKind.i64.wrap (4 * a + 12 * b + 8 * c + 8) = 4 * a + 12 * b + 8 * c + 8 := by rw [IntKind.wrap_i64]; omega
    clear ha hb hc a1 a2 b1 b2 c1 c2
    go_enter Try.func17, Try.ntmps17
    go_wp2_with fail
    refine hC.mono ?_
    rintro e w1 ⟨rfl, hb⟩
    have HB := hide hb
    clear hb hC
    go_wp2_with fail
    go_ret2
    exact ⟨.inl ⟨H.out, rfl⟩, HB.out⟩
  · have hq : (noFit a || (noFit b || noFit c)) = true := by
      by_cases h1 : Fit a
      · by_cases h2 : Fit b
        · rw [noFit_bad (n := c) fun h3 => h ⟨h1, h2, h3⟩]; simp
        · rw [noFit_bad h2]; simp
      · rw [noFit_bad h1]; rfl
    rw [hq] at hC
    have H := hide h
    clear ha hb hc h hq
    go_enter Try.func17, Try.ntmps17
    go_wp2_with fail
    refine hC.mono ?_
    rintro e w1 ⟨rfl, hb⟩
    have HB := hide hb
    clear hb hC
    go_wp2_with fail
    go_ret2
    exact ⟨.inr ⟨H.out, rfl⟩, HB.out⟩
/-- What Enough leaves: whether there is, or ErrRange. -/
def TellsB (ok : Prop) (x : Bool) (w : World) (e : Ending) (w' : World) : Prop := ((ok ∧ e = .returned (.tuple #[.bool x, .nilIface])) ∨ (¬ ok ∧ e = .returned (.tuple #[.bool false, .iface 51 (.int .i64 20)]))) ∧ Below w.heap.size w w'
set_option maxRecDepth 100000 in
theorem enough_any {a b c d : Int} (ha : I64 a) (hb : I64 b) (hc : I64 c) (hd : I64 d) (w : World) : Calls Try.prog 16 #[.int .i64 a, .int .i64 b, .int .i64 c, .int .i64 d] w (TellsB (Fit a ∧ Fit b ∧ Fit c ∧ Fit d) (decide (a + (2 * b + 8 * c + 32) ≤ d)) w) := by
  have hC := counts2 ha hd w
  have hR := fun wx => reserve_any hb hc wx
  by_cases h : Fit a ∧ Fit d
  · rw [noFit_ok h.1, noFit_ok h.2] at hC
    have H := hide h
    obtain ⟨⟨a1, a2⟩, d1, d2⟩ := h
    have ha2 : Hid (0 ≤ a ∧ a ≤ 1099511627776) := ⟨a1, a2⟩
    clear ha hb hc hd a1 a2 d1 d2
    go_enter Try.func16, Try.ntmps16
    go_wp2_with fail
    refine hC.mono ?_
    rintro e w1 ⟨rfl, hb⟩
    have HB := hide hb
    clear hb hC
    go_wp2_with fail
    refine (hR _).mono ?_
    rintro e w2 ⟨h2, hb2⟩
    have HB2 := hide (nextB HB.out hb2)
    clear hb2 hR HB
    rcases h2 with ⟨h2, rfl⟩ | ⟨h2, rfl⟩
    · have H2 := hide h2
      obtain ⟨r, hr⟩ : ∃ r, 2 * b + 8 * c + 32 = r := ⟨_, rfl⟩
      have e1 : IntKind.i64.wrap (a + r) = a + r := by
        have := ha2.out; obtain ⟨⟨b1, b2⟩, c1, c2⟩ := h2
        rw [IntKind.wrap_i64]; omega
      rw [hr]
      have HR := hide hr
      clear h2 hr
      go_wp2_with fail
      go_ret2
      exact ⟨.inl ⟨⟨H.out.1, H2.out.1, H2.out.2, H.out.2⟩, by first | rfl | (rw [HR.out]; rfl)⟩, HB2.out⟩
    · have H2 := hide h2
      clear h2
      go_wp2_with fail
      go_ret2
      exact ⟨.inr ⟨fun h => H2.out ⟨h.2.1, h.2.2.1⟩, rfl⟩, HB2.out⟩
  · have hq : (noFit a || noFit d) = true := by
      by_cases h1 : Fit a
      · rw [noFit_bad (n := d) fun h2 => h ⟨h1, h2⟩]; simp
      · rw [noFit_bad h1]; rfl
    rw [hq] at hC
    have H := hide h
    clear ha hb hc hd h hq hR
    go_enter Try.func16, Try.ntmps16
    go_wp2_with fail
    refine hC.mono ?_
    rintro e w1 ⟨rfl, hb⟩
    have HB := hide hb
    clear hb hC
    go_wp2_with fail
    go_ret2
    exact ⟨.inr ⟨fun h => H.out ⟨h.1, h.2.2.2⟩, rfl⟩, HB.out⟩
/-- The document's. -/
theorem fits_any (n : Int) (w : World) : Calls Try.prog 19 #[.int .i64 n] w fun e w' => e = .returned (.bool (!noFit n)) ∧ w' = w := by
  by_cases h1 : 0 ≤ n
  · by_cases h2 : n ≤ 1099511627776
    · have HD : Hid (noFit n = false) := noFit_ok ⟨h1, h2⟩
      go_enter Try.func19, Try.ntmps19
      go_wp2
      go_ret
      exact ⟨by rw [HD.out]; rfl, rfl⟩
    · have HD : Hid (noFit n = true) := noFit_bad fun h => h2 h.2
      go_enter Try.func19, Try.ntmps19
      go_wp2
      go_ret
      exact ⟨by rw [HD.out]; rfl, rfl⟩
  · have HD : Hid (noFit n = true) := noFit_bad fun h => h1 h.1
    go_enter Try.func19, Try.ntmps19
    go_wp2
    go_ret
    exact ⟨by rw [HD.out]; rfl, rfl⟩
end Go.Proofs.Ytnkcebngfnailaa
