/- Numbers in their range; the reserve, the bounds, by their contracts. -/
import Derived.Test.YtnkcebngfnailaaIi
import Derived.Test.YtnkcebngfnailaaErr
namespace Go.Proofs.Ytnkcebngfnailaa
open Go.RowKit Go.Extern

/-- A number that may be handed in. -/
def Fit (n : Int) : Prop := 0 ≤ n ∧ n ≤ 1099511627776
/-- .. or not. -/
def noFit (n : Int) : Bool := decide (n < 0 ∨ 1099511627776 < n)
theorem noFit_ok {n : Int} (h : Fit n) : noFit n = false := by unfold Fit at h; unfold noFit; simp; omega
theorem noFit_bad {n : Int} (h : ¬ Fit n) : noFit n = true := by unfold Fit at h; unfold noFit; simp; omega
theorem Fit.i64 {n : Int} (h : Fit n) : I64 n := by unfold Fit at h; unfold I64; omega

set_option maxRecDepth 100000 in
theorem counts1_any (n : Int) (w : World) : Calls Try.prog 31 #[.int .i64 n] w fun e w' => e = .returned (.bool (noFit n)) ∧ w' = w := by
  by_cases h1 : n < 0
  · have HD : Hid (noFit n = true) := by show _ = _; unfold noFit; simp; omega
    go_enter Try.func31, Try.ntmps31
    go_wp2
    go_ret
    exact ⟨by rw [HD.out]; rfl, rfl⟩
  · by_cases h2 : 1099511627776 < n
    · have HD : Hid (noFit n = true) := by show _ = _; unfold noFit; simp; omega
      go_enter Try.func31, Try.ntmps31
      go_wp2
      go_ret
      exact ⟨by rw [HD.out]; rfl, rfl⟩
    · have HD : Hid (noFit n = false) := by show _ = _; unfold noFit; simp; omega
      go_enter Try.func31, Try.ntmps31
      go_wp2
      go_ret
      exact ⟨by rw [HD.out]; rfl, rfl⟩
/-- What IndexFunc leaves. -/
def Idx (w : World) (p : Bool) (e : Ending) (w' : World) : Prop := (∃ k : Int, e = .returned (.int .i64 k) ∧ decide (0 ≤ k) = p) ∧ Below w.heap.size w w'

set_option maxRecDepth 100000 in
set_option maxHeartbeats 2000000 in
theorem idx_any {w : World} {v : Value} {l : List Int} (hv : Ints w v l) :
    Calls Try.prog 34 #[v, .func (.func 31) #[] #[]] w (Idx w (l.any noFit)) := by
  have h5 := hv.len
  obtain ⟨ao, cap, g, off, rfl, h2, h3⟩ := hv.at_
  have H2 := hide h2
  have H3 := hide h3
  obtain ⟨n, hn⟩ : ∃ n, l.length = n := ⟨_, rfl⟩
  rw [hn] at h5 ⊢
  have HN := hide hn
  clear h2 h3 hn hv
  go_enter Try.func34, Try.ntmps34
  go_wp2_with fail
  go_loopg [8] n (fun k i wr => ∃ j : Nat, j + k = n ∧ i = .int .i64 (j : Int) ∧ Hid (((l.take j).any noFit) = false) ∧ Hid (Below w.heap.size w wr))
  case atStart => exact ⟨0, by omega, rfl, hide (by simp), hide (Below.refl _ _)⟩
  case round =>
    obtain ⟨j, hj, rfl, HA, HB⟩ := hrel
    cases gk with
    | zero =>
      have hnl : ¬ (j : Int) < (n : Int) := by omega
      have hend : l.take j = l := List.take_of_length_le (by rw [HN.out]; omega)
      rw [hend] at HA
      clear hend
      go_wp2_with fail
      go_ret
      exact ⟨⟨-1, rfl, by rw [HA.out]; rfl⟩, HB.out⟩
    | succ m =>
      have hlt : (j : Int) < (n : Int) := by omega
      have hb0 : (0 : Int) ≤ (j : Int) := by omega
      obtain ⟨p, he⟩ : ∃ e, l[j]? = some e := ⟨l[j]'(by rw [HN.out]; omega), by rw [List.getElem?_eq_getElem]⟩
      obtain rfl := H2.out (by rw [HN.out]; omega)
      have k0 := H3.out j p he
      have HT := hide (take_snoc he)
      replace k0 := cell_bel HB.out k0
      have hj63 : (j : Int) + 1 < 140737488355328 + 1 := by omega
      clear he
      go_wp2_with fail
      clear k0
      refine (counts1_any p _).mono ?_
      rintro e w1 ⟨rfl, rfl⟩
      by_cases hc : Fit p
      · have HC := hide hc
        have hd : noFit p = false := noFit_ok hc
        rw [hd]
        clear hc hd
        go_wp2_with fail
        go_roundg m
        case measure => omega
        case rel => exact ⟨j + 1, by omega, by simp, hide (by rw [HT.out, List.any_append, HA.out]; simp [noFit_ok HC.out]), HB⟩
      · have HC := hide hc
        have hd : noFit p = true := noFit_bad hc
        rw [hd]
        clear hc hd
        go_wp2_with fail
        go_ret
        refine ⟨⟨(j : Int), rfl, ?_⟩, HB.out⟩
        rw [List.any_eq_true.2 ⟨p, List.mem_of_mem_take (by rw [HT.out]; simp), noFit_bad HC.out⟩]
        simp
set_option maxRecDepth 100000 in
theorem cont_any {w : World} {v : Value} {l : List Int} (hv : Ints w v l) :
    Calls Try.prog 30 #[v, .func (.func 31) #[] #[]] w fun e w' => e = .returned (.bool (l.any noFit)) ∧ Below w.heap.size w w' := by
  have hI := idx_any hv
  obtain ⟨ao, n, cap, rfl, -⟩ := hv.form
  clear hv
  go_enter Try.func30, Try.ntmps30
  go_wp2_with fail
  refine hI.mono ?_
  rintro e w1 ⟨⟨k, rfl, hk⟩, hb⟩
  have HB := hide hb
  have HK := hide hk
  clear hk hb hI
  go_wp2_with fail
  go_ret
  exact ⟨by rw [← HK.out]; rfl, HB.out⟩
set_option maxRecDepth 100000 in
theorem counts_any {w : World} {v : Value} {l : List Int} (hv : Ints w v l) :
    Calls Try.prog 26 #[v] w fun e w' => e = .returned (.bool (!(l.any noFit))) ∧ Below w.heap.size w w' := by
  have hI := cont_any hv
  obtain ⟨ao, n, cap, rfl, -⟩ := hv.form
  obtain ⟨q, hq⟩ : ∃ q, l.any noFit = q := ⟨_, rfl⟩
  rw [hq] at hI ⊢
  clear hv hq
  go_enter Try.func26, Try.ntmps26
  go_wp2_with fail
  refine hI.mono ?_
  rintro e w1 ⟨rfl, hb⟩
  have HB := hide hb
  clear hb hI
  go_wp2_with fail
  go_ret
  exact ⟨rfl, HB.out⟩
end Go.Proofs.Ytnkcebngfnailaa
