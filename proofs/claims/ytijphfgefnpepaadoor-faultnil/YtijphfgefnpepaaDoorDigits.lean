/- The document's own decimal numeral of a number is strconv's. -/
import Derived.Test.YtijphfgefnpepaaDoorShelf
import Derived.Test.YtijphfgefnpepaaDoorWalks
import Derived.Deep.RegionWith
import Derived.Lib.AppendIntMem
import Derived.Laws.IdiomStrings
import Derived.Laws.Concat
import Derived.Lib.ItoaLen
namespace Go.Proofs.YtijphfgefnpepaaDoor
open Go.RowKit Go.Extern.Stop Go.Stop Go.Extern

/-- One byte of a slice as a string. -/
theorem conv_one (x : Int) (g cap : Nat) (W : World) (h0 : 0 ≤ x) (h1 : x < 256) (hc : W.cell? ⟨g, 0, none⟩ = some (.int .u8 x)) :
    (convert 69 9 (.slice (some ⟨g, 0, none⟩) 1 cap)).run Tryd.prog W = .ok (.string ⟨#[UInt8.ofNat x.toNat]⟩) W := by
  have := run_convert_bytes_back (P := Tryd.prog) W 69 9 5 ⟨g, 0, none⟩ cap [UInt8.ofNat x.toNat] Tryd.underlying69 Tryd.underlying5 Tryd.underlying9 (fun j hj => by
    have hj0 : j = 0 := by simpa using hj
    subst hj0
    have ha : (⟨g, 0, none⟩ : Addr).add 0 = ⟨g, 0, none⟩ := by simp [Addr.add]
    rw [ha, hc]
    have e : ((UInt8.ofNat x.toNat).toNat : Int) = x := by
      rw [UInt8.toNat_ofNat']; omega
    simp only [List.getElem_cons_zero, e])
  simpa using this

theorem ret_str {a b : ByteArray} (h : a.data.toList = b.data.toList) : Ending.returned (.string a) = .returned (.string b) := by
  have : a = b := by
    cases a; cases b
    simp at h
    simp [h]
  rw [this]

theorem itoa_small_neg {n : Int} (h1 : -10 < n) (h2 : n < 0) : Lib.itoa n = [45, UInt8.ofNat (48 - n).toNat] := by
  unfold Lib.itoa
  rw [if_pos h2, Lib.decDigits_one (by omega)]
  have : (48 - n).toNat = 48 + n.natAbs := by omega
  rw [this]
theorem itoa_small_pos {n : Int} (h1 : 0 ≤ n) (h2 : n < 10) : Lib.itoa n = [UInt8.ofNat (48 + n).toNat] := by
  unfold Lib.itoa
  rw [if_neg (by omega), Lib.decDigits_one (by omega)]
  have : (48 + n).toNat = 48 + n.toNat := by omega
  rw [this]
theorem dec_step (u : Nat) (h : ¬ u < 10) : Lib.decDigits u = Lib.decDigits (u / 10) ++ [UInt8.ofNat (48 + u % 10)] := by
  rw [Lib.decDigits, dif_neg h]
theorem itoa_step {n : Int} (h : 10 ≤ n ∨ n ≤ -10) : Lib.itoa n = Lib.itoa (n.tdiv 10) ++ [UInt8.ofNat (48 + (n.tmod 10).natAbs)] := by
  rcases h with h | h
  · obtain ⟨u, rfl⟩ : ∃ u : Nat, n = u := ⟨n.toNat, by omega⟩
    have e1 : (u : Int).tdiv 10 = ((u / 10 : Nat) : Int) := by rw [Int.tdiv_eq_ediv_of_nonneg (by omega)]; omega
    have e2 : ((u : Int).tmod 10).natAbs = u % 10 := by rw [Int.tmod_eq_emod_of_nonneg (by omega)]; omega
    rw [e1, e2, Lib.itoa_nonneg, Lib.itoa_nonneg, dec_step u (by omega)]
  · obtain ⟨u, rfl⟩ : ∃ u : Nat, n = -(u : Int) := ⟨n.natAbs, by omega⟩
    have e1 : (-(u : Int)).tdiv 10 = -((u / 10 : Nat) : Int) := by rw [Int.neg_tdiv, Int.tdiv_eq_ediv_of_nonneg (by omega)]; omega
    have e2 : ((-(u : Int)).tmod 10).natAbs = u % 10 := by rw [Int.neg_tmod, Int.tmod_eq_emod_of_nonneg (by omega)]; omega
    rw [e1, e2, Lib.itoa_neg u (by omega), Lib.itoa_neg (u / 10) (by omega), dec_step u (by omega)]
    rfl

set_option maxRecDepth 100000 in
set_option maxHeartbeats 1000000 in
theorem digits_neg (n : Int) (w : World) (h1 : -10 < n) (h2 : n < 0) :
    Calls Tryd.prog 34 #[.int .i64 n] w fun e w' => e = .returned (.string ⟨(Lib.itoa n).toArray⟩) ∧ Below w.heap.size w w' := by
  have h3 : n < 10 := by omega
  have hcv := conv_one (48 - n) w.heap.size 1 (w.alloc (.cells #[.int .u8 (48 - n)] 5)) (by omega) (by omega) (by simp)
  go_enter Tryd.func34, Tryd.ntmps34
  go_wp2_with fail
  go_ret
  refine ⟨ret_str ?_, (Below.refl _ _).alloc (Nat.le_refl _) _⟩
  rw [itoa_small_neg h1 h2]; rfl

set_option maxRecDepth 100000 in
set_option maxHeartbeats 1000000 in
theorem digits_pos (n : Int) (w : World) (h1 : 0 ≤ n) (h2 : n < 10) :
    Calls Tryd.prog 34 #[.int .i64 n] w fun e w' => e = .returned (.string ⟨(Lib.itoa n).toArray⟩) ∧ Below w.heap.size w w' := by
  have h3 : -10 < n := by omega
  have h4 : ¬ n < 0 := by omega
  have hcv := conv_one (48 + n) w.heap.size 1 (w.alloc (.cells #[.int .u8 (48 + n)] 5)) (by omega) (by omega) (by simp)
  go_enter Tryd.func34, Tryd.ntmps34
  go_wp2_with fail
  go_ret
  refine ⟨ret_str ?_, (Below.refl _ _).alloc (Nat.le_refl _) _⟩
  rw [itoa_small_pos h1 h2]

theorem add_small (q : Int) (b : UInt8) (h0 : -9223372036854775808 ≤ q) (h1 : q ≤ 9223372036854775807) : (⟨(Lib.itoa q).toArray⟩ : ByteArray).size + (⟨#[b]⟩ : ByteArray).size ≤ 9223372036854775807 := by
  have := Lib.itoa_length_le q h0 h1
  have e1 : (⟨(Lib.itoa q).toArray⟩ : ByteArray).size = (Lib.itoa q).length := by simp [ByteArray.size]
  have e2 : (⟨#[b]⟩ : ByteArray).size = 1 := rfl
  omega

theorem new_cell_stays {w w' : World} {x : Int} (hb : Below (w.alloc (.cells #[.int .u8 x] 5)).drew.heap.size (w.alloc (.cells #[.int .u8 x] 5)).drew w') : w'.cell? ⟨w.heap.size, 0, none⟩ = some (.int .u8 x) := by
  rw [hb.cell (p := ⟨w.heap.size, 0, none⟩) (by simp)]; simp

theorem down_first {w w' : World} {o : Obj} (hb : Below w.drew.heap.size w.drew w') : Below w.heap.size w (w'.alloc o) :=
  ((Below.refl w.heap.size w).drew.trans hb).alloc hb.size o
theorem down_last {w w' : World} {o : Obj} (hb : Below (w.alloc o).drew.heap.size (w.alloc o).drew w') : Below w.heap.size w w' :=
  (((Below.refl w.heap.size w).alloc (Nat.le_refl _) o).drew.trans (hb.mono (show w.heap.size ≤ (w.alloc o).heap.size by simp)))

set_option maxRecDepth 100000 in
set_option maxHeartbeats 1000000 in
theorem digits_up (n q d : Int) (w : World) (h0 : 10 ≤ n) (h1 : n ≤ 9223372036854775807) (hq : n / 10 = q) (hd : n % 10 = d)
    (ih : ∀ W, Calls Tryd.prog 34 #[.int .i64 q] W fun e w' => e = .returned (.string ⟨(Lib.itoa q).toArray⟩) ∧ Below W.heap.size W w') :
    Calls Tryd.prog 34 #[.int .i64 n] w fun e w' => e = .returned (.string ⟨(Lib.itoa n).toArray⟩) ∧ Below w.heap.size w w' := by
  have IH := hide ih
  have hst : Lib.itoa n = Lib.itoa q ++ [UInt8.ofNat (48 + d).toNat] := by
    rw [itoa_step (Or.inl h0), Int.tdiv_eq_ediv_of_nonneg (by omega), Int.tmod_eq_emod_of_nonneg (by omega), hq, hd]
    have : 48 + d.natAbs = (48 + d).toNat := by omega
    rw [this]
  have HST := hide hst
  have q1 : n.tdiv 10 = q := by rw [Int.tdiv_eq_ediv_of_nonneg (by omega)]; exact hq
  have q2 : n.tmod 10 = d := by rw [Int.tmod_eq_emod_of_nonneg (by omega)]; exact hd
  have b1 : 0 ≤ d := by omega
  have b2 : d < 10 := by omega
  have q3 : IntKind.i64.wrap q = q := IntWalk.i64_in _ ⟨by omega, by omega⟩
  have q4 : IntKind.i64.wrap (48 + d) = 48 + d := IntWalk.i64_in _ ⟨by omega, by omega⟩
  have q5 : IntKind.u8.wrap (48 + d) = 48 + d := IntWalk.u8_in _ ⟨by omega, by omega⟩
  clear ih hst
  have h3 : -10 < n := by omega
  have h4 : ¬ n < 10 := by omega
  have h5 : ¬ d < 0 := by omega
  have c0 : 0 ≤ 48 + d := by omega
  have c1 : 48 + d < 256 := by omega
  have cvA : ∀ W : World, (convert 69 9 (.slice (some ⟨W.heap.size, 0, none⟩) 1 1)).run Tryd.prog (W.alloc (.cells #[.int .u8 (48 + d)] 5)) = .ok (.string ⟨#[UInt8.ofNat (48 + d).toNat]⟩) (W.alloc (.cells #[.int .u8 (48 + d)] 5)) := fun W => conv_one (48 + d) W.heap.size 1 _ c0 c1 (by simp)
  have cvB : ∀ W : World, (convert 69 9 (.slice (some ⟨W.heap.size, 0, none⟩) 1 1)).run Tryd.prog (W.alloc (.cells #[.int .u8 (48 + d)] 5)).drew = .ok (.string ⟨#[UInt8.ofNat (48 + d).toNat]⟩) (W.alloc (.cells #[.int .u8 (48 + d)] 5)).drew := fun W => conv_one (48 + d) W.heap.size 1 _ c0 c1 (by simp)
  have hadd := fun W => run_string_add_sum (P := Tryd.prog) W ⟨(Lib.itoa q).toArray⟩ ⟨#[UInt8.ofNat (48 + d).toNat]⟩ (add_small q _ (by omega) (by omega))
  go_enter Tryd.func34, Tryd.ntmps34
  go_wp2_with fail
  go_region_with
    ((go_at_call 34; refine (IH.out _).mono ?_; rintro e w' ⟨rfl, hbx⟩; try (have hcx := conv_one (48 + d) w.heap.size 1 _ c0 c1 (new_cell_stays hbx))))
  all_goals (try go_wp2_with fail)
  all_goals
    go_ret
    refine ⟨ret_str ?_, ?_⟩
    · rw [HST.out]; simp [ByteArray.data_append]
    · first | exact down_first hbx | exact down_last hbx
set_option maxRecDepth 100000 in
set_option maxHeartbeats 1000000 in
theorem digits_down (n q d : Int) (w : World) (h0 : n ≤ -10) (h1 : -9223372036854775808 ≤ n) (q1 : n.tdiv 10 = q) (q2 : n.tmod 10 = -d) (b1 : 0 < d) (b2 : d < 10) (b3 : -9223372036854775808 ≤ q) (b4 : q ≤ 0)
    (ih : ∀ W, Calls Tryd.prog 34 #[.int .i64 q] W fun e w' => e = .returned (.string ⟨(Lib.itoa q).toArray⟩) ∧ Below W.heap.size W w') :
    Calls Tryd.prog 34 #[.int .i64 n] w fun e w' => e = .returned (.string ⟨(Lib.itoa n).toArray⟩) ∧ Below w.heap.size w w' := by
  have IH := hide ih
  have hst : Lib.itoa n = Lib.itoa q ++ [UInt8.ofNat (48 + d).toNat] := by
    rw [itoa_step (Or.inr h0), q1, q2]
    have : 48 + (-d).natAbs = (48 + d).toNat := by omega
    rw [this]
  have HST := hide hst
  have q3 : IntKind.i64.wrap q = q := IntWalk.i64_in _ ⟨by omega, by omega⟩
  have q4 : IntKind.i64.wrap (48 + d) = 48 + d := IntWalk.i64_in _ ⟨by omega, by omega⟩
  have q5 : IntKind.u8.wrap (48 + d) = 48 + d := IntWalk.u8_in _ ⟨by omega, by omega⟩
  clear ih hst
  have h3 : ¬ -10 < n := by omega
  have h5 : -d < 0 := by omega
  have c0 : 0 ≤ 48 + d := by omega
  have c1 : 48 + d < 256 := by omega
  have cvA : ∀ W : World, (convert 69 9 (.slice (some ⟨W.heap.size, 0, none⟩) 1 1)).run Tryd.prog (W.alloc (.cells #[.int .u8 (48 + d)] 5)) = .ok (.string ⟨#[UInt8.ofNat (48 + d).toNat]⟩) (W.alloc (.cells #[.int .u8 (48 + d)] 5)) := fun W => conv_one (48 + d) W.heap.size 1 _ c0 c1 (by simp)
  have cvB : ∀ W : World, (convert 69 9 (.slice (some ⟨W.heap.size, 0, none⟩) 1 1)).run Tryd.prog (W.alloc (.cells #[.int .u8 (48 + d)] 5)).drew = .ok (.string ⟨#[UInt8.ofNat (48 + d).toNat]⟩) (W.alloc (.cells #[.int .u8 (48 + d)] 5)).drew := fun W => conv_one (48 + d) W.heap.size 1 _ c0 c1 (by simp)
  have hadd := fun W => run_string_add_sum (P := Tryd.prog) W ⟨(Lib.itoa q).toArray⟩ ⟨#[UInt8.ofNat (48 + d).toNat]⟩ (add_small q _ (by omega) (by omega))
  go_enter Tryd.func34, Tryd.ntmps34
  go_wp2_with fail
  go_region_with
    ((go_at_call 34; refine (IH.out _).mono ?_; rintro e w' ⟨rfl, hbx⟩; try (have hcx := conv_one (48 + d) w.heap.size 1 _ c0 c1 (new_cell_stays hbx))))
  all_goals (try go_wp2_with fail)
  all_goals
    go_ret
    refine ⟨ret_str ?_, ?_⟩
    · rw [HST.out]; simp [ByteArray.data_append]
    · first | exact down_first hbx | exact down_last hbx
theorem conv_48 (g cap : Nat) (W : World) (hc : W.cell? ⟨g, 0, none⟩ = some (.int .u8 48)) :
    (convert 69 9 (.slice (some ⟨g, 0, none⟩) 1 cap)).run Tryd.prog W = .ok (.string ⟨#[48]⟩) W := conv_one 48 g cap W (by decide) (by decide) hc

set_option maxRecDepth 100000 in
set_option maxHeartbeats 1000000 in
theorem digits_even (n q : Int) (w : World) (h0 : n ≤ -10) (h1 : -9223372036854775808 ≤ n) (q1 : n.tdiv 10 = q) (q2 : n.tmod 10 = 0) (b3 : -9223372036854775808 ≤ q) (b4 : q ≤ 0)
    (ih : ∀ W, Calls Tryd.prog 34 #[.int .i64 q] W fun e w' => e = .returned (.string ⟨(Lib.itoa q).toArray⟩) ∧ Below W.heap.size W w') :
    Calls Tryd.prog 34 #[.int .i64 n] w fun e w' => e = .returned (.string ⟨(Lib.itoa n).toArray⟩) ∧ Below w.heap.size w w' := by
  have IH := hide ih
  have hst : Lib.itoa n = Lib.itoa q ++ [48] := by
    rw [itoa_step (Or.inr h0), q1, q2]; rfl
  have HST := hide hst
  have q3 : IntKind.i64.wrap q = q := IntWalk.i64_in _ ⟨by omega, by omega⟩
  have q4 : IntKind.i64.wrap 48 = 48 := IntWalk.i64_in _ ⟨by omega, by omega⟩
  have q5 : IntKind.u8.wrap 48 = 48 := IntWalk.u8_in _ ⟨by omega, by omega⟩
  clear ih hst
  have h3 : ¬ -10 < n := by omega
  have cvA : ∀ W : World, (convert 69 9 (.slice (some ⟨W.heap.size, 0, none⟩) 1 1)).run Tryd.prog (W.alloc (.cells #[.int .u8 48] 5)) = .ok (.string ⟨#[48]⟩) (W.alloc (.cells #[.int .u8 48] 5)) := fun W => conv_48 W.heap.size 1 _ (by simp)
  have cvB : ∀ W : World, (convert 69 9 (.slice (some ⟨W.heap.size, 0, none⟩) 1 1)).run Tryd.prog (W.alloc (.cells #[.int .u8 48] 5)).drew = .ok (.string ⟨#[48]⟩) (W.alloc (.cells #[.int .u8 48] 5)).drew := fun W => conv_48 W.heap.size 1 _ (by simp)
  have hadd := fun W => run_string_add_sum (P := Tryd.prog) W ⟨(Lib.itoa q).toArray⟩ ⟨#[48]⟩ (add_small q _ (by omega) (by omega))
  go_enter Tryd.func34, Tryd.ntmps34
  go_wp2_with fail
  go_region_with
    ((go_at_call 34; refine (IH.out _).mono ?_; rintro e w' ⟨rfl, hbx⟩; try (have hcx := conv_48 w.heap.size 1 _ (new_cell_stays hbx))))
  all_goals (try go_wp2_with fail)
  all_goals
    go_ret
    refine ⟨ret_str ?_, ?_⟩
    · rw [HST.out]; simp [ByteArray.data_append]
    · first | exact down_first hbx | exact down_last hbx

/-- The document's numeral of any int is strconv's. -/
theorem digits_any (k : Nat) : ∀ (n : Int), n.natAbs < k → -9223372036854775808 ≤ n → n ≤ 9223372036854775807 → ∀ w : World,
    Calls Tryd.prog 34 #[.int .i64 n] w fun e w' => e = .returned (.string ⟨(Lib.itoa n).toArray⟩) ∧ Below w.heap.size w w' := by
  induction k with
  | zero => intro n h; exact absurd h (Nat.not_lt_zero _)
  | succ k ih =>
    intro n hk h0 h1 w
    by_cases ha : n ≤ -10
    · have e1 : n.tdiv 10 = -((-n) / 10) := by
        have := Int.neg_tdiv (-n) 10
        rw [Int.neg_neg] at this
        rw [this, Int.tdiv_eq_ediv_of_nonneg (by omega)]
      have e2 : n.tmod 10 = -((-n) % 10) := by
        have := Int.neg_tmod (-n) 10
        rw [Int.neg_neg] at this
        rw [this, Int.tmod_eq_emod_of_nonneg (by omega)]
      have ihq := ih (-((-n) / 10)) (by omega) (by omega) (by omega)
      by_cases hd : (-n) % 10 = 0
      · rw [hd] at e2
        exact digits_even n _ w ha h0 e1 e2 (by omega) (by omega) ihq
      · exact digits_down n _ ((-n) % 10) w ha h0 e1 e2 (by omega) (by omega) (by omega) (by omega) ihq
    · by_cases hb : n < 0
      · exact digits_neg n w (by omega) hb
      · by_cases hc : n < 10
        · exact digits_pos n w (by omega) hc
        · exact digits_up n (n / 10) (n % 10) w (by omega) h1 rfl rfl (ih (n / 10) (by omega) (by omega) (by omega))
end Go.Proofs.YtijphfgefnpepaaDoor
