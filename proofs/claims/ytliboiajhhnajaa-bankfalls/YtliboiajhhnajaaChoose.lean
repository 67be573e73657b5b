/- choose by its contract. -/
import Derived.Test.YtliboiajhhnajaaMid
namespace Go.Proofs.Ytliboiajhhnajaa
open Go.RowKit Go.Extern

theorem len_pos {S : List Sec} {i : Nat} {s : Sec} (h : S[i]? = some s) : 0 < S.length := by
  have := (List.getElem?_eq_some_iff.1 h).1; omega
theorem choose_ret (w : World) (d : List Nat) (hd : Con d) (tmps : Array Value) (h : tmps.getD 6 undef = .pointer (some ⟨w.heap.size, 0, none⟩)) :
    (results Try.f42 tmps).run Try.prog (w.alloc (.cells (conC d) 75)) = .ok (conV d) (w.alloc (.cells (conC d) 75)) :=
  results_cell_row (by kernel_rfl) tmps _ w.heap.size 75 (conC d) (0, 0) _ h (heap_alloc_new w _) Try.underlying75 rfl (by rw [conC_size hd]; exact infoC)

set_option maxRecDepth 100000 in
theorem choose_dur {w : World} {F : Nat → Prop} {b : Nat} {S : List Sec} (h : Dk w F b S) {i : Nat} {s : Sec} (hs : S[i]? = some s) (n : Int) (hn : n < 1) :
    Calls Try.prog 42 #[.pointer (some ⟨b, 0, none⟩), .int .i64 (i : Int), .int .i64 n] w fun e w' => e = .returned (conV s.dur) ∧ Below w.heap.size w w' := by
  obtain ⟨v, mb, D, h⟩ := h
  have hi : i < S.length := (List.getElem?_eq_some_iff.1 hs).1
  have hI : I64 (i : Int) := I64.nat (by have := h.good.1; omega)
  have hcon := (h.good.2 s (List.mem_of_getElem? hs)).1
  have hb := heap_lt h.blk
  have h' := h.below (allocC_below w zeros)
  have c0 := two_cell0 h.blk
  have c1 := two_cell1 h.blk
  have hl := (look_at h'.map hI).1
  obtain ⟨ao, cap, hv⟩ := ownsRow_form (h'.rows _ hI)
  rw [hv] at hl
  obtain ⟨g, cap2, cur, rfl, -, -, hcap, -⟩ := ownsRow_pos h'.secs (len_pos hs)
  have hd := run_loadDur h'.secs h.good hs
  have hst := run_storeC w zeros s.dur zeros_con hcon
  rw [← zeroC] at hl hd hst
  have HBL := hide (allocC_below w s.dur)
  have HR := hide (fun tmps h => choose_ret w s.dur hcon tmps h)
  generalize (wt S (i : Int)).length = nw at hl
  generalize conV s.dur = cv at hd hst HR
  generalize w.alloc (.cells (conC s.dur) 75) = w2 at hst HBL HR
  have hlt : (i : Int) < (S.length : Int) := by omega
  have hge : (0 : Int) ≤ (i : Int) := by omega
  clear h h' hv hs hi hI hcon hcap
  have hn1 : decide (n < 1) = true := by simpa using hn
  clear hn
  go_enter Try.func42, Try.ntmps42
  go_wp2_with (first | ((with_reducible refine wpList_load_run rfl rfl hd ?_ ?_); rfl) | ((with_reducible refine wpList_store_run rfl rfl hst ?_ ?_ ?_); rfl; rfl) | ((with_reducible refine bodyPost_ret (v := cv) ?_ ?_ ?_); exact HR.out _ rfl; rfl; exact ⟨rfl, HBL.out⟩))

set_option maxRecDepth 100000 in
set_option maxHeartbeats 1000000 in
theorem choose_none {w : World} {F : Nat → Prop} {b : Nat} {S : List Sec} (h : Dk w F b S) {i : Nat} {s : Sec} (hs : S[i]? = some s) (n : Int) (hn : ¬ n < 1) (hw : s.wait = []) :
    Calls Try.prog 42 #[.pointer (some ⟨b, 0, none⟩), .int .i64 (i : Int), .int .i64 n] w fun e w' => e = .returned (conV s.dur) ∧ Below w.heap.size w w' := by
  obtain ⟨v, mb, D, h⟩ := h
  have hi : i < S.length := (List.getElem?_eq_some_iff.1 hs).1
  have hI : I64 (i : Int) := I64.nat (by have := h.good.1; omega)
  have hcon := (h.good.2 s (List.mem_of_getElem? hs)).1
  have hb := heap_lt h.blk
  have h' := h.below (allocC_below w zeros)
  have c0 := two_cell0 h.blk
  have c1 := two_cell1 h.blk
  have hl := (look_at h'.map hI).1
  obtain ⟨ao, cap, hv⟩ := ownsRow_form (h'.rows _ hI)
  rw [hv, wt_at hs, hw] at hl
  obtain ⟨g, cap2, cur, rfl, -⟩ := ownsRow_pos h'.secs (len_pos hs)
  have hd := run_loadDur h'.secs h.good hs
  have hst := run_storeC w zeros s.dur zeros_con hcon
  rw [← zeroC] at hl hd hst
  have HBL := hide (allocC_below w s.dur)
  have HR := hide (fun tmps h => choose_ret w s.dur hcon tmps h)
  generalize conV s.dur = cv at hd hst HR
  generalize w.alloc (.cells (conC s.dur) 75) = w2 at hst HBL HR
  have hlt : (i : Int) < (S.length : Int) := by omega
  have hge : (0 : Int) ≤ (i : Int) := by omega
  clear h h' hv hs hi hI hcon hw
  have hn1 : decide (n < 1) = false := by simpa using hn
  clear hn
  go_enter Try.func42, Try.ntmps42
  go_wp2_with (first | ((with_reducible refine wpList_load_run rfl rfl hd ?_ ?_); rfl) | ((with_reducible refine wpList_store_run rfl rfl hst ?_ ?_ ?_); rfl; rfl) | ((with_reducible refine bodyPost_ret (v := cv) ?_ ?_ ?_); exact HR.out _ rfl; rfl; exact ⟨rfl, HBL.out⟩))

set_option maxRecDepth 100000 in
set_option maxHeartbeats 1000000 in
theorem choose_wait {w : World} {F : Nat → Prop} {b : Nat} {S : List Sec} (h : Dk w F b S) {i : Nat} {s : Sec} (hs : S[i]? = some s) (n : Nat) (hn : 0 < n) (hn2 : I64 (n : Int)) (hw : 0 < s.wait.length) (hww : s.wait.length ≤ 1000000) (c : List Nat) (m : Nat) (hm : (s.wait.length < n ∧ m = s.wait.length) ∨ (¬ s.wait.length < n ∧ m = n)) (hc : s.wait[m - 1]? = some c) :
    Calls Try.prog 42 #[.pointer (some ⟨b, 0, none⟩), .int .i64 (i : Int), .int .i64 (n : Int)] w fun e w' => e = .returned (conV c) ∧ Below w.heap.size w w' := by
  obtain ⟨v, mb, D, h⟩ := h
  have hi : i < S.length := (List.getElem?_eq_some_iff.1 hs).1
  have hI : I64 (i : Int) := I64.nat (by have := h.good.1; omega)
  have hgs := h.good.2 s (List.mem_of_getElem? hs)
  have hcon := hgs.2 c (List.mem_of_getElem? hc)
  have hb := heap_lt h.blk
  have h' := h.below (allocC_below w zeros)
  have c1 := two_cell1 h.blk
  have hl := (look_at h'.map hI).1
  have hrw := h'.rows _ hI
  rw [wt_at hs] at hrw
  obtain ⟨g, cap2, cur, hv, -, -⟩ := ownsRow_pos hrw hw
  rw [hv] at hl hrw
  have hd := run_loadWait hrw hgs.2 hc
  have hst := run_storeC w zeros c zeros_con hcon
  rw [← zeroC] at hl hd hst
  have HBL := hide (allocC_below w c)
  have HR := hide (fun tmps h => choose_ret w c hcon tmps h)
  generalize conV c = cv at hd hst HR
  generalize w.alloc (.cells (conC c) 75) = w2 at hst HBL HR
  generalize s.wait.length = nw at *
  unfold I64 at hn2
  have hn1 : decide ((n : Int) < 1) = false := by simp; omega
  have hz : ((nw : Int) == 0) = false := by simp; omega
  clear h h' hv hs hi hI hcon hrw hgs hc
  rcases hm with ⟨hlt, rfl⟩ | ⟨hlt, rfl⟩
  · go_enter Try.func42, Try.ntmps42
    go_wp2_with (first | ((with_reducible refine wpList_load_run rfl rfl hd ?_ ?_); rfl) | ((with_reducible refine wpList_store_run rfl rfl hst ?_ ?_ ?_); rfl; rfl) | ((with_reducible refine bodyPost_ret (v := cv) ?_ ?_ ?_); exact HR.out _ rfl; rfl; exact ⟨rfl, HBL.out⟩))
  · go_enter Try.func42, Try.ntmps42
    go_wp2_with (first | ((with_reducible refine wpList_load_run rfl rfl hd ?_ ?_); rfl) | ((with_reducible refine wpList_store_run rfl rfl hst ?_ ?_ ?_); rfl; rfl) | ((with_reducible refine bodyPost_ret (v := cv) ?_ ?_ ?_); exact HR.out _ rfl; rfl; exact ⟨rfl, HBL.out⟩))

/-- choose: the write with this number, from 1 on; below 1 what lasts, above all of them the last one. -/
theorem choose_any {w : World} {F : Nat → Prop} {b : Nat} {S : List Sec} (h : Dk w F b S) {i : Nat} {s : Sec} (hs : S[i]? = some s) (n : Int) (hn : I64 n) (hww : s.wait.length ≤ 1000000) :
    Calls Try.prog 42 #[.pointer (some ⟨b, 0, none⟩), .int .i64 (i : Int), .int .i64 n] w fun e w' => e = .returned (conV (s.pick n)) ∧ Below w.heap.size w w' := by
  unfold Sec.pick
  by_cases h1 : n < 1
  · rw [if_pos h1]; exact choose_dur h hs n h1
  · rw [if_neg h1]
    obtain ⟨k, rfl⟩ : ∃ k : Nat, n = (k : Int) := ⟨n.toNat, by omega⟩
    rw [Int.toNat_natCast, List.getD_eq_getElem?_getD]
    rcases Nat.eq_zero_or_pos s.wait.length with h0 | h0
    · rw [List.length_eq_zero_iff.1 h0]; exact choose_none h hs _ h1 (List.length_eq_zero_iff.1 h0)
    · have hlt : min k s.wait.length - 1 < s.wait.length := by omega
      obtain ⟨c, hc⟩ : ∃ c, s.wait[min k s.wait.length - 1]? = some c := ⟨_, List.getElem?_eq_getElem hlt⟩
      rw [hc, Option.getD_some]
      by_cases hk : s.wait.length < k
      · exact choose_wait h hs k (by omega) hn h0 hww _ _ (.inl ⟨hk, rfl⟩) (by rw [Nat.min_eq_right (by omega)] at hc; exact hc)
      · exact choose_wait h hs k (by omega) hn h0 hww _ _ (.inr ⟨hk, rfl⟩) (by rw [Nat.min_eq_left (by omega)] at hc; exact hc)
end Go.Proofs.Ytliboiajhhnajaa
