/- Nodes that were told, opened; the fixed answer. -/
import Derived.Test.YtcidadikmmdalaaDoorOf
namespace Go.Proofs.YtcidadikmmdalaaDoor
open Go.RowKit Go.Extern

theorem Nds.open1 {w : World} {v : Value} {L : Int} {l : List En} (h : Nds w v [(L, l)]) : ∃ g cap kv vv, v = .slice (some ⟨g, 0, none⟩) 1 cap ∧ w.cell? ⟨g, 0, none⟩ = some (.int .i64 L) ∧ w.cell? ⟨g, 1, none⟩ = some kv ∧ w.cell? ⟨g, 2, none⟩ = some vv ∧ Ints w kv (l.map Prod.fst) ∧ Ints w vv (l.map Prod.snd) := by
  obtain ⟨ao, cap, g, n, rfl, hn, h3, h4⟩ := h
  obtain rfl := h3 (by simp)
  obtain rfl : n = 1 := hn.out
  obtain ⟨kv, vv, c0, c1, c2, hk, hv⟩ := h4 0 _ rfl
  exact ⟨g, cap, kv, vv, rfl, c0, c1, c2, hk, hv⟩
theorem Nds.open2 {w : World} {v : Value} {L M : Int} {l m : List En} (h : Nds w v [(L, l), (M, m)]) : ∃ g cap kv vv kv2 vv2, v = .slice (some ⟨g, 0, none⟩) 2 cap ∧ w.cell? ⟨g, 0, none⟩ = some (.int .i64 L) ∧ w.cell? ⟨g, 1, none⟩ = some kv ∧ w.cell? ⟨g, 2, none⟩ = some vv ∧ Ints w kv (l.map Prod.fst) ∧ Ints w vv (l.map Prod.snd) ∧
    w.cell? ⟨g, 3, none⟩ = some (.int .i64 M) ∧ w.cell? ⟨g, 4, none⟩ = some kv2 ∧ w.cell? ⟨g, 5, none⟩ = some vv2 ∧ Ints w kv2 (m.map Prod.fst) ∧ Ints w vv2 (m.map Prod.snd) := by
  obtain ⟨ao, cap, g, n, rfl, hn, h3, h4⟩ := h
  obtain rfl := h3 (by simp)
  obtain rfl : n = 2 := hn.out
  obtain ⟨kv, vv, c0, c1, c2, hk, hv⟩ := h4 0 _ rfl
  obtain ⟨kv2, vv2, d0, d1, d2, hk2, hv2⟩ := h4 1 _ rfl
  exact ⟨g, cap, kv, vv, kv2, vv2, rfl, c0, c1, c2, hk, hv, d0, d1, d2, hk2, hv2⟩
theorem Ints.head {w : World} {v : Value} {x : Int} {l : List Int} (h : Ints w v (x :: l)) : ∃ g off cap n, v = .slice (some ⟨g, off, none⟩) n cap ∧ n = l.length + 1 ∧ ∀ (i : Nat) k, (x :: l)[i]? = some k → w.cell? ⟨g, off + i, none⟩ = some (.int .i64 k) := by
  obtain ⟨ao, cap, g, off, rfl, h2, h3⟩ := h.at_
  obtain rfl := h2 (by simp)
  exact ⟨g, off, cap, _, rfl, rfl, h3⟩
theorem ints_lit3 (w : World) (a b c : Int) (ha : I64 a) (hb : I64 b) (hc : I64 c) : Ints (w.alloc (.cells #[.int .i64 a, .int .i64 b, .int .i64 c] 3)) (.slice (some ⟨w.heap.size, 0, none⟩) 3 3) [a, b, c] :=
  ⟨ownsRow_row (base := w.heap.size) (by have := lit_row w w.heap.size 3 [.int .i64 a, .int .i64 b, .int .i64 c] (Nat.le_refl _) (by simp); simpa [encI] using this) (by simp), by simp; exact ⟨ha, hb, hc⟩⟩
theorem I64.of_small {k : Int} (h0 : 0 ≤ k) (h1 : k < 1000000) : I64 k := by unfold I64; omega
theorem awake_rt : Rt 0 [1, 5, 9] [2, 2, 2] := ⟨by omega, by simp, by simp, rfl, by constructor <;> simp [fitP]⟩
theorem awake_put : cutS 0 (putS (([1, 5, 9] : List Int).zip [2, 2, 2]) 6 3) = [(0, [(1, 2), (5, 2), (6, 3), (9, 2)])] := by decide

set_option maxRecDepth 100000 in
set_option maxHeartbeats 2000000 in
theorem awake_any (w : World) : Calls Tryd.prog 4 #[] w fun e w' => e = .returned (.bool true) ∧ Below w.heap.size w w' := by
  have hb1 := bel_alloc w (.cells #[.int .i64 1, .int .i64 5, .int .i64 9] 3)
  have hb2 := bel_alloc (w.alloc (.cells #[.int .i64 1, .int .i64 5, .int .i64 9] 3)) (.cells #[.int .i64 2, .int .i64 2, .int .i64 2] 3)
  have hk := ints_lit3 w 1 5 9 (I64.of_small (by omega) (by omega)) (I64.of_small (by omega) (by omega)) (I64.of_small (by omega) (by omega))
  have hv := ints_lit3 (w.alloc (.cells #[.int .i64 1, .int .i64 5, .int .i64 9] 3)) 2 2 2 (I64.of_small (by omega) (by omega)) (I64.of_small (by omega) (by omega)) (I64.of_small (by omega) (by omega))
  rw [World.size_alloc] at hv
  have hb3 := bel_alloc ((w.alloc (.cells #[.int .i64 1, .int .i64 5, .int .i64 9] 3)).alloc (.cells #[.int .i64 2, .int .i64 2, .int .i64 2] 3)) (.cells #[.int .i64 0, .slice (some ⟨w.heap.size, 0, none⟩) 3 3, .slice (some ⟨w.heap.size + 1, 0, none⟩) 3 3] 30)
  have hX := BoxN.new 30 ((w.alloc (.cells #[.int .i64 1, .int .i64 5, .int .i64 9] 3)).alloc (.cells #[.int .i64 2, .int .i64 2, .int .i64 2] 3)) 0 (.slice (some ⟨w.heap.size, 0, none⟩) 3 3) (.slice (some ⟨w.heap.size + 1, 0, none⟩) 3 3)
  simp only [World.size_alloc] at hX
  have hP := put_ok ((hk.below hb2).below hb3) (hv.below hb3) awake_rt (k := 6) (v := 3) (by decide)
  rw [awake_put] at hP
  have HB := hide (nextB (nextB hb1 hb2) hb3)
  have HX := hide hX
  clear hb1 hb2 hb3 hk hv hX
  go_enter Tryd.func4, Tryd.ntmps4
  go_wp2_with fail
  refine hP.mono ?_
  rintro e w1 ⟨v1, rfl, hn1, hb1⟩
  obtain ⟨x0, x1, x2⟩ := (HX.out.below hb1).cells
  obtain ⟨g, cap, kv, vv, rfl, c0, c1, c2, hk, hv⟩ := hn1.open1
  obtain ⟨gk, ok, ck, nk, rfl, rfl, hkc⟩ := hk.head
  have k2 := hkc 2 6 rfl
  have HB1 := hide (nextB HB.out hb1)
  rw [errV_zero]
  clear hkc hk hv hn1 hP hb1
  go_wp2_with fail
  go_ret
  exact ⟨rfl, HB1.out⟩
theorem enterAwake (args : Array Value) (w : World) : (callFunc 4 args).run Tryd.prog w = .ok (.enter 4 args) w := by kernel_rfl
theorem put_len {K V : List Int} {L : Int} (h : Rt L K V) (k v : Int) : 1 ≤ (putS (K.zip V) k v).length ∧ (putS (K.zip V) k v).length ≤ 8 := by
  have hu : Up ((K.zip V).map Prod.fst) := by rw [zip_fst h.same]; exact h.up
  have h1 := h.len
  have h2 := h.few
  have h3 := h.pos
  refine ⟨by unfold putS; simp only [List.length_append, List.length_cons]; omega, ?_⟩
  unfold putS loS hiS
  have : ∀ l : List En, (l.filter (fun p => decide (p.1 < k))).length + (l.filter (fun p => decide (k < p.1))).length ≤ l.length := fun l => by
    induction l with
    | nil => simp
    | cons a l ih =>
      by_cases ha : a.1 < k
      · have hb : ¬ k < a.1 := by omega
        simp only [List.filter_cons, ha, hb, decide_true, decide_false, if_true, List.length_cons]
        simp only [Bool.false_eq_true, if_false]
        omega
      · by_cases hb : k < a.1
        · simp only [List.filter_cons, ha, hb, decide_true, decide_false, if_true, List.length_cons]
          simp only [Bool.false_eq_true, if_false]
          omega
        · simp only [List.filter_cons, ha, hb, decide_false, List.length_cons]
          simp only [Bool.false_eq_true, if_false]
          omega
  have := this (K.zip V)
  simp only [List.length_append, List.length_cons]
  omega
theorem cutS_one {L : Int} {l : List En} (h1 : 1 ≤ l.length) (h2 : l.length ≤ 7) : cutS L l = [(L, l)] := by unfold cutS; rw [if_neg (by omega), if_pos h2]
theorem cutS_two {L : Int} {l : List En} (h2 : ¬ l.length ≤ 7) : cutS L l = [(L, l.take 4), (L, l.drop 4)] := by unfold cutS; rw [if_neg (by omega), if_neg h2]
end Go.Proofs.YtcidadikmmdalaaDoor
