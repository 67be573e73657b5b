/- The document's own disk is asked. -/
import Derived.Test.YtphmhepbilhkjaaRMore
namespace Go.Proofs.Ytphmhepbilhkjaa
open Go.RowKit Go.Extern

theorem top_last (s : Sec) : (s.dur :: s.wait)[s.wait.length]? = some s.top := by
  unfold Sec.top Sec.pick
  rcases Nat.eq_zero_or_pos s.wait.length with h | h
  · rw [List.length_eq_zero_iff.1 h]; simp
  · rw [if_neg (by omega)]
    obtain ⟨n, hn⟩ : ∃ n, s.wait.length = n + 1 := ⟨s.wait.length - 1, by omega⟩
    rw [hn, List.getElem?_cons_succ, Int.toNat_natCast, Nat.min_self, Nat.add_sub_cancel, List.getD_eq_getElem?_getD, List.getElem?_eq_getElem (by omega)]
    rfl
theorem RkAt.len {T : List (Value × Sec)} {S : List Sec} (h : T.map (·.2) = S) : T.length = S.length := by rw [← h]; simp
theorem rsField0 (g o : Nat) (w : World) : (Instr.fieldAt 51 (.pointer (some ⟨g, o, none⟩)) 0).run Try.prog w = .ok (.pointer (some ⟨g, o, none⟩)) w := by kernel_rfl
theorem rsField1 (g o : Nat) (w : World) : (Instr.fieldAt 51 (.pointer (some ⟨g, o, none⟩)) 1).run Try.prog w = .ok (.pointer (some ⟨g, o + 1, none⟩)) w := by kernel_rfl
theorem index_rsec {w : World} {g n cap i : Nat} (h : i < n) : (Instr.indexAt 43 (.slice (some ⟨g, 0, none⟩) n cap) (.int .i64 (i : Int))).run Try.prog w = .ok (.pointer (some ⟨g, i * 2, none⟩)) w := by
  have hlt : (i : Int) < (n : Int) := by omega
  have hge : (0 : Int) ≤ (i : Int) := by omega
  go_simp
theorem index_bytess {w : World} {g n cap i : Nat} (h : i < n) : (Instr.indexAt 49 (.slice (some ⟨g, 0, none⟩) n cap) (.int .i64 (i : Int))).run Try.prog w = .ok (.pointer (some ⟨g, i, none⟩)) w := by
  have hlt : (i : Int) < (n : Int) := by omega
  have hge : (0 : Int) ≤ (i : Int) := by omega
  go_simp

set_option maxRecDepth 100000 in
theorem rhas_any {w : World} {G : Nat → Prop} {b : Nat} {S : List Sec} (h : Rk w G b S) (i : Int) :
    Calls Try.prog 21 #[.pointer (some ⟨b, 0, none⟩), .int .i64 i] w fun e w' => e = .returned (.bool (hasB S i)) ∧ w' = w := by
  obtain ⟨v, T, hat, hTS⟩ := h
  have c0 := hat.cell
  obtain ⟨ao, cap, rfl⟩ := hat.form
  rw [RkAt.len hTS] at c0
  clear hat hTS
  by_cases h0 : 0 ≤ i
  · by_cases h1 : i < (S.length : Int)
    · have HB : Hid (hasB S i = true) := by show _ = _; simp [hasB, h0, h1]
      go_enter Try.func21, Try.ntmps21
      go_wp2
      go_ret
      exact ⟨by rw [HB.out]; rfl, rfl⟩
    · have HB : Hid (hasB S i = false) := by show _ = _; simp [hasB]; omega
      have hd : decide (i < (S.length : Int)) = false := by simpa using h1
      clear h1
      go_enter Try.func21, Try.ntmps21
      go_wp2
      go_ret
      exact ⟨by rw [HB.out]; rfl, rfl⟩
  · have HB : Hid (hasB S i = false) := by show _ = _; simp [hasB]; omega
    have hd : decide (0 ≤ i) = false := by simpa using h0
    go_enter Try.func21, Try.ntmps21
    go_wp2
    go_ret
    exact ⟨by rw [HB.out]; rfl, rfl⟩

set_option maxRecDepth 100000 in
set_option maxHeartbeats 1000000 in
theorem rgrow_any {w : World} {G : Nat → Prop} {b : Nat} {S : List Sec} (h : Rk w G b S) (hS : S.length ≤ 4096) (n : Int) :
    Calls Try.prog 34 #[.pointer (some ⟨b, 0, none⟩), .int .i64 n] w (RTurned G b (gSet S n) (.int .i64 (gErr S n)) w) := by
  have HR := hide h
  obtain ⟨v, T, hat, hTS⟩ := h
  have c0 := hat.cell
  obtain ⟨ao, cap, rfl⟩ := hat.form
  rw [RkAt.len hTS] at c0
  have hSS : (S.length : Int) ≤ 4096 := by omega
  clear hat hTS
  unfold gSet gErr
  cases hg : growB S n with
  | false =>
    have hdd : decide (n < 1) = true ∨ (decide (n < 1) = false ∧ decide ((4096 : Int) - (S.length : Int) < n) = true) := by
      have : ¬ (1 ≤ n ∧ n ≤ 4096 - (S.length : Int)) := by simpa [growB] using hg
      by_cases h0 : n < 1
      · exact .inl (by simpa using h0)
      · exact .inr ⟨by simpa using h0, by simp; omega⟩
    have HFIN : Hid (RTurned G b S (.int .i64 20) w (.returned (.int .i64 20)) w) := ⟨rfl, HR.out.mono (fun _ h => .inl h), Turn.refl _ _⟩
    clear hg hS
    simp only [Bool.false_eq_true, if_false]
    rcases hdd with d1 | ⟨d1, d2⟩
    all_goals
      go_enter Try.func34, Try.ntmps34
      go_wp2
      go_ret
      exact HFIN.out
  | true =>
    have hb : 1 ≤ n ∧ n ≤ 4096 - (S.length : Int) := by simpa [growB] using hg
    obtain ⟨k, rfl⟩ : ∃ k : Nat, n = (k : Int) := ⟨n.toNat, by omega⟩
    have d1 : decide ((k : Int) < 1) = false := by simp; omega
    have d2 : decide ((4096 : Int) - (S.length : Int) < (k : Int)) = false := by simp; omega
    have HM := hide (more_any HR.out k (by omega))
    clear hg hb hS
    simp only [if_true, Int.toNat_natCast]
    go_enter Try.func34, Try.ntmps34
    go_wp2_with fail
    refine HM.out.mono ?_
    rintro e w2 ⟨rfl, h1, h2⟩
    have HFIN : Hid (RTurned G b (S ++ List.replicate k zeroSec) (.int .i64 0) w (.returned (.int .i64 0)) w2) := ⟨rfl, h1, h2⟩
    clear h1 h2 HM
    go_wp2_with fail
    go_ret
    exact HFIN.out

theorem build_rdisk (w : World) : (Instr.build 45 #[]).run Try.prog w = .ok (.agg #[.slice none 0 0]) w := by kernel_rfl
def RNewed (n : Int) (w : World) (e : Ending) (w' : World) : Prop :=
  Below w.heap.size w w' ∧ if newB n then ∃ b G, e = .returned (.pointer (some ⟨b, 0, none⟩)) ∧ Rk w' G b (fresh n.toNat) ∧ ∀ k, G k → w.heap.size ≤ k ∧ k < w'.heap.size
    else e = .returned (.pointer none)
set_option maxRecDepth 100000 in
set_option maxHeartbeats 1000000 in
theorem rnew_any (w : World) (n : Int) : Calls Try.prog 10 #[.int .i64 n] w (RNewed n w) := by
  unfold RNewed
  cases hg : newB n with
  | false =>
    have hdd : decide (n < 1) = true ∨ (decide (n < 1) = false ∧ decide ((4096 : Int) < n) = true) := by
      have : ¬ (1 ≤ n ∧ n ≤ 4096) := by simpa [newB] using hg
      by_cases h0 : n < 1
      · exact .inl (by simpa using h0)
      · exact .inr ⟨by simpa using h0, by simp; omega⟩
    clear hg
    simp only [Bool.false_eq_true, if_false]
    rcases hdd with d1 | ⟨d1, d2⟩
    all_goals
      go_enter Try.func10, Try.ntmps10
      go_wp2
      go_ret
      exact ⟨Below.refl _ _, rfl⟩
  | true =>
    have hb : 1 ≤ n ∧ n ≤ 4096 := by simpa [newB] using hg
    obtain ⟨k, rfl⟩ : ∃ k : Nat, n = (k : Int) := ⟨n.toNat, by omega⟩
    have d1 : decide ((k : Int) < 1) = false := by simp; omega
    have d2 : decide ((4096 : Int) < (k : Int)) = false := by simp; omega
    have hrk : Rk (w.alloc (.cells #[.slice none 0 0] 45)) (fun k => k = w.heap.size) w.heap.size [] := ⟨.slice none 0 0, [], ⟨heap_alloc_new w _, World.ownsRow_nil _ _ _ _, fun i p hp => by simp at hp, rfl, fun k hk => by simp [Value.ownBlock] at hk⟩, rfl⟩
    have HM := hide (more_any hrk k (by simp; omega))
    have HB : Hid (Below w.heap.size w (w.alloc (.cells #[.slice none 0 0] 45))) := (Below.refl _ _).alloc (Nat.le_refl _) _
    have HS : Hid ((w.alloc (.cells #[.slice none 0 0] 45)).heap.size = w.heap.size + 1) := by show _ = _; simp
    clear hg hb hrk
    simp only [if_true, Int.toNat_natCast]
    go_enter Try.func10, Try.ntmps10
    go_wp2_with fail
    refine HM.out.mono ?_
    rintro e w2 ⟨rfl, h1, h2⟩
    have HFIN : Hid (Below w.heap.size w w2 ∧ ∃ b G, (Ending.returned (.pointer (some ⟨w.heap.size, 0, none⟩))) = .returned (.pointer (some ⟨b, 0, none⟩)) ∧ Rk w2 G b (fresh k) ∧ ∀ k, G k → w.heap.size ≤ k ∧ k < w2.heap.size) := by
      have e1 := HS.out
      have e2 := h2.size
      refine ⟨HB.out.trans (h2.below HB.out.size (fun k hk => by omega)), _, _, rfl, h1, fun k hk => ?_⟩
      rcases hk with hk | hk
      · omega
      · omega
    clear h1 h2 HM
    go_wp2_with fail
    go_ret
    exact HFIN.out
end Go.Proofs.Ytphmhepbilhkjaa
