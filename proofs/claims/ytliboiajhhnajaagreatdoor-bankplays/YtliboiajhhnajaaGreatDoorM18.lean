import Derived.Test.YtliboiajhhnajaaGreatDoorM17
import Derived.Test.YtliboiajhhnajaaGreatDoorM15
/- The document's own disk is asked. -/
namespace Go.Proofs.YtliboiajhhnajaaGreatDoor
open Go.RowKit Go.Extern

theorem top_last (s : Sec) : (s.dur :: s.wait)[s.wait.length]? = some s.top := by
  unfold Sec.top Sec.pick
  rcases Nat.eq_zero_or_pos s.wait.length with h | h
  · rw [List.length_eq_zero_iff.1 h]; simp
  · rw [if_neg (by omega)]
    obtain ⟨n, hn⟩ : ∃ n, s.wait.length = n + 1 := ⟨s.wait.length - 1, by omega⟩
    rw [hn, List.getElem?_cons_succ, Int.toNat_natCast, Nat.min_self, Nat.add_sub_cancel, List.getD_eq_getElem?_getD, List.getElem?_eq_getElem (by omega)]
    rfl
theorem RkAt.len {T : List (Value × Sec)} {S : List Sec} (h : T.map (·.2) = S) : T.length = S.length := by rw [← h]; simp
theorem rsField0 (g o : Nat) (w : World) : (Instr.fieldAt 96 (.pointer (some ⟨g, o, none⟩)) 0).run Tryz.prog w = .ok (.pointer (some ⟨g, o, none⟩)) w := by kernel_rfl
theorem rsField1 (g o : Nat) (w : World) : (Instr.fieldAt 96 (.pointer (some ⟨g, o, none⟩)) 1).run Tryz.prog w = .ok (.pointer (some ⟨g, o + 1, none⟩)) w := by kernel_rfl
theorem index_rsec {w : World} {g n cap i : Nat} (h : i < n) : (Instr.indexAt 38 (.slice (some ⟨g, 0, none⟩) n cap) (.int .i64 (i : Int))).run Tryz.prog w = .ok (.pointer (some ⟨g, i * 2, none⟩)) w := by
  have hlt : (i : Int) < (n : Int) := by omega
  have hge : (0 : Int) ≤ (i : Int) := by omega
  go_simp
theorem index_bytess {w : World} {g n cap i : Nat} (h : i < n) : (Instr.indexAt 94 (.slice (some ⟨g, 0, none⟩) n cap) (.int .i64 (i : Int))).run Tryz.prog w = .ok (.pointer (some ⟨g, i, none⟩)) w := by
  have hlt : (i : Int) < (n : Int) := by omega
  have hge : (0 : Int) ≤ (i : Int) := by omega
  go_simp

set_option maxRecDepth 100000 in
theorem rhas_any {w : World} {G : Nat → Prop} {b : Nat} {S : List Sec} (h : Rk w G b S) (i : Int) :
    Calls Tryz.prog 53 #[.pointer (some ⟨b, 0, none⟩), .int .i64 i] w fun e w' => e = .returned (.bool (hasB S i)) ∧ w' = w := by
  obtain ⟨v, T, hat, hTS⟩ := h
  have c0 := hat.cell
  obtain ⟨ao, cap, rfl⟩ := hat.form
  rw [RkAt.len hTS] at c0
  clear hat hTS
  by_cases h0 : 0 ≤ i
  · by_cases h1 : i < (S.length : Int)
    · have HB : Hid (hasB S i = true) := by show _ = _; simp [hasB, h0, h1]
      go_enter Tryz.func53, Tryz.ntmps53
      go_wp2
      go_ret
      exact ⟨by rw [HB.out]; rfl, rfl⟩
    · have HB : Hid (hasB S i = false) := by show _ = _; simp [hasB]; omega
      have hd : decide (i < (S.length : Int)) = false := by simpa using h1
      clear h1
      go_enter Tryz.func53, Tryz.ntmps53
      go_wp2
      go_ret
      exact ⟨by rw [HB.out]; rfl, rfl⟩
  · have HB : Hid (hasB S i = false) := by show _ = _; simp [hasB]; omega
    have hd : decide (0 ≤ i) = false := by simpa using h0
    go_enter Tryz.func53, Tryz.ntmps53
    go_wp2
    go_ret
    exact ⟨by rw [HB.out]; rfl, rfl⟩

set_option maxRecDepth 100000 in
set_option maxHeartbeats 1000000 in
theorem rgrow_any {w : World} {G : Nat → Prop} {b : Nat} {S : List Sec} (h : Rk w G b S) (hS : S.length ≤ 4096) (n : Int) :
    Calls Tryz.prog 47 #[.pointer (some ⟨b, 0, none⟩), .int .i64 n] w (RTurned G b (gSet S n) (.int .i64 (gErr S n)) w) := by
  have HR := hide h
  obtain ⟨v, T, hat, hTS⟩ := h
  have c0 := hat.cell
  obtain ⟨ao, cap, rfl⟩ := hat.form
  rw [RkAt.len hTS] at c0
  have hSS : (S.length : Int) ≤ 4096 := by omega
  clear hat hTS
  unfold gSet gErr
  cases hg : growB S n with
  | false =>
    have hdd : decide (n < 1) = true ∨ (decide (n < 1) = false ∧ decide ((4096 : Int) - (S.length : Int) < n) = true) := by
      have : ¬ (1 ≤ n ∧ n ≤ 4096 - (S.length : Int)) := by simpa [growB] using hg
      by_cases h0 : n < 1
      · exact .inl (by simpa using h0)
      · exact .inr ⟨by simpa using h0, by simp; omega⟩
    have HFIN : Hid (RTurned G b S (.int .i64 20) w (.returned (.int .i64 20)) w) := ⟨rfl, HR.out.mono (fun _ h => .inl h), Turn.refl _ _⟩
    clear hg hS
    simp only [Bool.false_eq_true, if_false]
    rcases hdd with d1 | ⟨d1, d2⟩
    all_goals
      go_enter Tryz.func47, Tryz.ntmps47
      go_wp2
      go_ret
      exact HFIN.out
  | true =>
    have hb : 1 ≤ n ∧ n ≤ 4096 - (S.length : Int) := by simpa [growB] using hg
    obtain ⟨k, rfl⟩ : ∃ k : Nat, n = (k : Int) := ⟨n.toNat, by omega⟩
    have d1 : decide ((k : Int) < 1) = false := by simp; omega
    have d2 : decide ((4096 : Int) - (S.length : Int) < (k : Int)) = false := by simp; omega
    have HM := hide (more_any HR.out k (by omega))
    clear hg hb hS
    simp only [if_true, Int.toNat_natCast]
    go_enter Tryz.func47, Tryz.ntmps47
    go_wp2_with fail
    refine HM.out.mono ?_
    rintro e w2 ⟨rfl, h1, h2⟩
    have HFIN : Hid (RTurned G b (S ++ List.replicate k zeroSec) (.int .i64 0) w (.returned (.int .i64 0)) w2) := ⟨rfl, h1, h2⟩
    clear h1 h2 HM
    go_wp2_with fail
    go_ret
    exact HFIN.out

theorem build_rdisk (w : World) : (Instr.build 40 #[]).run Tryz.prog w = .ok (.agg #[.slice none 0 0]) w := by kernel_rfl
def RNewed (n : Int) (w : World) (e : Ending) (w' : World) : Prop :=
  Below w.heap.size w w' ∧ if newB n then ∃ b G, e = .returned (.pointer (some ⟨b, 0, none⟩)) ∧ Rk w' G b (fresh n.toNat) ∧ ∀ k, G k → w.heap.size ≤ k ∧ k < w'.heap.size
    else e = .returned (.pointer none)
set_option maxRecDepth 100000 in
set_option maxHeartbeats 1000000 in
theorem rnew_any (w : World) (n : Int) : Calls Tryz.prog 40 #[.int .i64 n] w (RNewed n w) := by
  unfold RNewed
  cases hg : newB n with
  | false =>
    have hdd : decide (n < 1) = true ∨ (decide (n < 1) = false ∧ decide ((4096 : Int) < n) = true) := by
      have : ¬ (1 ≤ n ∧ n ≤ 4096) := by simpa [newB] using hg
      by_cases h0 : n < 1
      · exact .inl (by simpa using h0)
      · exact .inr ⟨by simpa using h0, by simp; omega⟩
    clear hg
    simp only [Bool.false_eq_true, if_false]
    rcases hdd with d1 | ⟨d1, d2⟩
    all_goals
      go_enter Tryz.func40, Tryz.ntmps40
      go_wp2
      go_ret
      exact ⟨Below.refl _ _, rfl⟩
  | true =>
    have hb : 1 ≤ n ∧ n ≤ 4096 := by simpa [newB] using hg
    obtain ⟨k, rfl⟩ : ∃ k : Nat, n = (k : Int) := ⟨n.toNat, by omega⟩
    have d1 : decide ((k : Int) < 1) = false := by simp; omega
    have d2 : decide ((4096 : Int) < (k : Int)) = false := by simp; omega
    have hrk : Rk (w.alloc (.cells #[.slice none 0 0] 40)) (fun k => k = w.heap.size) w.heap.size [] := ⟨.slice none 0 0, [], ⟨heap_alloc_new w _, World.ownsRow_nil _ _ _ _, fun i p hp => by simp at hp, rfl, fun k hk => by simp [Value.ownBlock] at hk⟩, rfl⟩
    have HM := hide (more_any hrk k (by simp; omega))
    have HB : Hid (Below w.heap.size w (w.alloc (.cells #[.slice none 0 0] 40))) := (Below.refl _ _).alloc (Nat.le_refl _) _
    have HS : Hid ((w.alloc (.cells #[.slice none 0 0] 40)).heap.size = w.heap.size + 1) := by show _ = _; simp
    clear hg hb hrk
    simp only [if_true, Int.toNat_natCast]
    go_enter Tryz.func40, Tryz.ntmps40
    go_wp2_with fail
    refine HM.out.mono ?_
    rintro e w2 ⟨rfl, h1, h2⟩
    have HFIN : Hid (Below w.heap.size w w2 ∧ ∃ b G, (Ending.returned (.pointer (some ⟨w.heap.size, 0, none⟩))) = .returned (.pointer (some ⟨b, 0, none⟩)) ∧ Rk w2 G b (fresh k) ∧ ∀ k, G k → w.heap.size ≤ k ∧ k < w2.heap.size) := by
      have e1 := HS.out
      have e2 := h2.size
      refine ⟨HB.out.trans (h2.below HB.out.size (fun k hk => by omega)), _, _, rfl, h1, fun k hk => ?_⟩
      rcases hk with hk | hk
      · omega
      · omega
    clear h1 h2 HM
    go_wp2_with fail
    go_ret
    exact HFIN.out
end Go.Proofs.YtliboiajhhnajaaGreatDoor

/- The document's own disk is read; what waits. -/
namespace Go.Proofs.YtliboiajhhnajaaGreatDoor
open Go.RowKit Go.Extern

def RReaded (S : List Sec) (i : Int) (w : World) (e : Ending) (w' : World) : Prop := ∃ u, e = .returned (.tuple #[u, .int .i64 (rErr S i)]) ∧ Bytes w' u (rDat S i) ∧ Below w.heap.size w w'

set_option maxRecDepth 100000 in
set_option maxHeartbeats 2000000 in
theorem rread_any {w : World} {G : Nat → Prop} {b : Nat} {S : List Sec} (h : Rk w G b S) (i : Int) (hww : ∀ s ∈ S, s.wait.length ≤ 1000000) :
    Calls Tryz.prog 49 #[.pointer (some ⟨b, 0, none⟩), .int .i64 i] w (RReaded S i w) := by
  have HH := hide (rhas_any h i)
  unfold RReaded rErr rDat
  cases hh : hasB S i with
  | false =>
    rw [hh] at HH
    clear h hh
    simp only [Bool.false_eq_true, if_false]
    go_enter Tryz.func49, Tryz.ntmps49
    go_wp2_with fail
    refine HH.out.mono ?_
    rintro e w' ⟨rfl, hww⟩
    obtain rfl : w = w' := hww.symm
    go_wp2_with fail
    go_ret2
    exact ⟨_, rfl, Bytes.nil _, Below.refl _ _⟩
  | true =>
    rw [hh] at HH
    obtain ⟨k, s, rfl, hs⟩ := hasB_at hh
    obtain ⟨v, T, hat, hTS⟩ := h
    obtain ⟨u, hu⟩ := RkAt.get hTS hs
    have hl := hww s (List.mem_of_getElem? hs)
    have c0 := hat.cell
    obtain ⟨ao, cap, rfl⟩ := hat.form
    obtain ⟨g, rfl, -, c1, c2, -⟩ := hat.at_ hu
    have hval := hat.val k _ hu
    have hkT : k < T.length := (List.getElem?_eq_some_iff.1 hu).1
    have hk1 : (k : Int) < (T.length : Int) := by omega
    have hk0 : (0 : Int) ≤ (k : Int) := by omega
    simp only [if_true, Int.toNat_natCast, hs]
    obtain ⟨aou, capu, huf⟩ := hval.form
    simp only at huf
    subst huf
    cases hbad : s.bad with
    | true =>
      simp only [hbad] at c2
      simp only [if_true]
      clear hval hat hTS hu hs hh hbad
      go_enter Tryz.func49, Tryz.ntmps49
      go_wp2_with fail
      refine HH.out.mono ?_
      rintro e w' ⟨rfl, hww⟩
      obtain rfl : w = w' := hww.symm
      go_wp2_with fail
      go_ret2
      exact ⟨_, rfl, Bytes.nil _, Below.refl _ _⟩
    | false =>
      simp only [hbad] at c2
      simp only [Bool.false_eq_true, if_false]
      obtain ⟨gu, x, rfl, c3, hx, -⟩ := hval.at_ (top_last s)
      have HX := hide hx
      obtain ⟨n, hn⟩ : ∃ n, s.wait.length = n := ⟨_, rfl⟩
      simp only [List.length_cons, hn] at c1 c3 hl
      have hn1 : (n : Int) < (n : Int) + 1 := by omega
      have hn0 : (0 : Int) ≤ (n : Int) := by omega
      have hnb : (n : Int) ≤ 1000000 := by omega
      obtain ⟨aox, capx, rfl⟩ := hx.form
      clear hval hat hTS hu hs hh hbad hx hl
      go_enter Tryz.func49, Tryz.ntmps49
      go_wp2_with fail
      refine HH.out.mono ?_
      rintro e w' ⟨rfl, hww⟩
      obtain rfl : w = w' := hww.symm
      go_wp2_with fail
      go_region
      go_wp2_with fail
      go_ret2
      exact ⟨_, rfl, HX.out.bytes.below (Below.refl _ _).drew, (Below.refl _ _).drew⟩
end Go.Proofs.YtliboiajhhnajaaGreatDoor

/- A number more behind numbers of one's own. -/
namespace Go.Proofs.YtliboiajhhnajaaGreatDoor
open Go.RowKit Go.Extern

theorem append_int {B : Nat} {w : World} {v : Value} {ns : List Int} (h : w.ownsRow B 3 1 v ns.length (ns.map (Value.int .i64))) (hB : B ≤ w.heap.size) (n : Int) (hl : ns.length < 1000000) :
    ∃ v' w', (Builtin.append_ #[29, 29] 29 #[v, .slice (some ⟨w.heap.size, 0, none⟩) 1 1]).run Tryz.prog (w.alloc (.cells #[.int .i64 n] 3)) = .ok v' w' ∧ w'.ownsRow B 3 1 v' (ns ++ [n]).length ((ns ++ [n]).map (Value.int .i64)) ∧ Below B w w' ∧ ∃ ao n c, v' = .slice ao n c := by
  obtain ⟨i0, hi, hz0, hz1, hz2⟩ := info_parts infoInt
  have hb1 : Below w.heap.size w (w.alloc (.cells #[.int .i64 n] 3)) := (Below.refl _ _).alloc (Nat.le_refl _) _
  have h1 : (w.alloc (.cells #[.int .i64 n] 3)).ownsRow B 3 1 v ns.length (ns.map (Value.int .i64)) := ownsRow_of_block h (fun k o _ ho => by rw [hb1.block k (heap_lt ho)]; exact ho)
  obtain ⟨v', w', hr, ho, hg, -, hat⟩ := run_append_own_at (P := Tryz.prog) (w.alloc (.cells #[.int .i64 n] 3)) B 29 29 3 i0 (.int .i64 0) 1 8 Tryz.underlying29 hi hz0 hz1 hz2 rfl (by decide) v ns.length (ns.map (Value.int .i64)) h1 ⟨w.heap.size, 0, none⟩ 1 1 [.int .i64 n] (by simp)
    (fun j u hj => by
      match j, hj with
      | 0, hj =>
        obtain rfl : Value.int .i64 n = u := by simpa using hj
        rw [Addr.add_mid, cell_of_row _ _ _ _ _ _ (heap_alloc_new w _)]; rfl) (by simp [Value.oneCell']) (by unfold maxLen; omega) (by omega) (by simp; omega)
  obtain ⟨ao', cap', hf⟩ := ownsRow_form ho
  refine ⟨v', w', hr, by rw [List.length_append, List.map_append]; exact ho, ((Below.refl B w).alloc hB _).grown hg (by simp; omega) (fun k hk => (h.lt k hk).1), ⟨_, _, _, hf⟩⟩

end Go.Proofs.YtliboiajhhnajaaGreatDoor

/- The document's own disk: the sectors for which something waits. -/
namespace Go.Proofs.YtliboiajhhnajaaGreatDoor
open Go.RowKit Go.Extern

theorem pend_take {S : List Sec} {q : Nat} {s : Sec} (hs : S[q]? = some s) : pend (S.take (q + 1)) = pend (S.take q) ++ (if s.wait = [] then [] else [q]) := by
  have hq := (List.getElem?_eq_some_iff.1 hs).1
  unfold pend
  rw [List.length_take, List.length_take, Nat.min_eq_left (by omega), Nat.min_eq_left (by omega), List.range_succ, List.filter_append]
  congr 1
  · apply List.filter_congr
    intro i hi
    have hi := List.mem_range.1 hi
    unfold waits
    rw [List.getElem?_take_of_lt (by omega), List.getElem?_take_of_lt hi]
  · have : waits (S.take (q + 1)) q = !s.wait.isEmpty := by unfold waits; rw [List.getElem?_take_of_lt (by omega), hs]
    cases hw : s.wait <;> simp [this, hw]
theorem pendI_yes {S : List Sec} {q : Nat} {s : Sec} (hs : S[q]? = some s) (hw : s.wait ≠ []) : pendI (S.take (q + 1)) = pendI (S.take q) ++ [(q : Int)] := by
  unfold pendI; rw [pend_take hs, if_neg hw, List.map_append]; rfl
theorem pendI_no {S : List Sec} {q : Nat} {s : Sec} (hs : S[q]? = some s) (hw : s.wait = []) : pendI (S.take (q + 1)) = pendI (S.take q) := by
  unfold pendI; rw [pend_take hs, if_pos hw, List.append_nil]
set_option maxRecDepth 100000 in
set_option maxHeartbeats 2000000 in
theorem rpending_any {w : World} {G : Nat → Prop} {b : Nat} {S : List Sec} (h : Rk w G b S) (hl : S.length ≤ 4096) (hww : ∀ s ∈ S, s.wait.length ≤ 1000000) :
    Calls Tryz.prog 58 #[.pointer (some ⟨b, 0, none⟩)] w (Pended S w) := by
  obtain ⟨v, T, hat, hTS⟩ := h
  have hTl := RkAt.len hTS
  have HL := hide hl
  have HWW := hide hww
  have c0 := hat.cell
  obtain ⟨ao, cap, rfl⟩ := hat.form
  have HAT := hide hat
  have HTS := hide hTS
  rw [hTl] at c0
  clear hat hTS hl hww
  go_enter Tryz.func58, Tryz.ntmps58
  go_wp2_with fail
  go_loopg [3, 4] S.length (fun gk o i wr => ∃ j, j + gk = S.length ∧ i = .int .i64 (j : Int) ∧ wr.ownsRow w.heap.size 3 1 o (pendI (S.take j)).length ((pendI (S.take j)).map (Value.int .i64)) ∧ Below w.heap.size w wr)
  case atStart => exact ⟨0, by omega, rfl, by simpa [pendI, pend] using World.ownsRow_nil _ _ _ _, Below.refl _ _⟩
  case round =>
    obtain ⟨j, hj, rfl, hrow, hb⟩ := hrel
    have c0' : wr.cell? ⟨b, 0, none⟩ = some (.slice ao S.length cap) := by rw [hb.cell (cell_lt c0)]; exact c0
    obtain ⟨aoo, capo, rfl⟩ := ownsRow_form hrow
    have HROW := hide hrow
    have HB := hide hb
    clear hrow hb
    cases gk with
    | zero =>
      have hend : ¬ (j : Int) < (S.length : Int) := by omega
      have HE : Hid (S.take j = S) := List.take_of_length_le (by omega)
      clear hj
      go_wp2_with fail
      go_ret
      have h1 := HROW.out
      rw [HE.out] at h1 ⊢
      exact ⟨_, rfl, h1, HB.out⟩
    | succ m =>
      have hlt : (j : Int) < (S.length : Int) := by omega
      have hb0 : (0 : Int) ≤ (j : Int) := by omega
      obtain ⟨s, hs⟩ := get_of_lt (S := S) (i := j) (by omega)
      obtain ⟨u, hu⟩ := RkAt.get HTS.out hs
      have hatr := HAT.out.below HB.out
      obtain ⟨g, rfl, -, c1, -, -⟩ := hatr.at_ hu
      obtain ⟨aou, capu, huf⟩ := (hatr.val j _ hu).form
      simp only at huf
      subst huf
      have HS := hide hs
      have hwl := HWW.out s (List.mem_of_getElem? hs)
      have hjj : (j : Int) + 1 < 4098 := by have := HL.out; omega
      have hpl : (pendI (S.take j)).length < 1000000 := by have h1 := pend_length (S.take j); rw [pendI_length]; rw [List.length_take] at h1; have := HL.out; omega
      by_cases hw : s.wait = []
      · have HN := hide (pendI_no hs hw)
        simp only [hw, List.length_cons, List.length_nil, Nat.zero_add] at c1
        generalize hpn : (pendI (S.take j)).length = pn at HROW ⊢
        have HPN := hide hpn
        clear hatr hu hs hw hwl hpl hpn
        go_wp2_with fail
        go_roundg m
        case measure => omega
        case rel => exact ⟨j + 1, by omega, by go_num, by rw [HN.out, HPN.out]; exact HROW.out, HB.out⟩
      · have HN := hide (pendI_yes hs hw)
        obtain ⟨n, hn⟩ : ∃ n, s.wait.length = n + 1 := ⟨s.wait.length - 1, by have : s.wait.length ≠ 0 := fun e => hw (List.length_eq_zero_iff.1 e); omega⟩
        simp only [List.length_cons, hn] at c1 hwl
        have hgt : (1 : Int) < (n : Int) + 1 + 1 := by omega
        have hnb : (n : Int) + 1 + 1 ≤ 1000001 := by omega
        obtain ⟨v', w', hr, hrow', hb', ao3, n3, c3, rfl⟩ := append_int HROW.out HB.out.size (j : Int) hpl
        generalize hpn : (pendI (S.take j)).length = pn at HROW hr ⊢
        have HR' : Hid (w'.ownsRow w.heap.size 3 1 (.slice ao3 n3 c3) (pendI (S.take (j + 1))).length ((pendI (S.take (j + 1))).map (Value.int .i64))) := by show World.ownsRow _ _ _ _ _ _ _; rw [HN.out]; exact hrow'
        have HB' : Hid (Below w.heap.size w w') := HB.out.trans hb'
        clear hatr hu hs hw hwl hpl hpn hrow' hb' hn
        go_wp2_with (first | ((with_reducible refine wpList_appendI rfl rfl hr ?_ ?_ ?_ ?_); rfl; rfl; rfl))
        go_roundg m
        case measure => omega
        case rel => exact ⟨j + 1, by omega, by go_num, HR'.out, HB'.out⟩
end Go.Proofs.YtliboiajhhnajaaGreatDoor

/- A sector's list of the document's own disk: copied, made longer. -/
namespace Go.Proofs.YtliboiajhhnajaaGreatDoor
open Go.RowKit Go.Extern

/-- The list copied. -/
theorem HadG.copy {G : Nat → Prop} {w : World} {v : Value} {bs0 : List Nat} {bl : List (List Nat)} (h : HadG G w v (bs0 :: bl)) (hl : bl.length ≤ 1000000) :
    ∃ v' w', (Builtin.append_ #[94, 94] 94 #[.slice none 0 0, v]).run Tryz.prog w = .ok v' w' ∧ HadG (ext G w w') w' v' (bs0 :: bl) ∧ Below w.heap.size w w' ∧ (∀ k, v'.ownBlock = some k → w.heap.size ≤ k) ∧ ∃ ao n c, v' = .slice ao n c := by
  obtain ⟨i0, hi, hz0, hz1, hz2⟩ := info_parts infoBy
  obtain ⟨us, h1, h2, h3, h4⟩ := h
  simp only [List.length_cons] at h2
  obtain ⟨g, cap, cur, rfl, -⟩ := ownsRow_pos h1 (by omega)
  obtain ⟨v', w', hr, ho, hg, -, hat⟩ := run_append_own_at (P := Tryz.prog) w 0 94 94 28 i0 (.slice none 0 0) 1 24 Tryz.underlying94 hi hz0 hz1 hz2 rfl (by decide) (.slice none 0 0) 0 [] (World.ownsRow_nil _ _ _ _) ⟨g, 0, none⟩ us.length cap us (by simp)
    (fun j u hj => by rw [Addr.add_mid, Nat.zero_add]; exact row_cell h1 hj)
    (fun u hu => by
      obtain ⟨j, hj⟩ := List.getElem?_of_mem hu
      have hjl := (List.getElem?_eq_some_iff.1 hj).1
      obtain ⟨q, hq⟩ : ∃ q, (bs0 :: bl)[j]? = some q := ⟨(bs0 :: bl)[j]'(by simp; omega), by simp⟩
      obtain ⟨ao, cp, rfl⟩ := (h4 j u q hj hq).1.form
      rfl) (by unfold maxLen; omega) (by omega) (Nat.zero_le _)
  rw [Nat.zero_add, List.nil_append] at ho
  obtain ⟨ao', cap', hf⟩ := ownsRow_form ho
  have hb : Below w.heap.size w w' := (Below.refl _ _).grown hg (Nat.le_refl _) (fun k hk => by simp [Value.ownBlock] at hk)
  have hnew : ∀ k, v'.ownBlock = some k → w.heap.size ≤ k := fun k hk => by
    rcases hat with e | e
    · rw [e] at hk; simp [Value.ownBlock] at hk
    · rw [e] at hk; have := Option.some.inj hk; omega
  refine ⟨v', w', hr, ⟨us, ho, by simpa using h2, fun k hk => .inr ⟨hnew k hk, (ho.lt k hk).2⟩, fun i u bs hu hs => ?_⟩, hb, hnew, _, _, _, hf⟩
  obtain ⟨q1, q2⟩ := h4 i u bs hu hs
  exact ⟨q1.below hb, fun k hk => .inl (q2 k hk)⟩
/-- One more is appended. -/
theorem HadG.append {G : Nat → Prop} {B : Nat} {w : World} {v : Value} {bl : List (List Nat)} (h : HadG G w v bl) (ao : Option Addr) (n c : Nat) {bs : List Nat} (hu : Own w 0 (.slice ao n c) bs) (hP : ∀ k, (Value.slice ao n c).ownBlock = some k → G k) (hl : bl.length ≤ 1000001) (hB : B ≤ w.heap.size) (hv : ∀ k, v.ownBlock = some k → B ≤ k) :
    ∃ v' w', (Builtin.append_ #[94, 94] 94 #[v, .slice (some ⟨w.heap.size, 0, none⟩) 1 1]).run Tryz.prog (w.alloc (.cells #[.slice ao n c] 28)) = .ok v' w' ∧ HadG (ext G w w') w' v' (bl ++ [bs]) ∧ Below B w w' ∧ ∃ ao n c, v' = .slice ao n c := by
  obtain ⟨i0, hi, hz0, hz1, hz2⟩ := info_parts infoBy
  have hb1 : Below w.heap.size w (w.alloc (.cells #[.slice ao n c] 28)) := (Below.refl _ _).alloc (Nat.le_refl _) _
  have hs1 : (w.alloc (.cells #[.slice ao n c] 28)).heap.size = w.heap.size + 1 := by simp
  obtain ⟨vs, h1, h2, h3, h4⟩ := h.keep (G' := G) (w' := w.alloc (.cells #[.slice ao n c] 28)) (fun k _ hk => hb1.block k hk.lt) (fun _ hk _ => hk)
  have hu1 := hu.below hb1
  obtain ⟨v', w', hr, ho, hg, -, hat⟩ := run_append_own_at (P := Tryz.prog) (w.alloc (.cells #[.slice ao n c] 28)) 0 94 94 28 i0 (.slice none 0 0) 1 24 Tryz.underlying94 hi hz0 hz1 hz2 rfl (by decide) v vs.length vs h1 ⟨w.heap.size, 0, none⟩ 1 1 [.slice ao n c] (by simp)
    (fun j u hj => by
      match j, hj with
      | 0, hj =>
        obtain rfl : Value.slice ao n c = u := by simpa using hj
        rw [Addr.add_mid, cell_of_row _ _ _ _ _ _ (heap_alloc_new w _)]; rfl) (by simp [Value.oneCell']) (by unfold maxLen; omega) (by omega) (Nat.zero_le _)
  obtain ⟨ao', cap', hf⟩ := ownsRow_form ho
  have hkeep : ∀ {x : Value} {xb : List Nat}, Own (w.alloc (.cells #[.slice ao n c] 28)) 0 x xb → Own w' 0 x xb := fun {x xb} hx => by
    obtain ⟨q1, q2⟩ := hx
    refine ⟨ownsRow_of_block q1 (fun k o hk ho' => ?_), q2⟩
    rw [hg.block k (heap_lt ho') (fun e => ?_)]
    · exact ho'
    · obtain ⟨cur2, hh2⟩ := row_block q1 hk
      obtain ⟨cur3, hh3⟩ := row_block h1 e.symm
      rw [hh2] at hh3
      simp at hh3
  have hgs := hg.size
  refine ⟨v', w', hr, ⟨vs ++ [.slice ao n c], by rw [List.length_append]; exact ho, by simp [h2], fun k hk => ?_, fun i u bs' hu' hs' => ?_⟩, ((Below.refl B w).alloc hB _).grown hg (by omega) hv, ⟨_, _, _, hf⟩⟩
  · rcases hat with e | e
    · rw [e] at hk; exact .inl (h3 k hk)
    · have := (ho.lt k hk).2
      rw [e] at hk; have := Option.some.inj hk; exact .inr (by omega)
  by_cases hi2 : i < vs.length
  · rw [List.getElem?_append_left hi2] at hu'
    rw [List.getElem?_append_left (by omega)] at hs'
    obtain ⟨q1, q2⟩ := h4 i u bs' hu' hs'
    exact ⟨hkeep q1, fun k hk => .inl (q2 k hk)⟩
  · rw [List.getElem?_append_right (by omega)] at hu'
    rw [List.getElem?_append_right (by omega)] at hs'
    have e0 : i - vs.length = 0 := by
      have := (List.getElem?_eq_some_iff.1 hu').1
      simpa using this
    rw [e0] at hu'
    rw [← h2, e0] at hs'
    simp only [List.getElem?_cons_zero, Option.some.injEq] at hu' hs'
    subst hu' hs'
    exact ⟨hkeep hu1, fun k hk => .inl (hP k hk)⟩
end Go.Proofs.YtliboiajhhnajaaGreatDoor
