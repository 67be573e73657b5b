/- The document's own disk: the sectors for which something waits. -/
import Derived.Test.YtphmhepbilhkjaaRRead
namespace Go.Proofs.Ytphmhepbilhkjaa
open Go.RowKit Go.Extern

theorem pend_take {S : List Sec} {q : Nat} {s : Sec} (hs : S[q]? = some s) : pend (S.take (q + 1)) = pend (S.take q) ++ (if s.wait = [] then [] else [q]) := by
  have hq := (List.getElem?_eq_some_iff.1 hs).1
  unfold pend
  rw [List.length_take, List.length_take, Nat.min_eq_left (by omega), Nat.min_eq_left (by omega), List.range_succ, List.filter_append]
  congr 1
  · apply List.filter_congr
    intro i hi
    have hi := List.mem_range.1 hi
    unfold waits
    rw [List.getElem?_take_of_lt (by omega), List.getElem?_take_of_lt hi]
  · have : waits (S.take (q + 1)) q = !s.wait.isEmpty := by unfold waits; rw [List.getElem?_take_of_lt (by omega), hs]
    cases hw : s.wait <;> simp [this, hw]
theorem pendI_yes {S : List Sec} {q : Nat} {s : Sec} (hs : S[q]? = some s) (hw : s.wait ≠ []) : pendI (S.take (q + 1)) = pendI (S.take q) ++ [(q : Int)] := by
  unfold pendI; rw [pend_take hs, if_neg hw, List.map_append]; rfl
theorem pendI_no {S : List Sec} {q : Nat} {s : Sec} (hs : S[q]? = some s) (hw : s.wait = []) : pendI (S.take (q + 1)) = pendI (S.take q) := by
  unfold pendI; rw [pend_take hs, if_pos hw, List.append_nil]
/-- One number more. -/
theorem append_int {B : Nat} {w : World} {v : Value} {ns : List Int} (h : w.ownsRow B 3 1 v ns.length (ns.map (Value.int .i64))) (hB : B ≤ w.heap.size) (n : Int) (hl : ns.length < 1000000) :
    ∃ v' w', (Builtin.append_ #[33, 33] 33 #[v, .slice (some ⟨w.heap.size, 0, none⟩) 1 1]).run Try.prog (w.alloc (.cells #[.int .i64 n] 3)) = .ok v' w' ∧ w'.ownsRow B 3 1 v' (ns ++ [n]).length ((ns ++ [n]).map (Value.int .i64)) ∧ Below B w w' ∧ ∃ ao n c, v' = .slice ao n c := by
  obtain ⟨i0, hi, hz0, hz1, hz2⟩ := info_parts infoInt
  have hb1 : Below w.heap.size w (w.alloc (.cells #[.int .i64 n] 3)) := (Below.refl _ _).alloc (Nat.le_refl _) _
  have h1 : (w.alloc (.cells #[.int .i64 n] 3)).ownsRow B 3 1 v ns.length (ns.map (Value.int .i64)) := ownsRow_of_block h (fun k o _ ho => by rw [hb1.block k (heap_lt ho)]; exact ho)
  obtain ⟨v', w', hr, ho, hg, -, hat⟩ := run_append_own_at (P := Try.prog) (w.alloc (.cells #[.int .i64 n] 3)) B 33 33 3 i0 (.int .i64 0) 1 8 Try.underlying33 hi hz0 hz1 hz2 rfl (by decide) v ns.length (ns.map (Value.int .i64)) h1 ⟨w.heap.size, 0, none⟩ 1 1 [.int .i64 n] (by simp)
    (fun j u hj => by
      match j, hj with
      | 0, hj =>
        obtain rfl : Value.int .i64 n = u := by simpa using hj
        rw [Addr.add_mid, cell_of_row _ _ _ _ _ _ (heap_alloc_new w _)]; rfl) (by simp [Value.oneCell']) (by unfold maxLen; omega) (by omega) (by simp; omega)
  obtain ⟨ao', cap', hf⟩ := ownsRow_form ho
  refine ⟨v', w', hr, by rw [List.length_append, List.map_append]; exact ho, ((Below.refl B w).alloc hB _).grown hg (by simp; omega) (fun k hk => (h.lt k hk).1), ⟨_, _, _, hf⟩⟩

set_option maxRecDepth 100000 in
set_option maxHeartbeats 2000000 in
theorem rpending_any {w : World} {G : Nat → Prop} {b : Nat} {S : List Sec} (h : Rk w G b S) (hl : S.length ≤ 4096) (hww : ∀ s ∈ S, s.wait.length ≤ 1000000) :
    Calls Try.prog 20 #[.pointer (some ⟨b, 0, none⟩)] w (Pended S w) := by
  obtain ⟨v, T, hat, hTS⟩ := h
  have hTl := RkAt.len hTS
  have HL := hide hl
  have HWW := hide hww
  have c0 := hat.cell
  obtain ⟨ao, cap, rfl⟩ := hat.form
  have HAT := hide hat
  have HTS := hide hTS
  rw [hTl] at c0
  clear hat hTS hl hww
  go_enter Try.func20, Try.ntmps20
  go_wp2_with fail
  go_loopg [3, 4] S.length (fun gk o i wr => ∃ j, j + gk = S.length ∧ i = .int .i64 (j : Int) ∧ wr.ownsRow w.heap.size 3 1 o (pendI (S.take j)).length ((pendI (S.take j)).map (Value.int .i64)) ∧ Below w.heap.size w wr)
  case atStart => exact ⟨0, by omega, rfl, by simpa [pendI, pend] using World.ownsRow_nil _ _ _ _, Below.refl _ _⟩
  case round =>
    obtain ⟨j, hj, rfl, hrow, hb⟩ := hrel
    have c0' : wr.cell? ⟨b, 0, none⟩ = some (.slice ao S.length cap) := by rw [hb.cell (cell_lt c0)]; exact c0
    obtain ⟨aoo, capo, rfl⟩ := ownsRow_form hrow
    have HROW := hide hrow
    have HB := hide hb
    clear hrow hb
    cases gk with
    | zero =>
      have hend : ¬ (j : Int) < (S.length : Int) := by omega
      have HE : Hid (S.take j = S) := List.take_of_length_le (by omega)
      clear hj
      go_wp2_with fail
      go_ret
      have h1 := HROW.out
      rw [HE.out] at h1 ⊢
      exact ⟨_, rfl, h1, HB.out⟩
    | succ m =>
      have hlt : (j : Int) < (S.length : Int) := by omega
      have hb0 : (0 : Int) ≤ (j : Int) := by omega
      obtain ⟨s, hs⟩ := get_of_lt (S := S) (i := j) (by omega)
      obtain ⟨u, hu⟩ := RkAt.get HTS.out hs
      have hatr := HAT.out.below HB.out
      obtain ⟨g, rfl, -, c1, -, -⟩ := hatr.at_ hu
      obtain ⟨aou, capu, huf⟩ := (hatr.val j _ hu).form
      simp only at huf
      subst huf
      have HS := hide hs
      have hwl := HWW.out s (List.mem_of_getElem? hs)
      have hjj : (j : Int) + 1 < 4098 := by have := HL.out; omega
      have hpl : (pendI (S.take j)).length < 1000000 := by have h1 := pend_length (S.take j); rw [pendI_length]; rw [List.length_take] at h1; have := HL.out; omega
      by_cases hw : s.wait = []
      · have HN := hide (pendI_no hs hw)
        simp only [hw, List.length_cons, List.length_nil, Nat.zero_add] at c1
        generalize hpn : (pendI (S.take j)).length = pn at HROW ⊢
        have HPN := hide hpn
        clear hatr hu hs hw hwl hpl hpn
        go_wp2_with fail
        go_roundg m
        case measure => omega
        case rel => exact ⟨j + 1, by omega, by go_num, by rw [HN.out, HPN.out]; exact HROW.out, HB.out⟩
      · have HN := hide (pendI_yes hs hw)
        obtain ⟨n, hn⟩ : ∃ n, s.wait.length = n + 1 := ⟨s.wait.length - 1, by have : s.wait.length ≠ 0 := fun e => hw (List.length_eq_zero_iff.1 e); omega⟩
        simp only [List.length_cons, hn] at c1 hwl
        have hgt : (1 : Int) < (n : Int) + 1 + 1 := by omega
        have hnb : (n : Int) + 1 + 1 ≤ 1000001 := by omega
        obtain ⟨v', w', hr, hrow', hb', ao3, n3, c3, rfl⟩ := append_int HROW.out HB.out.size (j : Int) hpl
        generalize hpn : (pendI (S.take j)).length = pn at HROW hr ⊢
        have HR' : Hid (w'.ownsRow w.heap.size 3 1 (.slice ao3 n3 c3) (pendI (S.take (j + 1))).length ((pendI (S.take (j + 1))).map (Value.int .i64))) := by show World.ownsRow _ _ _ _ _ _ _; rw [HN.out]; exact hrow'
        have HB' : Hid (Below w.heap.size w w') := HB.out.trans hb'
        clear hatr hu hs hw hwl hpl hpn hrow' hb' hn
        go_wp2_with (first | ((with_reducible refine wpList_appendI rfl rfl hr ?_ ?_ ?_ ?_); rfl; rfl; rfl))
        go_roundg m
        case measure => omega
        case rel => exact ⟨j + 1, by omega, by go_num, HR'.out, HB'.out⟩
end Go.Proofs.Ytphmhepbilhkjaa
