/- BankFalls: what the bank and the law's own table have. -/
import Derived.Test.YtliboiajhhnajaaAp
import Derived.Test.YtliboiajhhnajaaAppI
namespace Go.Proofs.Ytliboiajhhnajaa
open Go.RowKit Go.Extern

/-- A cell of the law's table, and the bytes that the sector must tell. -/
def hadV (w0 : World) (u : Value) (d : List Nat) : Prop := (u = .slice none 0 0 ∧ d = zeros) ∨ (∃ a cap, u = .slice (some a) 128 cap ∧ Bytes w0 u d ∧ d.length = 128)
/-- The sectors of the bank tell what the table has. -/
def FaV (w0 : World) (D : List Dev) (HV : List Value) : Prop := HV.length = 12 ∧ ∀ i k, i < 3 → k < 4 → ∃ p S s u, D[i]? = some (some (p, S)) ∧ S.length = 4 ∧ S[k]? = some s ∧ s.bad = false ∧ HV[i * 4 + k]? = some u ∧ hadV w0 u s.top
structure FaAt (w0 w : World) (F : Nat → Prop) (b hb : Nat) (D : List Dev) (q : Pw) (HV : List Value) : Prop where
  one : OneAt w0 w F b D q
  gb : w.heap[hb]? = some (.cells HV.toArray 33 (0, 0))
  gf : ¬ F hb
  hw : w0.heap.size ≤ hb
  val : FaV w0 D HV
section
variable {w0 w w1 : World} {F : Nat → Prop} {b hb : Nat} {D D' : List Dev} {q q' : Pw} {HV : List Value}
theorem FaAt.below (h : FaAt w0 w F b hb D q HV) (hw : Below w.heap.size w w1) : FaAt w0 w1 F b hb D q HV := ⟨h.one.below hw, by rw [hw.block hb (heap_lt h.gb)]; exact h.gb, h.gf, h.hw, h.val⟩
theorem FaAt.turn (h : FaAt w0 w F b hb D q HV) (hk : Bk w1 (ext F w w1) b D' q') (ht : Turn F w w1) (hv : FaV w0 D' HV) : FaAt w0 w1 (ext F w w1) b hb D' q' HV :=
  ⟨h.one.turn hk ht, by rw [ht.block hb (heap_lt h.gb) h.gf]; exact h.gb, fun hx => by
    rcases hx with x | x
    · exact h.gf x
    · have := heap_lt h.gb; omega, h.hw, hv⟩
theorem had_set {w : World} {hb j : Nat} {HV : List Value} (h : w.heap[hb]? = some (.cells HV.toArray 33 (0, 0))) (u : Value) : (w.setCell ⟨hb, j, none⟩ u).heap[hb]? = some (.cells (HV.set j u).toArray 33 (0, 0)) := by
  rw [setCell_eq_setRow w hb j _ _ _ u h, setRow_heap w hb _ _ _ _ h]
  simp
theorem FaAt.wrote {j : Nat} {u : Value} (h : FaAt w0 w F b hb D q HV) (hk : Bk w1 (ext F w w1) b D' q') (ht : Turn F w w1) (hv : FaV w0 D' (HV.set j u)) : FaAt w0 (w1.drew.setCell ⟨hb, j, none⟩ u) (ext F w w1) b hb D' q' (HV.set j u) := by
  have hf : ¬ ext F w w1 hb := fun hx => by
    rcases hx with x | x
    · exact h.gf x
    · have := heap_lt h.gb; omega
  have h2 := (h.one.turn hk ht).below ((Below.refl w1.heap.size w1).drew)
  refine ⟨h2.other (set_turn (F := fun k => k = hb) _ ⟨hb, j, none⟩ u rfl) (fun k hk => by rw [hk]; exact h.hw) (fun k hk e => hf (by rw [← e]; exact hk)), had_set (w := w1.drew) ?_ u, hf, h.hw, hv⟩
  show w1.heap[hb]? = _
  rw [ht.block hb (heap_lt h.gb) h.gf]; exact h.gb
theorem FaV.four (h : FaV w0 D HV) (hl : D.length = 3) : FourN 3 D := ⟨hl, fun d hd => by
  obtain ⟨i, hi⟩ := List.getElem?_of_mem hd
  have hi3 : i < 3 := by rw [← hl]; exact (List.getElem?_eq_some_iff.1 hi).1
  obtain ⟨p, S, s, u, h1, h2, -⟩ := h.2 i 0 hi3 (by omega)
  rw [hi] at h1
  cases h1
  exact ⟨p, S, rfl, h2⟩⟩
end
theorem getD_last {l : List (List Nat)} {x : List Nat} (h : l ≠ []) : l.getD (l.length - 1) x = l.getLast h := by
  rw [List.getLast_eq_getElem, List.getD_eq_getElem?_getD, List.getElem?_eq_getElem (by have := List.length_pos_iff.2 h; omega)]; rfl
theorem pick_big {s : Sec} (h : s.wait.length ≤ 1000) : s.pick 1000 = s.top := by
  unfold Sec.top Sec.pick
  rw [if_neg (by omega)]
  by_cases e : s.wait.length = 0
  · have : s.wait = [] := List.length_eq_zero_iff.1 e
    rw [this]; simp
  · rw [if_neg (by omega)]
    congr 1
    have : Int.toNat 1000 = 1000 := rfl
    rw [this]
    simp only [Int.toNat_natCast]
    omega
theorem placeOf_lt {i p : Nat} : ∀ {l : List Nat}, placeOf l i = some p → p < l.length
  | [], h => by simp [placeOf] at h
  | a :: l, h => by
    unfold placeOf at h
    split at h
    · cases h; simp
    · obtain ⟨q, h1, rfl⟩ := Option.map_eq_some_iff.1 h
      have := placeOf_lt h1
      simp; omega
theorem placeOf_not {i : Nat} : ∀ {l : List Nat}, placeOf l i = none → i ∉ l
  | [], _ => by simp
  | a :: l, h => by
    unfold placeOf at h
    split at h
    · cases h
    · rename_i e
      have := placeOf_not (Option.map_eq_none_iff.1 h)
      simp only [List.mem_cons, not_or]
      exact ⟨fun x => e x.symm, this⟩
/-- A crash that keeps all leaves what is read. -/
theorem crS_keep {S : List Sec} {k : Nat} {s : Sec} (hs : S[k]? = some s) (hw : s.wait.length ≤ 1000) (m : Nat) (hm : (pend S).length ≤ m) : ∃ t, (crS S (List.replicate m 1000))[k]? = some t ∧ t.bad = s.bad ∧ t.top = s.top := by
  rw [crS_get, hs]
  refine ⟨_, rfl, ?_, ?_⟩
  · unfold crF; split <;> rfl
  · rw [Sec.top_nil (s := (crF (pend S) (List.replicate m 1000) k s).let) rfl]
    unfold crF
    split
    · rename_i p hp
      have h1 := placeOf_lt hp
      have h2 : (List.replicate m (1000 : Int)).getD p 0 = 1000 := by rw [List.getD_eq_getElem?_getD, List.getElem?_replicate, if_pos (by omega)]; rfl
      show s.pick ((List.replicate m (1000 : Int)).getD p 0) = s.top
      rw [h2, pick_big hw]
    · rename_i hp
      have h1 := placeOf_not hp
      have h2 : s.wait = [] := by
        cases hx : s.wait with
        | nil => rfl
        | cons a l => exact absurd (mem_pend.2 ⟨s, hs, by rw [hx]; simp⟩) h1
      rw [Sec.top_nil h2]; rfl
theorem crD_rep : ∀ (D : List Dev) (m i p : Nat) (S : List Sec), (∀ (j p : Nat) (S : List Sec), D[j]? = some (some (p, S)) → (pend S).length ≤ 4) → 4 * D.length ≤ m → D[i]? = some (some (p, S)) → (crD D (List.replicate m 1000))[i]? = some (some (p, crS S (List.replicate (pend S).length 1000)))
  | [], m, i, p, S, _, _, h => by simp at h
  | none :: r, m, 0, p, S, _, _, h => by simp at h
  | none :: r, m, i + 1, p, S, hp, hm, h => by
    simp only [crD, List.getElem?_cons_succ]
    exact crD_rep r m i p S (fun j p S hj => hp (j + 1) p S (by simpa using hj)) (by simp at hm; omega) (by simpa using h)
  | some (p0, S0) :: r, m, 0, p, S, hp, hm, h => by
    simp only [List.getElem?_cons_zero, Option.some.injEq, Prod.mk.injEq] at h
    obtain ⟨rfl, rfl⟩ := h
    have h4 := hp 0 p0 S0 (by simp)
    simp only [crD, List.getElem?_cons_zero, List.take_replicate]
    simp only [List.length_cons] at hm
    rw [show min (pend S0).length m = (pend S0).length by omega]
  | some (p0, S0) :: r, m, i + 1, p, S, hp, hm, h => by
    have h4 := hp 0 p0 S0 (by simp)
    simp only [List.length_cons] at hm
    simp only [crD, List.getElem?_cons_succ, List.drop_replicate]
    exact crD_rep r (m - (pend S0).length) i p S (fun j p S hj => hp (j + 1) p S (by simpa using hj)) (by omega) (by simpa using h)
theorem FaV.crash {w0 : World} {D : List Dev} {HV : List Value} (h : FaV w0 D HV) (hl : D.length = 3) (hw : WlB D 1000) : FaV w0 (crD D (List.replicate 12 1000)) HV := by
  refine ⟨h.1, fun i k hi hk => ?_⟩
  obtain ⟨p, S, s, u, h1, h2, h3, h4, h5, h6⟩ := h.2 i k hi hk
  have hp : ∀ (j p : Nat) (S : List Sec), D[j]? = some (some (p, S)) → (pend S).length ≤ 4 := fun j p' S' hj => by
    obtain ⟨p2, S2, e, hl2⟩ := (h.four hl).2 _ (List.mem_of_getElem? hj)
    cases e
    rw [← hl2]; exact pend_length _
  have hc := crD_rep D 12 i p S hp (by omega) h1
  obtain ⟨t, t1, t2, t3⟩ := crS_keep h3 (hw i p S h1 s (List.mem_of_getElem? h3)) (pend S).length (Nat.le_refl _)
  refine ⟨p, _, t, u, hc, ?_, t1, by rw [t2]; exact h4, h5, by rw [t3]; exact h6⟩
  unfold crS
  rw [List.length_map, partS_length]; exact h2
/-- What a write leaves. -/
theorem FaV.write {w0 : World} {D : List Dev} {HV : List Value} (h : FaV w0 D HV) {i k : Nat} (hi : i < 3) (hk : k < 4) {d : List Nat} (hd : d.length = 128) {a : Addr} {cap : Nat} (hb : Bytes w0 (.slice (some a) 128 cap) d) {D' : List Dev} (hD : D' = putDev D (i : Int) (wSet (secsOf D (i : Int)) (k : Int) d)) : FaV w0 D' (HV.set (i * 4 + k) (.slice (some a) 128 cap)) := by
  subst hD
  obtain ⟨p0, S0, s0, u0, g1, g2, g3, g4, g5, g6⟩ := h.2 i k hi hk
  rw [secsOf_at g1, putDev_at g1]
  refine ⟨by rw [List.length_set]; exact h.1, fun j m hj hm => ?_⟩
  obtain ⟨p, S, s, u, h1, h2, h3, h4, h5, h6⟩ := h.2 j m hj hm
  by_cases e : i = j
  · subst e
    rw [g1] at h1
    cases h1
    by_cases e2 : k = m
    · subst e2
      rw [g3] at h3
      cases h3
      refine ⟨p0, _, { s0 with wait := s0.wait ++ [d] }, _, List.getElem?_set_self (List.getElem?_eq_some_iff.1 g1).1, by rw [wSet_length]; exact g2, wSet_eq g3 hd, g4, List.getElem?_set_self (by have := h.1; omega), .inr ⟨a, cap, rfl, ?_, ?_⟩⟩
      · rw [Sec.top_snoc]; exact hb
      · rw [Sec.top_snoc]; exact hd
    · refine ⟨p0, _, s, u, List.getElem?_set_self (List.getElem?_eq_some_iff.1 g1).1, by rw [wSet_length]; exact g2, by rw [wSet_ne (by omega)]; exact h3, h4, by rw [List.getElem?_set_ne (by omega)]; exact h5, h6⟩
  · refine ⟨p, S, s, u, by rw [List.getElem?_set_ne e]; exact h1, h2, h3, h4, by rw [List.getElem?_set_ne (by omega)]; exact h5, h6⟩
theorem FaV.start {w0 : World} {D : List Dev} (hs : ∀ i, i < 3 → ∃ p, D[i]? = some (some (p, fresh 4))) : FaV w0 D (List.replicate 12 (.slice none 0 0)) := by
  refine ⟨by simp, fun i k hi hk => ?_⟩
  obtain ⟨p, hp⟩ := hs i hi
  exact ⟨p, fresh 4, zeroSec, .slice none 0 0, hp, by simp [fresh], fresh_get hk, rfl, by rw [List.getElem?_replicate, if_pos (by omega)], .inl ⟨rfl, rfl⟩⟩
/-- The armed bank's answer to a write that it takes. -/
theorem FaV.bwC {w0 : World} {D : List Dev} {HV : List Value} (h : FaV w0 D HV) (hl : D.length = 3) (n N : Nat) {i k : Nat} (hi : i < 3) (hk : k < 4) {d : List Nat} (hd : d.length = 128) :
    (N < n → bwC D (ctB n N) (i : Int) (k : Int) d = 0) ∧ (¬ N < n → bwC D (ctB n N) (i : Int) (k : Int) d = 22 ∧ bwD D (ctB n N) (i : Int) (k : Int) d = D) ∧ bwQ D (ctB n N) (i : Int) (k : Int) d = ctB n (N + 1) := by
  have h4 := h.four hl
  have hok : okW (i : Int) (k : Int) d = 1 := by unfold okW; rw [if_pos ⟨by omega, by omega, by omega, by omega, hd⟩]
  have hq : bwQ D (ctB n N) (i : Int) (k : Int) d = ctB n (N + 1) := by rw [bwQ_ctB h4, hok]
  have hlook : lookC D (i : Int) = 0 := by rw [h4.look, if_pos ⟨by omega, by omega⟩]
  have hwe : wErr (secsOf D (i : Int)) (k : Int) d = 0 := by rw [wErr_four (h4.secs hlook), if_pos ⟨by omega, by omega⟩, if_pos hd]
  refine ⟨fun hn => ?_, fun hn => ?_, hq⟩
  · have e : ctB n N = ⟨(n : Int) - N, false, N⟩ := by unfold ctB; rw [if_pos (by omega)]
    unfold Go.Proofs.Ytliboiajhhnajaa.bwC
    rw [e, if_pos (by unfold lookP; simpa using hlook), if_pos hwe]
    unfold spendC
    rw [if_neg (by simp; omega)]
  · have hc : Go.Proofs.Ytliboiajhhnajaa.bwC D (ctB n N) (i : Int) (k : Int) d = 22 := by
      by_cases e2 : N = n
      · have e : ctB n N = ⟨0, false, N⟩ := by unfold ctB; rw [if_pos (by omega), e2]; simp
        unfold Go.Proofs.Ytliboiajhhnajaa.bwC
        rw [e, if_pos (by unfold lookP; simpa using hlook), if_pos hwe]; rfl
      · have e : ctB n N = ⟨0, true, n⟩ := by unfold ctB; rw [if_neg (by omega)]
        have hlp : lookP D (⟨0, true, n⟩ : Pw) (i : Int) = 22 := by unfold lookP; simp
        unfold Go.Proofs.Ytliboiajhhnajaa.bwC
        rw [e, hlp]; simp
    exact ⟨hc, by unfold bwD; rw [if_neg (by rw [hc]; decide)]⟩
theorem index_had {g i : Nat} (h : i < 3) (w : World) : (Instr.indexAt 33 (.pointer (some ⟨g, 0, none⟩)) (.int .i64 (i : Int))).run Try.prog w = .ok (.pointer (some ⟨g, i * 4, none⟩)) w := by
  rcases (show i = 0 ∨ i = 1 ∨ i = 2 by omega) with rfl | rfl | rfl
  · kernel_rfl
  · kernel_rfl
  · kernel_rfl
theorem index_had4 {g o k : Nat} (h : k < 4) (w : World) : (Instr.indexAt 32 (.pointer (some ⟨g, o, none⟩)) (.int .i64 (k : Int))).run Try.prog w = .ok (.pointer (some ⟨g, o + k, none⟩)) w := by
  rcases (show k = 0 ∨ k = 1 ∨ k = 2 ∨ k = 3 by omega) with rfl | rfl | rfl | rfl
  · kernel_rfl
  · kernel_rfl
  · kernel_rfl
  · kernel_rfl
end Go.Proofs.Ytliboiajhhnajaa
