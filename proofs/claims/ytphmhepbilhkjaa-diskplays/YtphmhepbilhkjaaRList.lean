/- A sector's list of the document's own disk: copied, made longer. -/
import Derived.Test.YtphmhepbilhkjaaRPend
namespace Go.Proofs.Ytphmhepbilhkjaa
open Go.RowKit Go.Extern

/-- The list copied. -/
theorem HadG.copy {G : Nat → Prop} {w : World} {v : Value} {bs0 : List Nat} {bl : List (List Nat)} (h : HadG G w v (bs0 :: bl)) (hl : bl.length ≤ 1000000) :
    ∃ v' w', (Builtin.append_ #[49, 49] 49 #[.slice none 0 0, v]).run Try.prog w = .ok v' w' ∧ HadG (ext G w w') w' v' (bs0 :: bl) ∧ Below w.heap.size w w' ∧ (∀ k, v'.ownBlock = some k → w.heap.size ≤ k) ∧ ∃ ao n c, v' = .slice ao n c := by
  obtain ⟨i0, hi, hz0, hz1, hz2⟩ := info_parts infoBy
  obtain ⟨us, h1, h2, h3, h4⟩ := h
  simp only [List.length_cons] at h2
  obtain ⟨g, cap, cur, rfl, -⟩ := ownsRow_pos h1 (by omega)
  obtain ⟨v', w', hr, ho, hg, -, hat⟩ := run_append_own_at (P := Try.prog) w 0 49 49 32 i0 (.slice none 0 0) 1 24 Try.underlying49 hi hz0 hz1 hz2 rfl (by decide) (.slice none 0 0) 0 [] (World.ownsRow_nil _ _ _ _) ⟨g, 0, none⟩ us.length cap us (by simp)
    (fun j u hj => by rw [Addr.add_mid, Nat.zero_add]; exact row_cell h1 hj)
    (fun u hu => by
      obtain ⟨j, hj⟩ := List.getElem?_of_mem hu
      have hjl := (List.getElem?_eq_some_iff.1 hj).1
      obtain ⟨q, hq⟩ : ∃ q, (bs0 :: bl)[j]? = some q := ⟨(bs0 :: bl)[j]'(by simp; omega), by simp⟩
      obtain ⟨ao, cp, rfl⟩ := (h4 j u q hj hq).1.form
      rfl) (by unfold maxLen; omega) (by omega) (Nat.zero_le _)
  rw [Nat.zero_add, List.nil_append] at ho
  obtain ⟨ao', cap', hf⟩ := ownsRow_form ho
  have hb : Below w.heap.size w w' := (Below.refl _ _).grown hg (Nat.le_refl _) (fun k hk => by simp [Value.ownBlock] at hk)
  have hnew : ∀ k, v'.ownBlock = some k → w.heap.size ≤ k := fun k hk => by
    rcases hat with e | e
    · rw [e] at hk; simp [Value.ownBlock] at hk
    · rw [e] at hk; have := Option.some.inj hk; omega
  refine ⟨v', w', hr, ⟨us, ho, by simpa using h2, fun k hk => .inr ⟨hnew k hk, (ho.lt k hk).2⟩, fun i u bs hu hs => ?_⟩, hb, hnew, _, _, _, hf⟩
  obtain ⟨q1, q2⟩ := h4 i u bs hu hs
  exact ⟨q1.below hb, fun k hk => .inl (q2 k hk)⟩
/-- One more is appended. -/
theorem HadG.append {G : Nat → Prop} {B : Nat} {w : World} {v : Value} {bl : List (List Nat)} (h : HadG G w v bl) (ao : Option Addr) (n c : Nat) {bs : List Nat} (hu : Own w 0 (.slice ao n c) bs) (hP : ∀ k, (Value.slice ao n c).ownBlock = some k → G k) (hl : bl.length ≤ 1000001) (hB : B ≤ w.heap.size) (hv : ∀ k, v.ownBlock = some k → B ≤ k) :
    ∃ v' w', (Builtin.append_ #[49, 49] 49 #[v, .slice (some ⟨w.heap.size, 0, none⟩) 1 1]).run Try.prog (w.alloc (.cells #[.slice ao n c] 32)) = .ok v' w' ∧ HadG (ext G w w') w' v' (bl ++ [bs]) ∧ Below B w w' ∧ ∃ ao n c, v' = .slice ao n c := by
  obtain ⟨i0, hi, hz0, hz1, hz2⟩ := info_parts infoBy
  have hb1 : Below w.heap.size w (w.alloc (.cells #[.slice ao n c] 32)) := (Below.refl _ _).alloc (Nat.le_refl _) _
  have hs1 : (w.alloc (.cells #[.slice ao n c] 32)).heap.size = w.heap.size + 1 := by simp
  obtain ⟨vs, h1, h2, h3, h4⟩ := h.keep (G' := G) (w' := w.alloc (.cells #[.slice ao n c] 32)) (fun k _ hk => hb1.block k hk.lt) (fun _ hk _ => hk)
  have hu1 := hu.below hb1
  obtain ⟨v', w', hr, ho, hg, -, hat⟩ := run_append_own_at (P := Try.prog) (w.alloc (.cells #[.slice ao n c] 32)) 0 49 49 32 i0 (.slice none 0 0) 1 24 Try.underlying49 hi hz0 hz1 hz2 rfl (by decide) v vs.length vs h1 ⟨w.heap.size, 0, none⟩ 1 1 [.slice ao n c] (by simp)
    (fun j u hj => by
      match j, hj with
      | 0, hj =>
        obtain rfl : Value.slice ao n c = u := by simpa using hj
        rw [Addr.add_mid, cell_of_row _ _ _ _ _ _ (heap_alloc_new w _)]; rfl) (by simp [Value.oneCell']) (by unfold maxLen; omega) (by omega) (Nat.zero_le _)
  obtain ⟨ao', cap', hf⟩ := ownsRow_form ho
  have hkeep : ∀ {x : Value} {xb : List Nat}, Own (w.alloc (.cells #[.slice ao n c] 32)) 0 x xb → Own w' 0 x xb := fun {x xb} hx => by
    obtain ⟨q1, q2⟩ := hx
    refine ⟨ownsRow_of_block q1 (fun k o hk ho' => ?_), q2⟩
    rw [hg.block k (heap_lt ho') (fun e => ?_)]
    · exact ho'
    · obtain ⟨cur2, hh2⟩ := row_block q1 hk
      obtain ⟨cur3, hh3⟩ := row_block h1 e.symm
      rw [hh2] at hh3
      simp at hh3
  have hgs := hg.size
  refine ⟨v', w', hr, ⟨vs ++ [.slice ao n c], by rw [List.length_append]; exact ho, by simp [h2], fun k hk => ?_, fun i u bs' hu' hs' => ?_⟩, ((Below.refl B w).alloc hB _).grown hg (by omega) hv, ⟨_, _, _, hf⟩⟩
  · rcases hat with e | e
    · rw [e] at hk; exact .inl (h3 k hk)
    · have := (ho.lt k hk).2
      rw [e] at hk; have := Option.some.inj hk; exact .inr (by omega)
  by_cases hi2 : i < vs.length
  · rw [List.getElem?_append_left hi2] at hu'
    rw [List.getElem?_append_left (by omega)] at hs'
    obtain ⟨q1, q2⟩ := h4 i u bs' hu' hs'
    exact ⟨hkeep q1, fun k hk => .inl (q2 k hk)⟩
  · rw [List.getElem?_append_right (by omega)] at hu'
    rw [List.getElem?_append_right (by omega)] at hs'
    have e0 : i - vs.length = 0 := by
      have := (List.getElem?_eq_some_iff.1 hu').1
      simpa using this
    rw [e0] at hu'
    rw [← h2, e0] at hs'
    simp only [List.getElem?_cons_zero, Option.some.injEq] at hu' hs'
    subst hu' hs'
    exact ⟨hkeep hu1, fun k hk => .inl (hP k hk)⟩
end Go.Proofs.Ytphmhepbilhkjaa
