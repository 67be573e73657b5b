/- A sector laid anew in place; all that waits let go. -/
import Derived.Test.YtliboiajhhnajaaGCore
import Derived.Test.YtliboiajhhnajaaTake
namespace Go.Proofs.Ytliboiajhhnajaa
open Go.RowKit Go.Extern

/-- Cells laid into a row. -/
def laidRow (cur : Array Value) (o : Nat) (cs : List Value) : Array Value := (cur.toList.take o ++ cs ++ cur.toList.drop (o + cs.length)).toArray
theorem run_storeMid {w : World} {g o : Nat} {cur : Array Value} {t T : TypeId} (cs : List Value) (h : w.heap[g]? = some (.cells cur t (0, 0))) (hf : o + cs.length ≤ cur.size) (h1 : ∀ v ∈ cs, v.oneCell' = true) (hi : (Try.prog.info? T).map (·.size) = some cs.length) :
    (Instr.storeAt T (.pointer (some ⟨g, o, none⟩)) (.agg cs.toArray)).run Try.prog w = .ok () (w.setRow g (laidRow cur o cs)) := by
  have hst := run_storeCells_at Try.prog g o t cs 0 cur w h (by omega) h1
  simp only [Nat.add_zero] at hst
  obtain ⟨i, hq, hs⟩ := Option.map_eq_some_iff.1 hi
  simp only [Instr.storeAt, Instr.sureAddr, Sem.run_bind, Sem.run_pure, Result.andThen_ok]
  simp [storeVar, sizeOf, typeInfo, hq, Value.cells, hs, hst, laidRow]
theorem setRow_turn {w : World} {g : Nat} (F : Nat → Prop) (hF : F g) (cs : Array Value) : Turn F w (w.setRow g cs) :=
  ⟨rfl, rfl, rfl, by simp [World.setRow], fun k _ hn => setRow_other w g k _ (fun e => hn (by rw [e]; exact hF))⟩

/-- Cells of one sector laid anew. -/
theorem store_core {w : World} {F : Nat → Prop} {b mb g cap : Nat} {S : List Sec} {D : DataW Value} (h : DkAt w F b S (.slice (some ⟨g, 0, none⟩) S.length cap) mb D) {i : Nat} {s s' : Sec} (hs : S[i]? = some s) (hw : s'.wait = s.wait) (hg' : GoodSec s') (T : TypeId) (cs : List Value) (h1 : ∀ v ∈ cs, v.oneCell' = true) (hi : (Try.prog.info? T).map (·.size) = some cs.length)
    (hl : cs.length ≤ 129) (hy : secC s' = cs ++ (secC s).drop cs.length) :
    ∃ w', (Instr.storeAt T (.pointer (some ⟨g, i * 129, none⟩)) (.agg cs.toArray)).run Try.prog w = .ok () w' ∧ DkAt w' F b (S.set i s') (.slice (some ⟨g, 0, none⟩) S.length cap) mb D ∧ w.grownBy w' (some g) ∧ w'.heap.size = w.heap.size := by
  obtain ⟨g', cap', cur, e, hg, hcap, hm, hsz, ht, -⟩ := ownsRow_pos h.secs (len_pos hs)
  simp only [Value.slice.injEq, Option.some.injEq, Addr.mk.injEq, and_true, true_and] at e
  obtain ⟨rfl, rfl⟩ := e
  have hk := (List.getElem?_eq_some_iff.1 hs).1
  have hmul : i * 129 + 129 ≤ cap * 129 := by have := Nat.mul_le_mul_right 129 (Nat.le_trans (Nat.succ_le_of_lt hk) hcap); omega
  refine ⟨_, run_storeMid cs hg (by rw [hsz]; omega) h1 hi, ?_, ?_, by simp [World.setRow]⟩
  · refine h.put hs hw hg' ?_ (fun k hk => setRow_other w g k _ hk)
    refine secs_put h.good hcap hm hsz ht hs 0 cs (by omega) (by simpa using hy) ?_
    rw [setRow_heap w g cur _ _ _ hg]; rfl
  · exact ⟨rfl, rfl, rfl, by simp [World.setRow], fun k _ hn => setRow_other w g k _ (fun e => hn (by rw [e]))⟩
/-- What a sector holds for good laid anew. -/
theorem store_dur {w : World} {F : Nat → Prop} {b mb g cap : Nat} {S : List Sec} {D : DataW Value} (h : DkAt w F b S (.slice (some ⟨g, 0, none⟩) S.length cap) mb D) {i : Nat} {s : Sec} (hs : S[i]? = some s) {c : List Nat} (hc : Con c) :
    ∃ w', (Instr.storeAt 75 (.pointer (some ⟨g, i * 129, none⟩)) (conV c)).run Try.prog w = .ok () w' ∧ DkAt w' F b (S.set i { s with dur := c }) (.slice (some ⟨g, 0, none⟩) S.length cap) mb D ∧ w.grownBy w' (some g) ∧ w'.heap.size = w.heap.size := by
  have hgs := h.good.2 s (List.mem_of_getElem? hs)
  have hl : (cellsB c).length = 128 := by rw [cellsB_length, hc.1]
  refine store_core h hs (s' := { s with dur := c }) rfl ⟨hc, hgs.2⟩ 75 (cellsB c) (cellsB_one c) (by rw [hl]; exact infoC) (by omega) ?_
  unfold secC
  rw [hl, List.drop_append_of_le_length (by rw [cellsB_length, hgs.1.1]; exact Nat.le_refl _), List.drop_of_length_le (by rw [cellsB_length, hgs.1.1]; exact Nat.le_refl _)]
  rfl
/-- A whole sector laid anew, but for what waits. -/
theorem store_sec {w : World} {F : Nat → Prop} {b mb g cap : Nat} {S : List Sec} {D : DataW Value} (h : DkAt w F b S (.slice (some ⟨g, 0, none⟩) S.length cap) mb D) {i : Nat} {s : Sec} (hs : S[i]? = some s) {c : List Nat} (hc : Con c) (on : Bool) (l : List (List Nat)) :
    ∃ w', (Instr.storeAt 93 (.pointer (some ⟨g, i * 129, none⟩)) (secV ⟨c, on, l⟩)).run Try.prog w = .ok () w' ∧ DkAt w' F b (S.set i ⟨c, on, s.wait⟩) (.slice (some ⟨g, 0, none⟩) S.length cap) mb D ∧ w.grownBy w' (some g) ∧ w'.heap.size = w.heap.size := by
  have hgs := h.good.2 s (List.mem_of_getElem? hs)
  have hl : (secC ⟨c, on, l⟩).length = 129 := secC_length hc
  refine store_core h hs (s' := ⟨c, on, s.wait⟩) rfl ⟨hc, hgs.2⟩ 93 (secC ⟨c, on, l⟩) (secC_one _) (by rw [hl]; exact infoS) (by omega) ?_
  rw [hl, List.drop_of_length_le (by rw [secC_length hgs.1]; exact Nat.le_refl _), List.append_nil]
  rfl

/-- Nothing waits. -/
def Sec.let (s : Sec) : Sec := { s with wait := [] }
theorem secsC_let (S : List Sec) : secsC (S.map Sec.let) = secsC S := by
  unfold secsC
  rw [List.flatMap_map]
  rfl
theorem wt_let (S : List Sec) (k : Int) : wt (S.map Sec.let) k = [] := by
  unfold wt
  split
  · rw [List.getElem?_map]
    cases S[k.toNat]? <;> rfl
  · rfl
/-- A new map in the place of the old one. -/
theorem reset_core {w : World} {F : Nat → Prop} {b mb : Nat} {S : List Sec} {v : Value} {D : DataW Value} (h : DkAt w F b S v mb D) :
    Dk ((w.alloc (.map #[] 0)).setCell ⟨b, 1, none⟩ (.map (some w.heap.size))) (ext F w ((w.alloc (.map #[] 0)).setCell ⟨b, 1, none⟩ (.map (some w.heap.size)))) b (S.map Sec.let) ∧ Turn F w ((w.alloc (.map #[] 0)).setCell ⟨b, 1, none⟩ (.map (some w.heap.size))) := by
  have h1 := h.below ((Below.refl _ w).alloc (Nat.le_refl _) (.map #[] 0))
  have hb := heap_lt h.blk
  have hm := World.ownsMap_made w Try.prog 3 rawE
  have hv : ∀ k, valAt (.map []) k = .slice none 0 0 := fun k => rfl
  have hbl : ∀ k, k ≠ b → ((w.alloc (.map #[] 0)).setCell ⟨b, 1, none⟩ (.map (some w.heap.size))).heap[k]? = (w.alloc (.map #[] 0)).heap[k]? := fun k hk => Below.heap_setCell _ _ _ _ hk
  refine ⟨⟨v, w.heap.size, .map [], two_set1 _ h1.blk, ?_, ?_, fun k _ => ?_, fun kl => ?_, fun k j _ _ _ => .inl (by rw [hv]; rfl), .inl h.inB, .inr ⟨Nat.le_refl _, by simp [World.setCell]⟩, fun g hg => .inl (h.inS g hg), fun k g _ hg => by rw [hv] at hg; simp [Value.ownBlock] at hg, ?_⟩, ⟨rfl, rfl, rfl, by simp [World.setCell], fun k hk hn => ?_⟩⟩
  · rw [List.length_map, secsC_let]
    refine ownsRow_of_block h1.secs fun g o hg ho => ?_
    obtain ⟨cur, hh⟩ := row_block h1.secs hg
    rw [hbl g (fun e => ?_)]
    · exact ho
    · have := h1.blk; rw [← e, hh] at this; simp at this
  · refine ownsMap_of_block hm fun o ho => ?_
    rw [hbl _ (by omega)]; exact ho
  · rw [hv, wt_let]; exact World.ownsRow_nil _ _ _ _
  · constructor
    · intro h; simp [Maps.has] at h
    · rintro ⟨i, s, -, h, h2⟩
      rw [List.getElem?_map] at h
      cases hq : S[i]? with
      | none => rw [hq] at h; cases h
      | some s0 => rw [hq] at h; cases h; exact absurd rfl h2
  · refine ⟨by rw [List.length_map]; exact h.good.1, fun s hs => ?_⟩
    obtain ⟨s0, h0, rfl⟩ := List.mem_map.1 hs
    exact ⟨(h.good.2 s0 h0).1, by simp [Sec.let]⟩
  · rw [hbl k (fun e => hn (by rw [e]; exact h.inB)), Below.heap_alloc _ _ _ hk]
end Go.Proofs.Ytliboiajhhnajaa
