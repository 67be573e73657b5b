import Derived.Test.YtliboiajhhnajaaGreatDoorM06
import Derived.Test.YtliboiajhhnajaaGreatDoorM05
/- A bank in memory: its devices and its power, and what stays of it while other memory turns. -/
namespace Go.Proofs.YtliboiajhhnajaaGreatDoor
open Go.RowKit Go.Extern

/-- A device: where its disk lies, and its sectors; or detached. -/
abbrev Dev := Option (Nat × List Sec)
def ptrV (d : Dev) : Value := .pointer (d.map fun p => ⟨p.1, 0, none⟩)
theorem ptrV_some (p : Nat) (S : List Sec) : ptrV (some (p, S)) = .pointer (some ⟨p, 0, none⟩) := rfl
theorem ptrV_none : ptrV none = .pointer none := rfl
/-- The power: how many are left, whether it is down, how many were done. -/
structure Pw where
  left : Int
  down : Bool
  done : Int
def bankC (v : Value) (q : Pw) : Array Value := #[v, .int .i64 q.left, .bool q.down, .int .i64 q.done]
structure BkAt (w : World) (F : Nat → Prop) (b : Nat) (D : List Dev) (q : Pw) (v : Value) (G : Nat → Nat → Prop) : Prop where
  blk : w.heap[b]? = some (.cells (bankC v q) 44 (0, 0))
  row : w.ownsRow 0 75 1 v D.length (D.map ptrV)
  dev : ∀ (i p : Nat) (S : List Sec), D[i]? = some (some (p, S)) → Dk w (G i) p S
  apart : ∀ i j k, i ≠ j → G i k → ¬ G j k
  inB : F b
  inV : ∀ g, v.ownBlock = some g → F g
  inG : ∀ i k, G i k → F k
  outB : ∀ i, ¬ G i b
  outV : ∀ g, v.ownBlock = some g → ∀ i, ¬ G i g
  lt : ∀ i k, G i k → k < w.heap.size
  few : D.length ≤ 8
def Bk (w : World) (F : Nat → Prop) (b : Nat) (D : List Dev) (q : Pw) : Prop := ∃ v G, BkAt w F b D q v G

/-- A cell of a row laid anew. -/
theorem ownsRow_set {w : World} {e : TypeId} {z g n cap : Nat} {xs : List Value} (h : w.ownsRow 0 e z (.slice (some ⟨g, 0, none⟩) n cap) n xs) (j : Nat) (u : Value) : (w.setCell ⟨g, j, none⟩ u).ownsRow 0 e z (.slice (some ⟨g, 0, none⟩) n cap) n (xs.set j u) := by
  obtain ⟨h1, h2⟩ := h
  refine ⟨by rw [List.length_set]; exact h1, ?_⟩
  rcases h2 with ⟨h, -⟩ | ⟨g', cap', cur, hv, hg, hh, hc, hm, hs, ht⟩
  · cases h
  · simp only [Value.slice.injEq, Option.some.injEq, Addr.mk.injEq, and_true, true_and] at hv
    obtain ⟨rfl, rfl⟩ := hv
    refine .inr ⟨g, cap, cur.setIfInBounds j u, rfl, hg, ?_, hc, hm, by simpa using hs, ?_⟩
    · rw [setCell_eq_setRow w g j _ _ _ _ hh]
      exact setRow_heap w g _ _ _ _ hh
    · rw [Array.toList_setIfInBounds, List.take_set, ht]

section
variable {w w' : World} {F : Nat → Prop} {b : Nat} {D : List Dev} {q q' : Pw} {v : Value} {G : Nat → Nat → Prop}
theorem BkAt.keep (h : BkAt w F b D q v G) (hs : w.heap.size ≤ w'.heap.size) (hk : ∀ k, F k → k < w.heap.size → w'.heap[k]? = w.heap[k]?) : BkAt w' F b D q v G :=
  ⟨by rw [hk b h.inB (heap_lt h.blk)]; exact h.blk, ownsRow_of_block h.row (fun k o hv ho => by rw [hk k (h.inV k hv) (heap_lt ho)]; exact ho),
   fun i p S hi => (h.dev i p S hi).of_blocks (fun k o hg ho => by rw [hk k (h.inG i k hg) (heap_lt ho)]; exact ho), h.apart, h.inB, h.inV, h.inG, h.outB, h.outV, fun i k hg => Nat.lt_of_lt_of_le (h.lt i k hg) hs, h.few⟩
theorem BkAt.below (h : BkAt w F b D q v G) (hb : Below w.heap.size w w') : BkAt w' F b D q v G := h.keep hb.size (fun k _ hk => hb.block k hk)
theorem BkAt.turn {H : Nat → Prop} (h : BkAt w F b D q v G) (ht : Turn H w w') (hd : ∀ k, F k → ¬ H k) : BkAt w' F b D q v G := h.keep ht.size (fun k hf hk => ht.block k hk (hd k hf))
theorem BkAt.mono {F' : Nat → Prop} (h : BkAt w F b D q v G) (hF : ∀ k, F k → F' k) : BkAt w F' b D q v G :=
  ⟨h.blk, h.row, h.dev, h.apart, hF _ h.inB, fun g hg => hF _ (h.inV g hg), fun i k hg => hF _ (h.inG i k hg), h.outB, h.outV, h.lt, h.few⟩
theorem Bk.below (h : Bk w F b D q) (hb : Below w.heap.size w w') : Bk w' F b D q := by obtain ⟨v, G, h⟩ := h; exact ⟨v, G, h.below hb⟩
theorem Bk.turn {H : Nat → Prop} (h : Bk w F b D q) (ht : Turn H w w') (hd : ∀ k, F k → ¬ H k) : Bk w' F b D q := by obtain ⟨v, G, h⟩ := h; exact ⟨v, G, h.turn ht hd⟩
theorem Bk.mono {F' : Nat → Prop} (h : Bk w F b D q) (hF : ∀ k, F k → F' k) : Bk w F' b D q := by obtain ⟨v, G, h⟩ := h; exact ⟨v, G, h.mono hF⟩
theorem Bk.few (h : Bk w F b D q) : D.length ≤ 8 := by obtain ⟨v, G, h⟩ := h; exact h.few
theorem BkAt.c0 (h : BkAt w F b D q v G) : w.cell? ⟨b, 0, none⟩ = some v := by rw [cell_of_row w b _ _ _ _ h.blk]; rfl
theorem BkAt.c1 (h : BkAt w F b D q v G) : w.cell? ⟨b, 1, none⟩ = some (.int .i64 q.left) := by rw [cell_of_row w b _ _ _ _ h.blk]; rfl
theorem BkAt.c2 (h : BkAt w F b D q v G) : w.cell? ⟨b, 2, none⟩ = some (.bool q.down) := by rw [cell_of_row w b _ _ _ _ h.blk]; rfl
theorem BkAt.c3 (h : BkAt w F b D q v G) : w.cell? ⟨b, 3, none⟩ = some (.int .i64 q.done) := by rw [cell_of_row w b _ _ _ _ h.blk]; rfl
theorem BkAt.form (h : BkAt w F b D q v G) : ∃ ao cap, v = .slice ao D.length cap := ownsRow_form h.row
theorem BkAt.at_ {ao : Option Addr} {n cap : Nat} (h : BkAt w F b D q (.slice ao n cap) G) {i : Nat} {d : Dev} (hi : D[i]? = some d) : ∃ g, ao = some ⟨g, 0, none⟩ ∧ n = D.length ∧ w.cell? ⟨g, i, none⟩ = some (ptrV d) ∧ w.frozen? ⟨g, i, none⟩ = false := by
  obtain ⟨g, cap', cur, e, hh, -⟩ := ownsRow_pos h.row (by have := (List.getElem?_eq_some_iff.1 hi).1; omega)
  cases e
  exact ⟨g, rfl, rfl, row_cell h.row (by rw [List.getElem?_map, hi]; rfl), row_frozen hh i⟩

/-- A device's disk has turned. -/
theorem BkAt.set (h : BkAt w F b D q v G) {i p : Nat} {S S' : List Sec} (hi : D[i]? = some (some (p, S))) (hd : Dk w' (ext (G i) w w') p S') (ht : Turn (G i) w w') :
    BkAt w' (ext F w w') b (D.set i (some (p, S'))) q v (fun j => if j = i then ext (G i) w w' else G j) ∧ Turn F w w' := by
  have hk : ∀ k, ¬ G i k → k < w.heap.size → w'.heap[k]? = w.heap[k]? := fun k hn hl => ht.block k hl hn
  have hmap : (D.set i (some (p, S'))).map ptrV = D.map ptrV := by
    refine List.ext_getElem? fun j => ?_
    rw [List.getElem?_map, List.getElem?_map]
    by_cases e : i = j
    · subst e
      rw [List.getElem?_set_self (List.getElem?_eq_some_iff.1 hi).1, hi]; rfl
    · rw [List.getElem?_set_ne e]
  refine ⟨⟨by rw [hk b (h.outB i) (heap_lt h.blk)]; exact h.blk, ?_, fun j p' S2 hj => ?_, fun j l k hjl hg => ?_, .inl h.inB, fun g hg => .inl (h.inV g hg), fun j k hg => ?_, fun j => ?_, fun g hg j => ?_, fun j k hg => ?_, by simpa using h.few⟩, ⟨ht.os, ht.tape, ht.output, ht.size, fun k hl hn => hk k (fun hg => hn (h.inG i k hg)) hl⟩⟩
  · rw [hmap, List.length_set]
    exact ownsRow_of_block h.row (fun k o hv ho => by rw [hk k (h.outV k hv i) (heap_lt ho)]; exact ho)
  · by_cases e : j = i
    · subst e
      rw [List.getElem?_set_self (List.getElem?_eq_some_iff.1 hi).1] at hj
      cases hj
      simpa using hd
    · rw [List.getElem?_set_ne (Ne.symm e)] at hj
      simp only [e, if_false]
      exact (h.dev j p' S2 hj).of_blocks (fun k o hg ho => by rw [hk k (h.apart j i k e hg) (heap_lt ho)]; exact ho)
  · by_cases e : j = i
    · subst e
      have e2 : l ≠ j := fun x => hjl x.symm
      simp only [if_true, e2, if_false] at hg ⊢
      rcases hg with hg | hg
      · exact h.apart j l k hjl hg
      · exact fun x => by have := h.lt l k x; omega
    · simp only [e, if_false] at hg
      by_cases e2 : l = i
      · subst e2
        simp only [if_true]
        rintro (x | x)
        · exact h.apart j l k hjl hg x
        · have := h.lt j k hg; omega
      · simp only [e2, if_false]
        exact h.apart j l k hjl hg
  · by_cases e : j = i
    · simp only [e, if_true] at hg
      rcases hg with hg | hg
      · exact .inl (h.inG i k hg)
      · exact .inr hg
    · simp only [e, if_false] at hg
      exact .inl (h.inG j k hg)
  · by_cases e : j = i
    · simp only [e, if_true]
      rintro (x | x)
      · exact h.outB i x
      · have := heap_lt h.blk; omega
    · simp only [e, if_false]
      exact h.outB j
  · by_cases e : j = i
    · simp only [e, if_true]
      rintro (x | x)
      · exact h.outV g hg i x
      · obtain ⟨cur, hh⟩ := row_block h.row hg
        have := heap_lt hh; omega
    · simp only [e, if_false]
      exact h.outV g hg j
  · by_cases e : j = i
    · simp only [e, if_true] at hg
      rcases hg with hg | hg
      · exact Nat.lt_of_lt_of_le (h.lt i k hg) ht.size
      · exact hg.2
    · simp only [e, if_false] at hg
      exact Nat.lt_of_lt_of_le (h.lt j k hg) ht.size

/-- What a change of the bank's own block leaves. -/
theorem BkAt.own (h : BkAt w F b D q v G) (hs : w'.heap.size = w.heap.size) (hk : ∀ k, k ≠ b → w'.heap[k]? = w.heap[k]?) (hb : w'.heap[b]? = some (.cells (bankC v q') 44 (0, 0))) : BkAt w' F b D q' v G := by
  have hvb : v.ownBlock ≠ some b := fun e => by
    obtain ⟨cur, hh⟩ := row_block h.row e
    have := h.blk
    rw [hh] at this
    simp at this
  exact ⟨hb, ownsRow_of_block h.row (fun k o hv ho => by rw [hk k (fun e => hvb (by rw [← e]; exact hv))]; exact ho),
    fun i p S hi => (h.dev i p S hi).of_blocks (fun k o hg ho => by rw [hk k (fun e => h.outB i (by rw [← e]; exact hg))]; exact ho), h.apart, h.inB, h.inV, h.inG, h.outB, h.outV, fun i k hg => by rw [hs]; exact h.lt i k hg, h.few⟩
theorem set_size (w : World) (a : Addr) (x : Value) : (w.setCell a x).heap.size = w.heap.size := by simp [World.setCell]
theorem set_turn {F : Nat → Prop} (w : World) (a : Addr) (x : Value) (h : F a.block) : Turn F w (w.setCell a x) :=
  ⟨rfl, rfl, rfl, by rw [set_size]; exact Nat.le_refl _, fun k _ hn => Below.heap_setCell _ _ _ _ (fun e => hn (by rw [e]; exact h))⟩
theorem BkAt.bset (h : BkAt w F b D q v G) (j : Nat) (x : Value) : (w.setCell ⟨b, j, none⟩ x).heap[b]? = some (.cells ((bankC v q).setIfInBounds j x) 44 (0, 0)) := by
  rw [setCell_eq_setRow w b j _ _ _ x h.blk]
  exact setRow_heap w b _ _ _ _ h.blk
theorem BkAt.setLeft (h : BkAt w F b D q v G) (n : Int) : BkAt (w.setCell ⟨b, 1, none⟩ (.int .i64 n)) F b D { q with left := n } v G :=
  h.own (set_size _ _ _) (fun k hk => Below.heap_setCell _ _ _ _ hk) (by rw [h.bset]; rfl)
theorem BkAt.setDown (h : BkAt w F b D q v G) (n : Bool) : BkAt (w.setCell ⟨b, 2, none⟩ (.bool n)) F b D { q with down := n } v G :=
  h.own (set_size _ _ _) (fun k hk => Below.heap_setCell _ _ _ _ hk) (by rw [h.bset]; rfl)
theorem BkAt.setDone (h : BkAt w F b D q v G) (n : Int) : BkAt (w.setCell ⟨b, 3, none⟩ (.int .i64 n)) F b D { q with done := n } v G :=
  h.own (set_size _ _ _) (fun k hk => Below.heap_setCell _ _ _ _ hk) (by rw [h.bset]; rfl)
theorem BkAt.frozen (h : BkAt w F b D q v G) (j : Nat) : w.frozen? ⟨b, j, none⟩ = false := row_frozen h.blk j
/-- A device is taken away. -/
theorem BkAt.gone {g n cap : Nat} (h : BkAt w F b D q (.slice (some ⟨g, 0, none⟩) n cap) G) (i : Nat) : BkAt (w.setCell ⟨g, i, none⟩ (.pointer none)) F b (D.set i none) q (.slice (some ⟨g, 0, none⟩) n cap) G := by
  have hn : n = D.length := by obtain ⟨ao, cap', e⟩ := h.form; cases e; rfl
  have hk : ∀ k, k ≠ g → (w.setCell ⟨g, i, none⟩ (.pointer none)).heap[k]? = w.heap[k]? := fun k hk => Below.heap_setCell _ _ _ _ hk
  have hgb : b ≠ g := fun e => by
    obtain ⟨cur, hh⟩ := row_block h.row (g := g) rfl
    have := h.blk
    rw [e, hh] at this
    simp at this
  refine ⟨by rw [hk b hgb]; exact h.blk, ?_, fun j p S hj => ?_, h.apart, h.inB, h.inV, h.inG, h.outB, h.outV, fun j k hg => by rw [set_size]; exact h.lt j k hg, by simpa using h.few⟩
  · subst hn
    rw [List.map_set, List.length_set]
    exact ownsRow_set h.row i _
  · have hj' : D[j]? = some (some (p, S)) := by
      by_cases e : i = j
      · subst e
        by_cases hl : i < D.length
        · rw [List.getElem?_set_self hl] at hj; cases hj
        · rw [List.getElem?_eq_none (by simpa using hl)] at hj; cases hj
      · rw [List.getElem?_set_ne e] at hj; exact hj
    exact (h.dev j p S hj').of_blocks (fun k o hg ho => by rw [hk k (fun e => h.outV g rfl j (by rw [← e]; exact hg))]; exact ho)
end
end Go.Proofs.YtliboiajhhnajaaGreatDoor

/- A sector laid anew in place; all that waits let go. -/
namespace Go.Proofs.YtliboiajhhnajaaGreatDoor
open Go.RowKit Go.Extern

/-- Cells laid into a row. -/
def laidRow (cur : Array Value) (o : Nat) (cs : List Value) : Array Value := (cur.toList.take o ++ cs ++ cur.toList.drop (o + cs.length)).toArray
theorem run_storeMid {w : World} {g o : Nat} {cur : Array Value} {t T : TypeId} (cs : List Value) (h : w.heap[g]? = some (.cells cur t (0, 0))) (hf : o + cs.length ≤ cur.size) (h1 : ∀ v ∈ cs, v.oneCell' = true) (hi : (Tryz.prog.info? T).map (·.size) = some cs.length) :
    (Instr.storeAt T (.pointer (some ⟨g, o, none⟩)) (.agg cs.toArray)).run Tryz.prog w = .ok () (w.setRow g (laidRow cur o cs)) := by
  have hst := run_storeCells_at Tryz.prog g o t cs 0 cur w h (by omega) h1
  simp only [Nat.add_zero] at hst
  obtain ⟨i, hq, hs⟩ := Option.map_eq_some_iff.1 hi
  simp only [Instr.storeAt, Instr.sureAddr, Sem.run_bind, Sem.run_pure, Result.andThen_ok]
  simp [storeVar, sizeOf, typeInfo, hq, Value.cells, hs, hst, laidRow]
theorem setRow_turn {w : World} {g : Nat} (F : Nat → Prop) (hF : F g) (cs : Array Value) : Turn F w (w.setRow g cs) :=
  ⟨rfl, rfl, rfl, by simp [World.setRow], fun k _ hn => setRow_other w g k _ (fun e => hn (by rw [e]; exact hF))⟩

/-- Cells of one sector laid anew. -/
theorem store_core {w : World} {F : Nat → Prop} {b mb g cap : Nat} {S : List Sec} {D : DataW Value} (h : DkAt w F b S (.slice (some ⟨g, 0, none⟩) S.length cap) mb D) {i : Nat} {s s' : Sec} (hs : S[i]? = some s) (hw : s'.wait = s.wait) (hg' : GoodSec s') (T : TypeId) (cs : List Value) (h1 : ∀ v ∈ cs, v.oneCell' = true) (hi : (Tryz.prog.info? T).map (·.size) = some cs.length)
    (hl : cs.length ≤ 129) (hy : secC s' = cs ++ (secC s).drop cs.length) :
    ∃ w', (Instr.storeAt T (.pointer (some ⟨g, i * 129, none⟩)) (.agg cs.toArray)).run Tryz.prog w = .ok () w' ∧ DkAt w' F b (S.set i s') (.slice (some ⟨g, 0, none⟩) S.length cap) mb D ∧ w.grownBy w' (some g) ∧ w'.heap.size = w.heap.size := by
  obtain ⟨g', cap', cur, e, hg, hcap, hm, hsz, ht, -⟩ := ownsRow_pos h.secs (len_pos hs)
  simp only [Value.slice.injEq, Option.some.injEq, Addr.mk.injEq, and_true, true_and] at e
  obtain ⟨rfl, rfl⟩ := e
  have hk := (List.getElem?_eq_some_iff.1 hs).1
  have hmul : i * 129 + 129 ≤ cap * 129 := by have := Nat.mul_le_mul_right 129 (Nat.le_trans (Nat.succ_le_of_lt hk) hcap); omega
  refine ⟨_, run_storeMid cs hg (by rw [hsz]; omega) h1 hi, ?_, ?_, by simp [World.setRow]⟩
  · refine h.put hs hw hg' ?_ (fun k hk => setRow_other w g k _ hk)
    refine secs_put h.good hcap hm hsz ht hs 0 cs (by omega) (by simpa using hy) ?_
    rw [setRow_heap w g cur _ _ _ hg]; rfl
  · exact ⟨rfl, rfl, rfl, by simp [World.setRow], fun k _ hn => setRow_other w g k _ (fun e => hn (by rw [e]))⟩
/-- What a sector holds for good laid anew. -/
theorem store_dur {w : World} {F : Nat → Prop} {b mb g cap : Nat} {S : List Sec} {D : DataW Value} (h : DkAt w F b S (.slice (some ⟨g, 0, none⟩) S.length cap) mb D) {i : Nat} {s : Sec} (hs : S[i]? = some s) {c : List Nat} (hc : Con c) :
    ∃ w', (Instr.storeAt 112 (.pointer (some ⟨g, i * 129, none⟩)) (conV c)).run Tryz.prog w = .ok () w' ∧ DkAt w' F b (S.set i { s with dur := c }) (.slice (some ⟨g, 0, none⟩) S.length cap) mb D ∧ w.grownBy w' (some g) ∧ w'.heap.size = w.heap.size := by
  have hgs := h.good.2 s (List.mem_of_getElem? hs)
  have hl : (cellsB c).length = 128 := by rw [cellsB_length, hc.1]
  refine store_core h hs (s' := { s with dur := c }) rfl ⟨hc, hgs.2⟩ 112 (cellsB c) (cellsB_one c) (by rw [hl]; exact infoC) (by omega) ?_
  unfold secC
  rw [hl, List.drop_append_of_le_length (by rw [cellsB_length, hgs.1.1]; exact Nat.le_refl _), List.drop_of_length_le (by rw [cellsB_length, hgs.1.1]; exact Nat.le_refl _)]
  rfl
/-- A whole sector laid anew, but for what waits. -/
theorem store_sec {w : World} {F : Nat → Prop} {b mb g cap : Nat} {S : List Sec} {D : DataW Value} (h : DkAt w F b S (.slice (some ⟨g, 0, none⟩) S.length cap) mb D) {i : Nat} {s : Sec} (hs : S[i]? = some s) {c : List Nat} (hc : Con c) (on : Bool) (l : List (List Nat)) :
    ∃ w', (Instr.storeAt 114 (.pointer (some ⟨g, i * 129, none⟩)) (secV ⟨c, on, l⟩)).run Tryz.prog w = .ok () w' ∧ DkAt w' F b (S.set i ⟨c, on, s.wait⟩) (.slice (some ⟨g, 0, none⟩) S.length cap) mb D ∧ w.grownBy w' (some g) ∧ w'.heap.size = w.heap.size := by
  have hgs := h.good.2 s (List.mem_of_getElem? hs)
  have hl : (secC ⟨c, on, l⟩).length = 129 := secC_length hc
  refine store_core h hs (s' := ⟨c, on, s.wait⟩) rfl ⟨hc, hgs.2⟩ 114 (secC ⟨c, on, l⟩) (secC_one _) (by rw [hl]; exact infoS) (by omega) ?_
  rw [hl, List.drop_of_length_le (by rw [secC_length hgs.1]; exact Nat.le_refl _), List.append_nil]
  rfl

/-- Nothing waits. -/
def Sec.let (s : Sec) : Sec := { s with wait := [] }
theorem secsC_let (S : List Sec) : secsC (S.map Sec.let) = secsC S := by
  unfold secsC
  rw [List.flatMap_map]
  rfl
theorem wt_let (S : List Sec) (k : Int) : wt (S.map Sec.let) k = [] := by
  unfold wt
  split
  · rw [List.getElem?_map]
    cases S[k.toNat]? <;> rfl
  · rfl
/-- A new map in the place of the old one. -/
theorem reset_core {w : World} {F : Nat → Prop} {b mb : Nat} {S : List Sec} {v : Value} {D : DataW Value} (h : DkAt w F b S v mb D) :
    Dk ((w.alloc (.map #[] 0)).setCell ⟨b, 1, none⟩ (.map (some w.heap.size))) (ext F w ((w.alloc (.map #[] 0)).setCell ⟨b, 1, none⟩ (.map (some w.heap.size)))) b (S.map Sec.let) ∧ Turn F w ((w.alloc (.map #[] 0)).setCell ⟨b, 1, none⟩ (.map (some w.heap.size))) := by
  have h1 := h.below ((Below.refl _ w).alloc (Nat.le_refl _) (.map #[] 0))
  have hb := heap_lt h.blk
  have hm := World.ownsMap_made w Tryz.prog 3 rawE
  have hv : ∀ k, valAt (.map []) k = .slice none 0 0 := fun k => rfl
  have hbl : ∀ k, k ≠ b → ((w.alloc (.map #[] 0)).setCell ⟨b, 1, none⟩ (.map (some w.heap.size))).heap[k]? = (w.alloc (.map #[] 0)).heap[k]? := fun k hk => Below.heap_setCell _ _ _ _ hk
  refine ⟨⟨v, w.heap.size, .map [], two_set1 _ h1.blk, ?_, ?_, fun k _ => ?_, fun kl => ?_, fun k j _ _ _ => .inl (by rw [hv]; rfl), .inl h.inB, .inr ⟨Nat.le_refl _, by simp [World.setCell]⟩, fun g hg => .inl (h.inS g hg), fun k g _ hg => by rw [hv] at hg; simp [Value.ownBlock] at hg, ?_⟩, ⟨rfl, rfl, rfl, by simp [World.setCell], fun k hk hn => ?_⟩⟩
  · rw [List.length_map, secsC_let]
    refine ownsRow_of_block h1.secs fun g o hg ho => ?_
    obtain ⟨cur, hh⟩ := row_block h1.secs hg
    rw [hbl g (fun e => ?_)]
    · exact ho
    · have := h1.blk; rw [← e, hh] at this; simp at this
  · refine ownsMap_of_block hm fun o ho => ?_
    rw [hbl _ (by omega)]; exact ho
  · rw [hv, wt_let]; exact World.ownsRow_nil _ _ _ _
  · constructor
    · intro h; simp [Maps.has] at h
    · rintro ⟨i, s, -, h, h2⟩
      rw [List.getElem?_map] at h
      cases hq : S[i]? with
      | none => rw [hq] at h; cases h
      | some s0 => rw [hq] at h; cases h; exact absurd rfl h2
  · refine ⟨by rw [List.length_map]; exact h.good.1, fun s hs => ?_⟩
    obtain ⟨s0, h0, rfl⟩ := List.mem_map.1 hs
    exact ⟨(h.good.2 s0 h0).1, by simp [Sec.let]⟩
  · rw [hbl k (fun e => hn (by rw [e]; exact h.inB)), Below.heap_alloc _ _ _ hk]
end Go.Proofs.YtliboiajhhnajaaGreatDoor
