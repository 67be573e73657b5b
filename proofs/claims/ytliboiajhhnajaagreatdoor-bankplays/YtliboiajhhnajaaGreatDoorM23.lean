import Derived.Test.YtliboiajhhnajaaGreatDoorM11
import Derived.Test.YtliboiajhhnajaaGreatDoorM22
import Derived.Test.YtliboiajhhnajaaGreatDoorM08
/- The document's own bank in memory. -/
namespace Go.Proofs.YtliboiajhhnajaaGreatDoor
open Go.RowKit Go.Extern

theorem Rk.of_blocks {w w' : World} {G : Nat → Prop} {b : Nat} {S : List Sec} (h : Rk w G b S) (hk : ∀ k o, G k → w.heap[k]? = some o → w'.heap[k]? = some o) : Rk w' G b S :=
  h.keep (fun k hg hl => by
    obtain ⟨o, ho⟩ : ∃ o, w.heap[k]? = some o := ⟨w.heap[k], by simp [hl]⟩
    rw [hk k o hg ho, ho])
structure RBkAt (w : World) (F : Nat → Prop) (b : Nat) (D : List Dev) (q : Pw) (v : Value) (G : Nat → Nat → Prop) : Prop where
  blk : w.heap[b]? = some (.cells (bankC v q) 36 (0, 0))
  row : w.ownsRow 0 37 1 v D.length (D.map ptrV)
  dev : ∀ (i p : Nat) (S : List Sec), D[i]? = some (some (p, S)) → Rk w (G i) p S
  apart : ∀ i j k, i ≠ j → G i k → ¬ G j k
  inB : F b
  inV : ∀ g, v.ownBlock = some g → F g
  inG : ∀ i k, G i k → F k
  outB : ∀ i, ¬ G i b
  outV : ∀ g, v.ownBlock = some g → ∀ i, ¬ G i g
  lt : ∀ i k, G i k → k < w.heap.size
  few : D.length ≤ 8
def RBk (w : World) (F : Nat → Prop) (b : Nat) (D : List Dev) (q : Pw) : Prop := ∃ v G, RBkAt w F b D q v G

section
variable {w w' : World} {F : Nat → Prop} {b : Nat} {D : List Dev} {q q' : Pw} {v : Value} {G : Nat → Nat → Prop}
theorem RBkAt.keep (h : RBkAt w F b D q v G) (hs : w.heap.size ≤ w'.heap.size) (hk : ∀ k, F k → k < w.heap.size → w'.heap[k]? = w.heap[k]?) : RBkAt w' F b D q v G :=
  ⟨by rw [hk b h.inB (heap_lt h.blk)]; exact h.blk, ownsRow_of_block h.row (fun k o hv ho => by rw [hk k (h.inV k hv) (heap_lt ho)]; exact ho),
   fun i p S hi => (h.dev i p S hi).of_blocks (fun k o hg ho => by rw [hk k (h.inG i k hg) (heap_lt ho)]; exact ho), h.apart, h.inB, h.inV, h.inG, h.outB, h.outV, fun i k hg => Nat.lt_of_lt_of_le (h.lt i k hg) hs, h.few⟩
theorem RBkAt.below (h : RBkAt w F b D q v G) (hb : Below w.heap.size w w') : RBkAt w' F b D q v G := h.keep hb.size (fun k _ hk => hb.block k hk)
theorem RBkAt.turn {H : Nat → Prop} (h : RBkAt w F b D q v G) (ht : Turn H w w') (hd : ∀ k, F k → ¬ H k) : RBkAt w' F b D q v G := h.keep ht.size (fun k hf hk => ht.block k hk (hd k hf))
theorem RBkAt.mono {F' : Nat → Prop} (h : RBkAt w F b D q v G) (hF : ∀ k, F k → F' k) : RBkAt w F' b D q v G :=
  ⟨h.blk, h.row, h.dev, h.apart, hF _ h.inB, fun g hg => hF _ (h.inV g hg), fun i k hg => hF _ (h.inG i k hg), h.outB, h.outV, h.lt, h.few⟩
theorem RBk.below (h : RBk w F b D q) (hb : Below w.heap.size w w') : RBk w' F b D q := by obtain ⟨v, G, h⟩ := h; exact ⟨v, G, h.below hb⟩
theorem RBk.turn {H : Nat → Prop} (h : RBk w F b D q) (ht : Turn H w w') (hd : ∀ k, F k → ¬ H k) : RBk w' F b D q := by obtain ⟨v, G, h⟩ := h; exact ⟨v, G, h.turn ht hd⟩
theorem RBk.mono {F' : Nat → Prop} (h : RBk w F b D q) (hF : ∀ k, F k → F' k) : RBk w F' b D q := by obtain ⟨v, G, h⟩ := h; exact ⟨v, G, h.mono hF⟩
theorem RBk.few (h : RBk w F b D q) : D.length ≤ 8 := by obtain ⟨v, G, h⟩ := h; exact h.few
theorem RBkAt.c0 (h : RBkAt w F b D q v G) : w.cell? ⟨b, 0, none⟩ = some v := by rw [cell_of_row w b _ _ _ _ h.blk]; rfl
theorem RBkAt.c1 (h : RBkAt w F b D q v G) : w.cell? ⟨b, 1, none⟩ = some (.int .i64 q.left) := by rw [cell_of_row w b _ _ _ _ h.blk]; rfl
theorem RBkAt.c2 (h : RBkAt w F b D q v G) : w.cell? ⟨b, 2, none⟩ = some (.bool q.down) := by rw [cell_of_row w b _ _ _ _ h.blk]; rfl
theorem RBkAt.c3 (h : RBkAt w F b D q v G) : w.cell? ⟨b, 3, none⟩ = some (.int .i64 q.done) := by rw [cell_of_row w b _ _ _ _ h.blk]; rfl
theorem RBkAt.form (h : RBkAt w F b D q v G) : ∃ ao cap, v = .slice ao D.length cap := ownsRow_form h.row
theorem RBkAt.at_ {ao : Option Addr} {n cap : Nat} (h : RBkAt w F b D q (.slice ao n cap) G) {i : Nat} {d : Dev} (hi : D[i]? = some d) : ∃ g, ao = some ⟨g, 0, none⟩ ∧ n = D.length ∧ w.cell? ⟨g, i, none⟩ = some (ptrV d) ∧ w.frozen? ⟨g, i, none⟩ = false := by
  obtain ⟨g, cap', cur, e, hh, -⟩ := ownsRow_pos h.row (by have := (List.getElem?_eq_some_iff.1 hi).1; omega)
  cases e
  exact ⟨g, rfl, rfl, row_cell h.row (by rw [List.getElem?_map, hi]; rfl), row_frozen hh i⟩

/-- A device's disk has turned. -/
theorem RBkAt.set (h : RBkAt w F b D q v G) {i p : Nat} {S S' : List Sec} (hi : D[i]? = some (some (p, S))) (hd : Rk w' (ext (G i) w w') p S') (ht : Turn (G i) w w') :
    RBkAt w' (ext F w w') b (D.set i (some (p, S'))) q v (fun j => if j = i then ext (G i) w w' else G j) ∧ Turn F w w' := by
  have hk : ∀ k, ¬ G i k → k < w.heap.size → w'.heap[k]? = w.heap[k]? := fun k hn hl => ht.block k hl hn
  have hmap : (D.set i (some (p, S'))).map ptrV = D.map ptrV := by
    refine List.ext_getElem? fun j => ?_
    rw [List.getElem?_map, List.getElem?_map]
    by_cases e : i = j
    · subst e
      rw [List.getElem?_set_self (List.getElem?_eq_some_iff.1 hi).1, hi]; rfl
    · rw [List.getElem?_set_ne e]
  refine ⟨⟨by rw [hk b (h.outB i) (heap_lt h.blk)]; exact h.blk, ?_, fun j p' S2 hj => ?_, fun j l k hjl hg => ?_, .inl h.inB, fun g hg => .inl (h.inV g hg), fun j k hg => ?_, fun j => ?_, fun g hg j => ?_, fun j k hg => ?_, by simpa using h.few⟩, ⟨ht.os, ht.tape, ht.output, ht.size, fun k hl hn => hk k (fun hg => hn (h.inG i k hg)) hl⟩⟩
  · rw [hmap, List.length_set]
    exact ownsRow_of_block h.row (fun k o hv ho => by rw [hk k (h.outV k hv i) (heap_lt ho)]; exact ho)
  · by_cases e : j = i
    · subst e
      rw [List.getElem?_set_self (List.getElem?_eq_some_iff.1 hi).1] at hj
      cases hj
      simpa using hd
    · rw [List.getElem?_set_ne (Ne.symm e)] at hj
      simp only [e, if_false]
      exact (h.dev j p' S2 hj).of_blocks (fun k o hg ho => by rw [hk k (h.apart j i k e hg) (heap_lt ho)]; exact ho)
  · by_cases e : j = i
    · subst e
      have e2 : l ≠ j := fun x => hjl x.symm
      simp only [if_true, e2, if_false] at hg ⊢
      rcases hg with hg | hg
      · exact h.apart j l k hjl hg
      · exact fun x => by have := h.lt l k x; omega
    · simp only [e, if_false] at hg
      by_cases e2 : l = i
      · subst e2
        simp only [if_true]
        rintro (x | x)
        · exact h.apart j l k hjl hg x
        · have := h.lt j k hg; omega
      · simp only [e2, if_false]
        exact h.apart j l k hjl hg
  · by_cases e : j = i
    · simp only [e, if_true] at hg
      rcases hg with hg | hg
      · exact .inl (h.inG i k hg)
      · exact .inr hg
    · simp only [e, if_false] at hg
      exact .inl (h.inG j k hg)
  · by_cases e : j = i
    · simp only [e, if_true]
      rintro (x | x)
      · exact h.outB i x
      · have := heap_lt h.blk; omega
    · simp only [e, if_false]
      exact h.outB j
  · by_cases e : j = i
    · simp only [e, if_true]
      rintro (x | x)
      · exact h.outV g hg i x
      · obtain ⟨cur, hh⟩ := row_block h.row hg
        have := heap_lt hh; omega
    · simp only [e, if_false]
      exact h.outV g hg j
  · by_cases e : j = i
    · simp only [e, if_true] at hg
      rcases hg with hg | hg
      · exact Nat.lt_of_lt_of_le (h.lt i k hg) ht.size
      · exact hg.2
    · simp only [e, if_false] at hg
      exact Nat.lt_of_lt_of_le (h.lt j k hg) ht.size

/-- What a change of the bank's own block leaves. -/
theorem RBkAt.own (h : RBkAt w F b D q v G) (hs : w'.heap.size = w.heap.size) (hk : ∀ k, k ≠ b → w'.heap[k]? = w.heap[k]?) (hb : w'.heap[b]? = some (.cells (bankC v q') 36 (0, 0))) : RBkAt w' F b D q' v G := by
  have hvb : v.ownBlock ≠ some b := fun e => by
    obtain ⟨cur, hh⟩ := row_block h.row e
    have := h.blk
    rw [hh] at this
    simp at this
  exact ⟨hb, ownsRow_of_block h.row (fun k o hv ho => by rw [hk k (fun e => hvb (by rw [← e]; exact hv))]; exact ho),
    fun i p S hi => (h.dev i p S hi).of_blocks (fun k o hg ho => by rw [hk k (fun e => h.outB i (by rw [← e]; exact hg))]; exact ho), h.apart, h.inB, h.inV, h.inG, h.outB, h.outV, fun i k hg => by rw [hs]; exact h.lt i k hg, h.few⟩
theorem RBkAt.bset (h : RBkAt w F b D q v G) (j : Nat) (x : Value) : (w.setCell ⟨b, j, none⟩ x).heap[b]? = some (.cells ((bankC v q).setIfInBounds j x) 36 (0, 0)) := by
  rw [setCell_eq_setRow w b j _ _ _ x h.blk]
  exact setRow_heap w b _ _ _ _ h.blk
theorem RBkAt.setLeft (h : RBkAt w F b D q v G) (n : Int) : RBkAt (w.setCell ⟨b, 1, none⟩ (.int .i64 n)) F b D { q with left := n } v G :=
  h.own (set_size _ _ _) (fun k hk => Below.heap_setCell _ _ _ _ hk) (by rw [h.bset]; rfl)
theorem RBkAt.setDown (h : RBkAt w F b D q v G) (n : Bool) : RBkAt (w.setCell ⟨b, 2, none⟩ (.bool n)) F b D { q with down := n } v G :=
  h.own (set_size _ _ _) (fun k hk => Below.heap_setCell _ _ _ _ hk) (by rw [h.bset]; rfl)
theorem RBkAt.setDone (h : RBkAt w F b D q v G) (n : Int) : RBkAt (w.setCell ⟨b, 3, none⟩ (.int .i64 n)) F b D { q with done := n } v G :=
  h.own (set_size _ _ _) (fun k hk => Below.heap_setCell _ _ _ _ hk) (by rw [h.bset]; rfl)
theorem RBkAt.frozen (h : RBkAt w F b D q v G) (j : Nat) : w.frozen? ⟨b, j, none⟩ = false := row_frozen h.blk j
/-- A device is taken away. -/
theorem RBkAt.gone {g n cap : Nat} (h : RBkAt w F b D q (.slice (some ⟨g, 0, none⟩) n cap) G) (i : Nat) : RBkAt (w.setCell ⟨g, i, none⟩ (.pointer none)) F b (D.set i none) q (.slice (some ⟨g, 0, none⟩) n cap) G := by
  have hn : n = D.length := by obtain ⟨ao, cap', e⟩ := h.form; cases e; rfl
  have hk : ∀ k, k ≠ g → (w.setCell ⟨g, i, none⟩ (.pointer none)).heap[k]? = w.heap[k]? := fun k hk => Below.heap_setCell _ _ _ _ hk
  have hgb : b ≠ g := fun e => by
    obtain ⟨cur, hh⟩ := row_block h.row (g := g) rfl
    have := h.blk
    rw [e, hh] at this
    simp at this
  refine ⟨by rw [hk b hgb]; exact h.blk, ?_, fun j p S hj => ?_, h.apart, h.inB, h.inV, h.inG, h.outB, h.outV, fun j k hg => by rw [set_size]; exact h.lt j k hg, by simpa using h.few⟩
  · subst hn
    rw [List.map_set, List.length_set]
    exact ownsRow_set h.row i _
  · have hj' : D[j]? = some (some (p, S)) := by
      by_cases e : i = j
      · subst e
        by_cases hl : i < D.length
        · rw [List.getElem?_set_self hl] at hj; cases hj
        · rw [List.getElem?_eq_none (by simpa using hl)] at hj; cases hj
      · rw [List.getElem?_set_ne e] at hj; exact hj
    exact (h.dev j p S hj').of_blocks (fun k o hg ho => by rw [hk k (fun e => h.outV g rfl j (by rw [← e]; exact hg))]; exact ho)
end
end Go.Proofs.YtliboiajhhnajaaGreatDoor

/- find, powered, spend, takes, Arm, Down, Done by their contracts. -/
namespace Go.Proofs.YtliboiajhhnajaaGreatDoor
open Go.RowKit Go.Extern

/-- A fault whose block is newer than 'B'. -/
structure FErrN (B : Nat) (w : World) (u : Value) (c : Int) (op : ByteArray) (d p : Int) : Prop where
  e : FErr w u c op d p
  new : ∀ k, u = .iface 98 (.pointer (some ⟨k, 0, none⟩)) → B ≤ k
theorem FErrN.zero {B : Nat} {w : World} {u : Value} {op : ByteArray} {d p : Int} (h : FErrN B w u 0 op d p) : u = .nilIface := h.e.zero
theorem FErrN.at_ {B : Nat} {w : World} {u : Value} {c : Int} {op : ByteArray} {d p : Int} (h : FErrN B w u c op d p) (hc : c ≠ 0) : ∃ b, u = .iface 98 (.pointer (some ⟨b, 0, none⟩)) ∧ w.heap[b]? = some (.cells #[.string op, .int .i64 d, .int .i64 p, .iface 85 (.int .i64 c)] 100 (0, 0)) := h.e.at_ hc
/-- Bytes of no length have no block that matters. -/
theorem Bytes.turnB {w w' : World} {F : Nat → Prop} {v : Value} {bs : List Nat} (h : Bytes w v bs) (ht : Turn F w w') (hv : 0 < bs.length → ∀ k, v.ownBlock = some k → ¬ F k) : Bytes w' v bs := by
  obtain ⟨ao, cap, g, off, rfl, h2, h3, h4⟩ := h
  refine ⟨ao, cap, g, off, rfl, h2, fun i q hq => ?_, h4⟩
  have hp : 0 < bs.length := by
    rcases Nat.eq_zero_or_pos bs.length with e | e
    · rw [List.length_eq_zero_iff.1 e] at hq; cases hq
    · exact e
  obtain rfl := h2 hp
  have hc := h3 i q hq
  rw [World.cell?_of_block (w := w) (ht.block g (cell_lt hc) (hv hp g rfl))]; exact hc
/-- The error's number of a device, whatever the power; 0: it is there. -/
def lookC (D : List Dev) (i : Int) : Int := if 0 ≤ i ∧ i < (D.length : Int) then (match D[i.toNat]? with | some (some _) => 0 | _ => 25) else 23
def findV (D : List Dev) (i : Int) : Value := if lookC D i = 0 then (match D[i.toNat]? with | some d => ptrV d | none => .pointer none) else .pointer none
theorem lookC_at {D : List Dev} {k p : Nat} {S : List Sec} (h : D[k]? = some (some (p, S))) : lookC D (k : Int) = 0 ∧ findV D (k : Int) = .pointer (some ⟨p, 0, none⟩) := by
  have hl := (List.getElem?_eq_some_iff.1 h).1
  have h1 : lookC D (k : Int) = 0 := by
    unfold lookC
    rw [if_pos ⟨by omega, by omega⟩, Int.toNat_natCast, h]
  refine ⟨h1, ?_⟩
  unfold findV
  rw [if_pos h1, Int.toNat_natCast, h]; rfl
theorem lookC_zero {D : List Dev} {i : Int} (h : lookC D i = 0) : ∃ k p S, i = ((k : Nat) : Int) ∧ D[k]? = some (some (p, S)) := by
  unfold lookC at h
  split at h
  · rename_i hi
    split at h
    · rename_i d hd
      exact ⟨i.toNat, d.1, d.2, by omega, hd⟩
    · omega
  · omega
theorem lookC_pos (D : List Dev) (i : Int) : lookC D i = 0 ∨ lookC D i = 23 ∨ lookC D i = 25 := by
  unfold lookC
  split
  · split <;> simp
  · simp
theorem findV_form (D : List Dev) (i : Int) : ∃ a, findV D i = .pointer a := by
  unfold findV
  split
  · split
    · exact ⟨_, rfl⟩
    · exact ⟨_, rfl⟩
  · exact ⟨_, rfl⟩
theorem errV_20' : errV 20 = .iface 85 (.int .i64 20) := rfl
theorem errV_23 : errV 23 = .iface 85 (.int .i64 23) := rfl
theorem errV_25 : errV 25 = .iface 85 (.int .i64 25) := rfl
theorem errV_22 : errV 22 = .iface 85 (.int .i64 22) := rfl

set_option maxRecDepth 100000 in
set_option maxHeartbeats 1000000 in
theorem find_any {w : World} {F : Nat → Prop} {b : Nat} {D : List Dev} {q : Pw} (h : Bk w F b D q) (i : Int) :
    Calls Tryz.prog 62 #[.pointer (some ⟨b, 0, none⟩), .int .i64 i] w fun e w' => e = .returned (.tuple #[findV D i, errV (lookC D i)]) ∧ w' = w := by
  obtain ⟨v, G, h⟩ := h
  have c0 := h.c0
  by_cases h0 : i < 0
  · have hd : decide (i < 0) = true := by simpa using h0
    have HE : Hid (lookC D i = 23 ∧ findV D i = .pointer none) := by
      have : lookC D i = 23 := by unfold lookC; rw [if_neg (by omega)]
      exact ⟨this, by unfold findV; rw [if_neg (by omega)]⟩
    obtain ⟨ao, cap, rfl⟩ := h.form
    clear h h0
    go_enter Tryz.func62, Tryz.ntmps62
    go_wp2
    go_ret2
    exact ⟨by rw [HE.out.1, HE.out.2]; rfl, rfl⟩
  · have hd : decide (i < 0) = false := by simpa using h0
    by_cases h1 : (D.length : Int) ≤ i
    · have hd2 : decide ((D.length : Int) ≤ i) = true := by simpa using h1
      have HE : Hid (lookC D i = 23 ∧ findV D i = .pointer none) := by
        have : lookC D i = 23 := by unfold lookC; rw [if_neg (by omega)]
        exact ⟨this, by unfold findV; rw [if_neg (by omega)]⟩
      obtain ⟨ao, cap, rfl⟩ := h.form
      clear h h0 h1
      go_enter Tryz.func62, Tryz.ntmps62
      go_wp2
      go_ret2
      exact ⟨by rw [HE.out.1, HE.out.2]; rfl, rfl⟩
    · have hd2 : decide ((D.length : Int) ≤ i) = false := by simpa using h1
      obtain ⟨k, rfl⟩ : ∃ k : Nat, i = (k : Int) := ⟨i.toNat, by omega⟩
      obtain ⟨d, hk⟩ : ∃ d, D[k]? = some d := ⟨D[k]'(by omega), by simp⟩
      obtain ⟨ao, cap, rfl⟩ := h.form
      obtain ⟨g, rfl, -, ck, -⟩ := h.at_ hk
      have hlt : (k : Int) < (D.length : Int) := by omega
      have hge : (0 : Int) ≤ (k : Int) := by omega
      cases d with
      | none =>
        rw [ptrV_none] at ck
        have HE : Hid (lookC D (k : Int) = 25 ∧ findV D (k : Int) = .pointer none) := by
          have : lookC D (k : Int) = 25 := by unfold lookC; rw [if_pos ⟨hge, hlt⟩, Int.toNat_natCast, hk]
          exact ⟨this, by unfold findV; rw [if_neg (by omega)]⟩
        clear h h0 h1 hk
        go_enter Tryz.func62, Tryz.ntmps62
        go_wp2
        go_ret2
        exact ⟨by rw [HE.out.1, HE.out.2]; rfl, rfl⟩
      | some d =>
        obtain ⟨p, S⟩ := d
        rw [ptrV_some] at ck
        have HE := hide (lookC_at hk)
        clear h h0 h1 hk
        go_enter Tryz.func62, Tryz.ntmps62
        go_wp2
        go_ret2
        exact ⟨by rw [HE.out.1, HE.out.2]; rfl, rfl⟩

/-- The same for a call that needs the power. -/
def lookP (D : List Dev) (q : Pw) (i : Int) : Int := if q.down then 22 else lookC D i
def poweredV (D : List Dev) (q : Pw) (i : Int) : Value := if q.down then .pointer none else findV D i
theorem lookP_zero {D : List Dev} {q : Pw} {i : Int} (h : lookP D q i = 0) : q.down = false ∧ ∃ k p S, i = ((k : Nat) : Int) ∧ D[k]? = some (some (p, S)) ∧ poweredV D q i = .pointer (some ⟨p, 0, none⟩) := by
  unfold lookP at h
  cases hd : q.down with
  | true => rw [hd] at h; simp at h
  | false =>
    rw [hd] at h
    simp only [Bool.false_eq_true, if_false] at h
    obtain ⟨k, p, S, rfl, hk⟩ := lookC_zero h
    exact ⟨rfl, k, p, S, rfl, hk, by unfold poweredV; rw [hd]; simp only [Bool.false_eq_true, if_false]; exact (lookC_at hk).2⟩
theorem lookP_at {D : List Dev} {q : Pw} {k p : Nat} {S : List Sec} (hd : q.down = false) (h : D[k]? = some (some (p, S))) : lookP D q (k : Int) = 0 := by unfold lookP; rw [hd]; exact (lookC_at h).1
theorem poweredV_form (D : List Dev) (q : Pw) (i : Int) : ∃ a, poweredV D q i = .pointer a := by
  unfold poweredV
  split
  · exact ⟨_, rfl⟩
  · exact findV_form D i
set_option maxRecDepth 100000 in
theorem powered_any {w : World} {F : Nat → Prop} {b : Nat} {D : List Dev} {q : Pw} (h : Bk w F b D q) (i : Int) :
    Calls Tryz.prog 44 #[.pointer (some ⟨b, 0, none⟩), .int .i64 i] w fun e w' => e = .returned (.tuple #[poweredV D q i, errV (lookP D q i)]) ∧ w' = w := by
  have HF := hide (find_any h i)
  obtain ⟨v, G, h⟩ := h
  have c2 := h.c2
  cases hd : q.down with
  | true =>
    rw [hd] at c2
    have HE : Hid (lookP D q i = 22 ∧ poweredV D q i = .pointer none) := ⟨by unfold lookP; rw [hd]; rfl, by unfold poweredV; rw [hd]; rfl⟩
    clear h HF
    go_enter Tryz.func44, Tryz.ntmps44
    go_wp2
    go_ret2
    exact ⟨by rw [HE.out.1, HE.out.2]; rfl, rfl⟩
  | false =>
    rw [hd] at c2
    have HE : Hid (lookP D q i = lookC D i ∧ poweredV D q i = findV D i) := ⟨by unfold lookP; rw [hd]; rfl, by unfold poweredV; rw [hd]; rfl⟩
    obtain ⟨a, ha⟩ := findV_form D i
    rw [ha] at HE HF
    obtain ⟨ev, hev⟩ : ∃ ev, ev = errV (lookC D i) := ⟨_, rfl⟩
    have HEV := hide hev
    rw [← hev] at HF
    clear h ha hev
    go_enter Tryz.func44, Tryz.ntmps44
    go_wp2_with (go_at_call 62; refine HF.out.mono ?_; rintro e w' ⟨rfl, rfl⟩)
    go_ret2
    exact ⟨by rw [HE.out.1, HE.out.2, ← HEV.out]; rfl, rfl⟩

/-- What a write or flush leaves of the power. -/
def spendC (q : Pw) : Int := if q.left = 0 then 22 else 0
def spent (q : Pw) : Pw := if q.left = 0 then { q with down := true } else ⟨if 0 < q.left then q.left - 1 else q.left, q.down, q.done + 1⟩
def Small (q : Pw) : Prop := I64 q.left ∧ 0 ≤ q.done ∧ q.done ≤ 1000000
def Spent (F : Nat → Prop) (b : Nat) (D : List Dev) (q : Pw) (v : Value) (G : Nat → Nat → Prop) (w : World) (e : Ending) (w' : World) : Prop := e = .returned (errV (spendC q)) ∧ BkAt w' F b D (spent q) v G ∧ Turn (fun k => k = b) w w' ∧ w'.heap.size = w.heap.size
set_option maxRecDepth 100000 in
theorem spend_any {w : World} {F : Nat → Prop} {b : Nat} {D : List Dev} {q : Pw} {v : Value} {G : Nat → Nat → Prop} (h : BkAt w F b D q v G) (hq : Small q) :
    Calls Tryz.prog 51 #[.pointer (some ⟨b, 0, none⟩)] w (Spent F b D q v G w) := by
  have H := hide h
  have c1 := h.c1
  have c2 := h.c2
  have c3 := h.c3
  have f1 := h.frozen 1
  have f2 := h.frozen 2
  have f3 := h.frozen 3
  obtain ⟨left, down, done⟩ := q
  obtain ⟨hi, hd0, hd1⟩ := hq
  simp only at c1 c2 c3 hi hd0 hd1
  unfold I64 at hi
  clear h
  by_cases h0 : left = 0
  · subst h0
    have HE : Hid (spendC ⟨0, down, done⟩ = 22 ∧ spent ⟨0, down, done⟩ = ⟨0, true, done⟩) := ⟨rfl, rfl⟩
    clear hi hd0 hd1
    go_enter Tryz.func51, Tryz.ntmps51
    go_wp2
    go_ret
    refine ⟨by rw [HE.out.1]; rfl, by rw [HE.out.2]; exact H.out.setDown true, set_turn _ _ _ rfl, set_size _ _ _⟩
  · have hb : (left == 0) = false := by simpa using h0
    by_cases h1 : 0 < left
    · have hd : decide (0 < left) = true := by simpa using h1
      have HE : Hid (spendC ⟨left, down, done⟩ = 0 ∧ spent ⟨left, down, done⟩ = ⟨left - 1, down, done + 1⟩) := ⟨by simp [spendC, h0], by simp [spent, h0, h1]⟩
      have HB : Hid (BkAt ((w.setCell ⟨b, 1, none⟩ (.int .i64 (left - 1))).setCell ⟨b, 3, none⟩ (.int .i64 (done + 1))) F b D ⟨left - 1, down, done + 1⟩ v G) := (H.out.setLeft (left - 1)).setDone (done + 1)
      have HT : Hid (Turn (fun k => k = b) w ((w.setCell ⟨b, 1, none⟩ (.int .i64 (left - 1))).setCell ⟨b, 3, none⟩ (.int .i64 (done + 1)))) := (set_turn (F := fun k => k = b) _ _ _ rfl).trans (set_turn (F := fun k => k = b) _ _ _ rfl) (fun _ _ h => h)
      clear h0 H
      go_enter Tryz.func51, Tryz.ntmps51
      go_wp2
      go_ret
      exact ⟨by rw [HE.out.1]; rfl, by rw [HE.out.2]; exact HB.out, HT.out, by rw [set_size, set_size]⟩
    · have hd : decide (0 < left) = false := by simpa using h1
      have HE : Hid (spendC ⟨left, down, done⟩ = 0 ∧ spent ⟨left, down, done⟩ = ⟨left, down, done + 1⟩) := ⟨by simp [spendC, h0], by simp [spent, h0, h1]⟩
      clear h0 h1
      go_enter Tryz.func51, Tryz.ntmps51
      go_wp2
      go_ret
      exact ⟨by rw [HE.out.1]; rfl, by rw [HE.out.2]; exact H.out.setDone (done + 1), set_turn _ _ _ rfl, set_size _ _ _⟩

set_option maxRecDepth 100000 in
theorem arm_any {w : World} {F : Nat → Prop} {b : Nat} {D : List Dev} {q : Pw} (h : Bk w F b D q) (n : Int) :
    Calls Tryz.prog 26 #[.pointer (some ⟨b, 0, none⟩), .int .i64 n] w fun e w' => e = .returned (.tuple #[]) ∧ Bk w' F b D { q with left := n } ∧ Turn F w w' := by
  obtain ⟨v, G, h⟩ := h
  have H := hide h
  have c1 := h.c1
  have f1 := h.frozen 1
  have HF := hide h.inB
  clear h
  go_enter Tryz.func26, Tryz.ntmps26
  go_wp2
  go_end0
  exact ⟨rfl, ⟨v, G, H.out.setLeft n⟩, set_turn _ _ _ HF.out⟩
theorem down_any {w : World} {F : Nat → Prop} {b : Nat} {D : List Dev} {q : Pw} (h : Bk w F b D q) :
    Calls Tryz.prog 33 #[.pointer (some ⟨b, 0, none⟩)] w fun e w' => e = .returned (.bool q.down) ∧ w' = w := by
  obtain ⟨v, G, h⟩ := h
  have c := h.c2
  clear h
  go_enter Tryz.func33, Tryz.ntmps33
  go_wp2
  go_ret
  exact ⟨rfl, rfl⟩
theorem done_any {w : World} {F : Nat → Prop} {b : Nat} {D : List Dev} {q : Pw} (h : Bk w F b D q) :
    Calls Tryz.prog 34 #[.pointer (some ⟨b, 0, none⟩)] w fun e w' => e = .returned (.int .i64 q.done) ∧ w' = w := by
  obtain ⟨v, G, h⟩ := h
  have c := h.c3
  clear h
  go_enter Tryz.func34, Tryz.ntmps34
  go_wp2
  go_ret
  exact ⟨rfl, rfl⟩

def takeB (S : List Sec) (i : Int) (d : List Nat) : Bool := hasB S i && decide (d.length = 128)
set_option maxRecDepth 100000 in
theorem takes_any {w : World} {F : Nat → Prop} {p : Nat} {S : List Sec} (h : Dk w F p S) (i : Int) (dv : Value) (d : List Nat) (hd : Bytes w dv d) :
    Calls Tryz.prog 50 #[.pointer (some ⟨p, 0, none⟩), .int .i64 i, dv] w fun e w' => e = .returned (.bool (takeB S i d)) ∧ w' = w := by
  have HD := hide (size_any h)
  obtain ⟨ao, cap, g, off, rfl, -⟩ := hd
  clear h
  by_cases h0 : 0 ≤ i
  · have e0 : decide (0 ≤ i) = true := by simpa using h0
    by_cases h1 : i < (S.length : Int)
    · have e1 : decide (i < (S.length : Int)) = true := by simpa using h1
      by_cases h2 : d.length = 128
      · have HB : Hid (takeB S i d = true) := by show _ = _; simp [takeB, hasB, h0, h1, h2]
        rw [h2]
        clear h0 h1 h2
        go_enter Tryz.func50, Tryz.ntmps50
        go_wp2_with (go_at_call 39; refine HD.out.mono ?_; rintro e w' ⟨rfl, rfl⟩)
        go_ret
        exact ⟨by rw [HB.out]; rfl, rfl⟩
      · have HB : Hid (takeB S i d = false) := by show _ = _; simp [takeB, h2]
        have e2 : ((d.length : Int) == 128) = false := by simp; omega
        clear h0 h1 h2
        go_enter Tryz.func50, Tryz.ntmps50
        go_wp2_with (go_at_call 39; refine HD.out.mono ?_; rintro e w' ⟨rfl, rfl⟩)
        go_ret
        exact ⟨by rw [HB.out]; rfl, rfl⟩
    · have e1 : decide (i < (S.length : Int)) = false := by simpa using h1
      have HB : Hid (takeB S i d = false) := by show _ = _; simp [takeB, hasB]; omega
      clear h0 h1
      go_enter Tryz.func50, Tryz.ntmps50
      go_wp2_with (go_at_call 39; refine HD.out.mono ?_; rintro e w' ⟨rfl, rfl⟩)
      go_ret
      exact ⟨by rw [HB.out]; rfl, rfl⟩
  · have e0 : decide (0 ≤ i) = false := by simpa using h0
    have HB : Hid (takeB S i d = false) := by show _ = _; simp [takeB, hasB]; omega
    clear h0
    go_enter Tryz.func50, Tryz.ntmps50
    go_wp2_with (go_at_call 39; refine HD.out.mono ?_; rintro e w' ⟨rfl, rfl⟩)
    go_ret
    exact ⟨by rw [HB.out]; rfl, rfl⟩
end Go.Proofs.YtliboiajhhnajaaGreatDoor
