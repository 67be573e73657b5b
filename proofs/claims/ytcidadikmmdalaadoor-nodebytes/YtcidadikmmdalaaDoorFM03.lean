import Derived.Test.YtcidadikmmdalaaDoorFM02
import Derived.Laws.Tables
/- An unpacker by the contracts of its calls. -/
namespace Go.Proofs.YtcidadikmmdalaaDoor.Fr
open Go.RowKit Go.Extern

theorem two_cell0 {w : World} {b : Nat} {x y : Value} {T : TypeId} (h : w.heap[b]? = some (.cells #[x, y] T (0, 0))) : w.cell? ⟨b, 0, none⟩ = some x := by rw [cell_of_row w b 0 _ _ _ h]; rfl
theorem two_cell1 {w : World} {b : Nat} {x y : Value} {T : TypeId} (h : w.heap[b]? = some (.cells #[x, y] T (0, 0))) : w.cell? ⟨b, 1, none⟩ = some y := by rw [cell_of_row w b 1 _ _ _ h]; rfl
theorem two_frozen {w : World} {b : Nat} {x y : Value} {T : TypeId} (h : w.heap[b]? = some (.cells #[x, y] T (0, 0))) (i : Nat) : w.frozen? ⟨b, i, none⟩ = false := by simp [World.frozen?, h]
theorem two_set0 {w : World} {b : Nat} {x y : Value} {T : TypeId} (z : Value) (h : w.heap[b]? = some (.cells #[x, y] T (0, 0))) : (w.setCell ⟨b, 0, none⟩ z).heap[b]? = some (.cells #[z, y] T (0, 0)) := by
  rw [setCell_eq_setRow w b 0 _ _ _ z h]
  exact setRow_heap w b _ _ _ _ h
theorem two_set1 {w : World} {b : Nat} {x y : Value} {T : TypeId} (z : Value) (h : w.heap[b]? = some (.cells #[x, y] T (0, 0))) : (w.setCell ⟨b, 1, none⟩ z).heap[b]? = some (.cells #[x, z] T (0, 0)) := by
  rw [setCell_eq_setRow w b 1 _ _ _ z h]
  exact setRow_heap w b _ _ _ _ h
theorem grown_set (w : World) (b i : Nat) (z : Value) : w.grownBy (w.setCell ⟨b, i, none⟩ z) (some b) :=
  ⟨rfl, rfl, rfl, by simp [World.setCell], fun k _ hne => Below.heap_setCell _ _ _ _ (fun e => hne (by rw [e]))⟩
theorem grown_below {w w' : World} (hb : Below w.heap.size w w') (row : Option Nat) : w.grownBy w' row := ⟨hb.os, hb.tape, hb.output, hb.size, fun k hk _ => hb.block k hk⟩
theorem below_grown {w w' : World} {b B : Nat} (hg : w.grownBy w' (some b)) (hB : B ≤ b) (hw : B ≤ w.heap.size) : Below B w w' := ⟨hg.os, hg.tape, hg.output, hg.size, fun k hk => hg.block k (by omega) (by simp; omega)⟩
theorem heap_below {w w' : World} {b : Nat} {o : Obj} (hb : Below w.heap.size w w') (h : w.heap[b]? = some o) : w'.heap[b]? = some o := by
  rw [hb.block b ?_]; exact h
  rcases Nat.lt_or_ge b w.heap.size with q | q
  · exact q
  · rw [Array.getElem?_eq_none q] at h; cases h

/-- Bytes do not lie in a block that begins with a slice and a bool. -/
theorem Bytes.grown {w w' : World} {b : Nat} {ao : Option Addr} {n cap : Nat} {sp : Bool} {T : TypeId} (hh : w.heap[b]? = some (.cells #[.slice ao n cap, .bool sp] T (0, 0))) (hg : w.grownBy w' (some b)) {v : Value} {bs : List Nat} (h : Bytes w v bs) : Bytes w' v bs := by
  obtain ⟨ao, cap, g, off, h1, h2, h3, h4⟩ := h
  refine ⟨ao, cap, g, off, h1, h2, fun i q hq => ?_, h4⟩
  have hc := h3 i q hq
  by_cases e : g = b
  · subst e
    exfalso
    rw [cell_of_row w g _ _ _ _ hh] at hc
    rcases Nat.lt_or_ge (off + i) 2 with hl | hl
    · rcases (by omega : off + i = 0 ∨ off + i = 1) with e | e <;> rw [e] at hc <;> simp at hc
    · rw [Array.getElem?_eq_none (by simpa using hl)] at hc; cases hc
  · exact hg.cell hc (by simpa using e)
theorem Laid.grown {w w' : World} {b : Nat} {ao : Option Addr} {n cap : Nat} {sp : Bool} {T : TypeId} (hh : w.heap[b]? = some (.cells #[.slice ao n cap, .bool sp] T (0, 0))) (hg : w.grownBy w' (some b)) (h : Laid w) : Laid w' := fun i hi => by
  have hc := h i hi
  by_cases e : 0 = b
  · subst e
    exfalso
    rw [cell_of_row w 0 _ _ _ _ hh] at hc
    rcases Nat.lt_or_ge i 2 with hl | hl
    · rcases (by omega : i = 0 ∨ i = 1) with e | e <;> rw [e] at hc <;> simp at hc
    · rw [Array.getElem?_eq_none (by simpa using hl)] at hc; cases hc
  · exact hg.cell hc (by simpa using e)

/-- In the world 'w' the block 'b' is an unpacker with so many bytes left, spoiled or not. -/
def Unp (w : World) (b : Nat) (left : List Nat) (sp : Bool) : Prop :=
  ∃ ao n cap, w.heap[b]? = some (.cells #[.slice ao n cap, .bool sp] 90 (0, 0)) ∧ Bytes w (.slice ao n cap) left ∧ (sp = true → left = [])
theorem Unp.below {w w' : World} {b : Nat} {left : List Nat} {sp : Bool} (h : Unp w b left sp) (hb : Below w.heap.size w w') : Unp w' b left sp := by
  obtain ⟨ao, n, cap, h1, h2, h3⟩ := h
  exact ⟨ao, n, cap, heap_below hb h1, h2.below hb, h3⟩

theorem spoil_any (b : Nat) (left : List Nat) (sp : Bool) (w : World) (hu : Unp w b left sp) :
    Calls Tryd.prog 58 #[.pointer (some ⟨b, 0, none⟩)] w fun e w' => e = .returned (.int .i64 0) ∧ Unp w' b [] true ∧ w.grownBy w' (some b) := by
  obtain ⟨ao, n, cap, h1, -, -⟩ := hu
  have c0 := two_cell0 h1
  have c1 := two_cell1 h1
  have f0 := two_frozen h1 0
  have f1 := two_frozen h1 1
  have H1 := hide h1
  clear h1
  go_enter Tryd.func58, Tryd.ntmps58
  go_wp2
  go_ret
  refine ⟨rfl, ⟨none, 0, 0, two_set1 _ (two_set0 _ H1.out), Bytes.nil _, fun _ => rfl⟩, ?_⟩
  exact (grown_set w b 0 _).trans (grown_set _ b 1 _)

/-- Is a number there? -/
def readOk (left : List Nat) (wd : Nat) : Bool := decide (wd ≤ left.length ∧ val (left.take wd) ≤ great wd)

theorem great_lt (wd : Nat) (hwd : wd = 1 ∨ wd = 2 ∨ wd = 4 ∨ wd = 8) : great wd < 9223372036854775808 := by
  rcases hwd with rfl | rfl | rfl | rfl <;> decide

set_option maxRecDepth 100000 in
set_option maxHeartbeats 1000000 in
theorem unext_yes (wd : Nat) (hwd : wd = 1 ∨ wd = 2 ∨ wd = 4 ∨ wd = 8) (b : Nat) (left : List Nat) (sp : Bool) (w : World) (hu : Unp w b left sp) (hok : readOk left wd = true) :
    Calls Tryd.prog 52 #[.pointer (some ⟨b, 0, none⟩), .int .i64 (wd : Int)] w fun e w' => e = .returned (.int .i64 (val (left.take wd) : Nat)) ∧ Unp w' b (left.drop wd) sp ∧ w.grownBy w' (some b) := by
  obtain ⟨ao, n, cap, h1, h2, h3⟩ := hu
  have hok' : wd ≤ left.length ∧ val (left.take wd) ≤ great wd := by simpa [readOk] using hok
  obtain ⟨hl, hg⟩ := hok'
  have hsp : Hid (sp = true → left.drop wd = []) := fun e => by rw [h3 e]; simp
  obtain ⟨an, nn, cn, hcut, HCut⟩ := cut_from w _ left wd h2 hl
  have HR := hide (readNumber_any wd hwd left hl _ w h2)
  have H2 := hide h2
  obtain ⟨ao', cap', g, off, e, -⟩ := h2
  simp only [Value.slice.injEq] at e
  obtain ⟨rfl, rfl, rfl⟩ := e
  have c0 := two_cell0 h1
  have H1 := hide h1
  have hnl : ¬ (left.length : Int) < (wd : Int) := by omega
  have hgi : ¬ (great wd : Int) < ((val (left.take wd) : Nat) : Int) := by omega
  have hg2 := great_lt wd hwd
  have hw64 : IntKind.i64.wrap ((val (left.take wd) : Nat) : Int) = ((val (left.take wd) : Nat) : Int) := by rw [IntKind.wrap_i64]; omega
  have HWD := hide hwd
  generalize val (left.take wd) = x at *
  clear h1 h3 hok hg hl hwd
  go_enter Tryd.func52, Tryd.ntmps52
  go_wp2_with fail
  refine HR.out.mono ?_
  rintro e w1 ⟨rfl, hb1⟩
  have HB1 := hide hb1
  have h1' := heap_below hb1 H1.out
  have d0 := two_cell0 h1'
  have d1 := two_frozen h1' 0
  have H1' := hide h1'
  clear hb1 h1'
  go_wp2_with (go_at_call 57; refine (greatest_any wd HWD.out _).mono ?_; rintro e w' ⟨rfl, rfl⟩)
  go_ret
  refine ⟨rfl, ⟨an, nn, cn, two_set0 _ H1'.out, ?_, hsp.out⟩, ?_⟩
  · exact Bytes.grown H1'.out (grown_set _ b 0 _) (HCut.out.below HB1.out)
  · exact (grown_below HB1.out _).trans (grown_set _ b 0 _)

set_option maxRecDepth 100000 in
set_option maxHeartbeats 1000000 in
theorem unext_no (wd : Nat) (hwd : wd = 1 ∨ wd = 2 ∨ wd = 4 ∨ wd = 8) (b : Nat) (left : List Nat) (sp : Bool) (w : World) (hu : Unp w b left sp) (hok : readOk left wd = false) :
    Calls Tryd.prog 52 #[.pointer (some ⟨b, 0, none⟩), .int .i64 (wd : Int)] w fun e w' => e = .returned (.int .i64 0) ∧ Unp w' b [] true ∧ w.grownBy w' (some b) := by
  have HU := hide hu
  obtain ⟨ao, n, cap, h1, h2, h3⟩ := hu
  have HWD := hide hwd
  by_cases hl : wd ≤ left.length
  · have hg : great wd < val (left.take wd) := by
      have : ¬ (wd ≤ left.length ∧ val (left.take wd) ≤ great wd) := by simpa [readOk] using hok
      omega
    have HR := hide (readNumber_any wd hwd left hl _ w h2)
    obtain ⟨ao', cap', g, off, e, -⟩ := h2
    simp only [Value.slice.injEq] at e
    obtain ⟨rfl, rfl, rfl⟩ := e
    have c0 := two_cell0 h1
    have hnl : ¬ (left.length : Int) < (wd : Int) := by omega
    have hgi : (great wd : Int) < ((val (left.take wd) : Nat) : Int) := by omega
    generalize val (left.take wd) = x at *
    clear h1 h3 hok hg hl hwd
    go_enter Tryd.func52, Tryd.ntmps52
    go_wp2_with fail
    refine HR.out.mono ?_
    rintro e w1 ⟨rfl, hb1⟩
    have HB1 := hide hb1
    clear hb1
    go_wp2_with (first
      | (go_at_call 57; refine (greatest_any wd HWD.out _).mono ?_; rintro e w' ⟨rfl, rfl⟩)
      | (go_at_call 58; refine (spoil_any b left sp _ (HU.out.below HB1.out)).mono ?_; rintro e w' ⟨rfl, hu2, hg2⟩))
    go_ret
    exact ⟨rfl, hu2, (grown_below HB1.out _).trans hg2⟩
  · obtain ⟨ao', cap', g, off, e, -⟩ := h2
    simp only [Value.slice.injEq] at e
    obtain ⟨rfl, rfl, rfl⟩ := e
    have c0 := two_cell0 h1
    have hnl : (left.length : Int) < (wd : Int) := by omega
    clear h1 h3 hok hl hwd
    go_enter Tryd.func52, Tryd.ntmps52
    go_wp2_with (go_at_call 58; refine (spoil_any b left sp _ HU.out).mono ?_; rintro e w' ⟨rfl, hu2, hg2⟩)
    go_ret
    exact ⟨rfl, hu2, hg2⟩

/-- The number that a read tells, and what is left behind it. -/
def rdN (left : List Nat) (wd : Nat) : Nat := if readOk left wd then val (left.take wd) else 0
def rdL (left : List Nat) (wd : Nat) : List Nat := if readOk left wd then left.drop wd else []
def rdS (left : List Nat) (sp : Bool) (wd : Nat) : Bool := sp || !readOk left wd
theorem unext_any (wd : Nat) (hwd : wd = 1 ∨ wd = 2 ∨ wd = 4 ∨ wd = 8) (b : Nat) (left : List Nat) (sp : Bool) (w : World) (hu : Unp w b left sp) :
    Calls Tryd.prog 52 #[.pointer (some ⟨b, 0, none⟩), .int .i64 (wd : Int)] w fun e w' => e = .returned (.int .i64 (rdN left wd : Nat)) ∧ Unp w' b (rdL left wd) (rdS left sp wd) ∧ w.grownBy w' (some b) := by
  cases hok : readOk left wd with
  | true =>
    have := unext_yes wd hwd b left sp w hu hok
    simpa [rdN, rdL, rdS, hok] using this
  | false =>
    have := unext_no wd hwd b left sp w hu hok
    simpa [rdN, rdL, rdS, hok] using this
end Go.Proofs.YtcidadikmmdalaaDoor.Fr

/- A packer by the contracts of its calls. -/
namespace Go.Proofs.YtcidadikmmdalaaDoor.Fr
open Go.RowKit Go.Extern

/-- The value 'v' is, in the world 'w', a slice of the numbers 'ns'. -/
def Ints (w : World) (v : Value) (ns : List Int) : Prop :=
  ∃ ao cap g off, v = .slice ao ns.length cap ∧ (0 < ns.length → ao = some ⟨g, off, none⟩) ∧ (∀ (i : Nat) n, ns[i]? = some n → w.cell? ⟨g, off + i, none⟩ = some (.int .i64 n)) ∧ (∀ n ∈ ns, -9223372036854775808 ≤ n ∧ n < 9223372036854775808) ∧ ns.length ≤ 140737488355328
theorem Ints.below {w w' : World} (hb : Below w.heap.size w w') {v : Value} {ns : List Int} (h : Ints w v ns) : Ints w' v ns := by
  obtain ⟨ao, cap, g, off, h1, h2, h3, h4⟩ := h
  exact ⟨ao, cap, g, off, h1, h2, fun i q hq => by rw [hb.cell (cell_lt (h3 i q hq))]; exact h3 i q hq, h4⟩

/-- Of what was there nothing has turned but the block 'b' and the row 'row'. -/
structure Frm (w w' : World) (b : Nat) (row : Option Nat) : Prop where
  os : w'.os = w.os
  tape : w'.tape = w.tape
  output : w'.output = w.output
  size : w.heap.size ≤ w'.heap.size
  block : ∀ k, k < w.heap.size → k ≠ b → some k ≠ row → w'.heap[k]? = w.heap[k]?
theorem Frm.refl (w : World) (b : Nat) (row : Option Nat) : Frm w w b row := ⟨rfl, rfl, rfl, Nat.le_refl _, fun _ _ _ _ => rfl⟩
theorem Frm.trans {w w1 w2 : World} {b : Nat} {row row1 : Option Nat} (h : Frm w w1 b row) (k : Frm w1 w2 b row1) (hr : row1 = row ∨ row1 = none ∨ ∃ j, row1 = some j ∧ w.heap.size ≤ j) : Frm w w2 b row := by
  refine ⟨k.os.trans h.os, k.tape.trans h.tape, k.output.trans h.output, Nat.le_trans h.size k.size, fun i hi h1 h2 => ?_⟩
  rw [k.block i (Nat.lt_of_lt_of_le hi h.size) h1 ?_, h.block i hi h1 h2]
  rcases hr with rfl | rfl | ⟨j, rfl, hj⟩
  · exact h2
  · simp
  · intro e; have := Option.some.inj e; omega
theorem Frm.of_grown {w w' : World} {b : Nat} {row : Option Nat} (h : w.grownBy w' row) : Frm w w' b row := ⟨h.os, h.tape, h.output, h.size, fun k hk _ hr => h.block k hk hr⟩
theorem Frm.of_set {w w' : World} {b : Nat} {row : Option Nat} (h : w.grownBy w' (some b)) : Frm w w' b row := ⟨h.os, h.tape, h.output, h.size, fun k hk hb _ => h.block k hk (by simpa using hb)⟩
theorem Frm.below {w w' : World} {b : Nat} {row : Option Nat} {B : Nat} (h : Frm w w' b row) (hB : B ≤ w.heap.size) (hb : B ≤ b) (hr : ∀ k, row = some k → B ≤ k) : Below B w w' :=
  ⟨h.os, h.tape, h.output, h.size, fun k hk => h.block k (by omega) (by omega) (fun e => by have := hr k e.symm; omega)⟩
theorem Frm.heap {w w' : World} {b : Nat} {row : Option Nat} (h : Frm w w' b row) {k : Nat} {o : Obj} (hk : w.heap[k]? = some o) (h1 : k ≠ b) (h2 : some k ≠ row) : w'.heap[k]? = some o := by
  rw [h.block k ?_ h1 h2]; exact hk
  rcases Nat.lt_or_ge k w.heap.size with q | q
  · exact q
  · rw [Array.getElem?_eq_none q] at hk; cases hk

/-- In the world 'w' the block 'b' is a packer of the bytes 'xs', which lie in the row 'row' from 'base' on; spoiled or not. -/
def Pk (w : World) (base b : Nat) (row : Option Nat) (xs : List Nat) (sp : Bool) : Prop :=
  ∃ ao n cap, w.heap[b]? = some (.cells #[.slice ao n cap, .bool sp] 75 (0, 0)) ∧ Own w base (.slice ao n cap) xs ∧ row = (Value.slice ao n cap).ownBlock ∧ row ≠ some b ∧ (sp = true → xs = []) ∧ base ≤ b ∧ base ≤ w.heap.size
theorem Pk.block {w : World} {base b : Nat} {row : Option Nat} {xs : List Nat} {sp : Bool} (h : Pk w base b row xs sp) : b < w.heap.size := by
  obtain ⟨ao, n, cap, h1, -⟩ := h
  rcases Nat.lt_or_ge b w.heap.size with q | q
  · exact q
  · rw [Array.getElem?_eq_none q] at h1; cases h1
theorem Pk.row_ge {w : World} {base b : Nat} {row : Option Nat} {xs : List Nat} {sp : Bool} (h : Pk w base b row xs sp) : ∀ k, row = some k → base ≤ k ∧ k < w.heap.size := by
  obtain ⟨ao, n, cap, h1, h2, rfl, -⟩ := h
  exact h2.lt
theorem Pk.below {w w' : World} {base b : Nat} {row : Option Nat} {xs : List Nat} {sp : Bool} (h : Pk w base b row xs sp) (hb : Below w.heap.size w w') : Pk w' base b row xs sp := by
  obtain ⟨ao, n, cap, h1, h2, h3, h4, h5, h6, h7⟩ := h
  exact ⟨ao, n, cap, heap_below hb h1, h2.below hb, h3, h4, h5, h6, Nat.le_trans h7 hb.size⟩
theorem Own.of_block {w w' : World} {base : Nat} {v : Value} {xs : List Nat} (h : Own w base v xs) (hk : ∀ k, v.ownBlock = some k → ∀ o, w.heap[k]? = some o → w'.heap[k]? = some o) : Own w' base v xs := by
  obtain ⟨⟨h1, h2⟩, h3⟩ := h
  refine ⟨⟨h1, ?_⟩, h3⟩
  rcases h2 with h2 | ⟨g, cap, cur, rfl, hg, hh, r⟩
  · exact Or.inl h2
  · exact Or.inr ⟨g, cap, cur, rfl, hg, hk g rfl _ hh, r⟩
/-- Another packer is as it was. -/
theorem Pk.other {w w' : World} {base b b2 : Nat} {row row2 : Option Nat} {xs : List Nat} {sp : Bool} (h : Pk w base b row xs sp) (hf : Frm w w' b2 row2) (h1 : b ≠ b2) (h2 : some b ≠ row2) (h3 : row ≠ some b2) (h4 : row = none ∨ row ≠ row2) : Pk w' base b row xs sp := by
  obtain ⟨ao, n, cap, k1, k2, k3, k4, k5, k6, k7⟩ := h
  refine ⟨ao, n, cap, hf.heap k1 h1 h2, k2.of_block (fun k hk o ho => hf.heap ho ?_ ?_), k3, k4, k5, k6, Nat.le_trans k7 hf.size⟩
  · intro e; subst e; exact h3 (k3.trans hk)
  · intro e
    rcases h4 with h4 | h4
    · rw [k3, hk] at h4; cases h4
    · exact h4 (k3.trans (hk.trans e))

theorem newPacker_any (w : World) :
    Calls Tryd.prog 19 #[] w fun e w' => e = .returned (.pointer (some ⟨w.heap.size, 0, none⟩)) ∧ Pk w' w.heap.size w.heap.size none [] false ∧ Below w.heap.size w w' := by
  go_enter Tryd.func19, Tryd.ntmps19
  go_wp2
  go_ret
  refine ⟨rfl, ⟨none, 0, 0, heap_alloc_new w _, Own.nil _ _, rfl, by simp, by simp, Nat.le_refl _, by simp⟩, (Below.refl _ _).alloc (Nat.le_refl _) _⟩

/-- The bytes of numbers. -/
def bytesOf (wd : Nat) (ns : List Int) : List Nat := ns.flatMap fun n => be wd n.toNat
theorem bytesOf_snoc (wd : Nat) (ns : List Int) (n : Int) : bytesOf wd (ns ++ [n]) = bytesOf wd ns ++ be wd n.toNat := by simp [bytesOf]
theorem bytesOf_length (wd : Nat) : ∀ ns : List Int, (bytesOf wd ns).length = wd * ns.length
  | [] => by simp [bytesOf]
  | n :: ns => by
    have := bytesOf_length wd ns
    simp only [bytesOf, List.flatMap_cons, List.length_append, be_length, List.length_cons] at *
    rw [this, Nat.mul_succ]; omega

theorem Own.not_b {w : World} {base b : Nat} {v : Value} {xs : List Nat} (h : Own w base v xs) (hne : v.ownBlock ≠ some b) (z : Value) (i : Nat) : Own (w.setCell ⟨b, i, none⟩ z) base v xs :=
  h.of_block fun k hk o ho => by
    rw [Below.heap_setCell]; exact ho
    intro e; subst e; exact hne hk

/-- A number that is read through a frame. -/
theorem ints_cell {w wr : World} {b : Nat} {row : Option Nat} {ao : Option Addr} {n cap : Nat} {sp : Bool} {T : TypeId} (hh : w.heap[b]? = some (.cells #[.slice ao n cap, .bool sp] T (0, 0))) (hf : Frm w wr b row) {g o : Nat} {z : Int} (hc : w.cell? ⟨g, o, none⟩ = some (.int .i64 z)) (hr : some g ≠ row) : wr.cell? ⟨g, o, none⟩ = some (.int .i64 z) := by
  have hgb : g ≠ b := by
    intro e
    subst e
    rw [cell_of_row w g _ _ _ _ hh] at hc
    rcases Nat.lt_or_ge o 2 with hl | hl
    · rcases (by omega : o = 0 ∨ o = 1) with e | e <;> rw [e] at hc <;> simp at hc
    · rw [Array.getElem?_eq_none (by simpa using hl)] at hc; cases hc
  rw [World.cell?_of_block (w := w) (hf.block g (cell_lt hc) hgb hr)]; exact hc

theorem Pk.spoiled {w : World} {base b : Nat} {ao : Option Addr} {n cap : Nat} {sp : Bool} (h1 : w.heap[b]? = some (.cells #[.slice ao n cap, .bool sp] 75 (0, 0))) (hb : base ≤ b) (hw : base ≤ w.heap.size) :
    Pk ((w.setCell ⟨b, 0, none⟩ (.slice none 0 0)).setCell ⟨b, 1, none⟩ (.bool true)) base b none [] true :=
  ⟨none, 0, 0, two_set1 _ (two_set0 _ h1), Own.nil _ _, rfl, by simp, fun _ => rfl, hb, by simpa [World.setCell] using hw⟩

/-- What a call of a packer that is not spoiled leaves. -/
def Putted (wd base b : Nat) (row : Option Nat) (xs : List Nat) (ns : List Int) (w w' : World) : Prop :=
  ∃ row', Pk w' base b row' (if ns.all (fitB · wd) then xs ++ bytesOf wd ns else []) (!ns.all (fitB · wd)) ∧ Frm w w' b row ∧ (∀ k, row' = some k → row = some k ∨ w.heap.size ≤ k)

set_option maxRecDepth 100000 in
set_option maxHeartbeats 1000000 in
theorem pput_any (wd : Nat) (hwd : wd = 1 ∨ wd = 2 ∨ wd = 4 ∨ wd = 8) (base b : Nat) (row : Option Nat) (xs : List Nat) (ns : List Int) (v : Value) (w : World) (hp : Pk w base b row xs false) (hv : Ints w v ns) (hlen : xs.length + 8 * ns.length + 8 ≤ 140737488355328) (hnr : ∀ g cap, v = .slice (some g) ns.length cap → some g.block ≠ row) :
    Calls Tryd.prog 42 #[.pointer (some ⟨b, 0, none⟩), .int .i64 (wd : Int), v] w fun e w' => e = .returned (.pointer (some ⟨b, 0, none⟩)) ∧ Putted wd base b row xs ns w w' := by
  obtain ⟨ao, cap, g, off, rfl, h2, h3, h4, h5⟩ := hv
  have H2 := hide h2
  have H3 := hide h3
  have H4 := hide h4
  have H5 := hide h5
  have HP := hide hp
  have HNR := hide hnr
  have HWD := hide hwd
  have HLEN := hide hlen
  clear h2 h3 h4 h5 hp hnr hwd hlen
  go_enter Tryd.func42, Tryd.ntmps42
  go_wp2
  go_loopg [11] ns.length (fun k i wr => ∃ j rowr, j + k = ns.length ∧ i = .int .i64 (j : Int) ∧ (ns.take j).all (fitB · wd) = true ∧ Pk wr base b rowr (xs ++ bytesOf wd (ns.take j)) false ∧ Frm w wr b row ∧ (∀ k, rowr = some k → row = some k ∨ w.heap.size ≤ k))
  case atStart => exact ⟨0, row, by omega, rfl, rfl, by simpa [bytesOf] using HP.out, Frm.refl _ _ _, fun _ h => .inl h⟩
  case round =>
    obtain ⟨j, rowr, hj, rfl, hall, hpr, hfr, hrr⟩ := hrel
    have HA := hide hall
    have HPR := hide hpr
    have HFR := hide hfr
    have HRR := hide hrr
    clear hall hpr hfr hrr
    cases gk with
    | zero =>
      have hnl : ¬ (j : Int) < (ns.length : Int) := by omega
      have hend : ns.take j = ns := List.take_of_length_le (by omega)
      rw [hend] at HA HPR
      clear hend
      go_wp2
      go_ret
      refine ⟨rfl, rowr, ?_, HFR.out, HRR.out⟩
      rw [HA.out]; exact HPR.out
    | succ m =>
      have hjl : j < ns.length := by omega
      have hlt : (j : Int) < (ns.length : Int) := by omega
      have hb0 : (0 : Int) ≤ (j : Int) := by omega
      obtain ⟨n, hn⟩ : ∃ n, ns[j]? = some n := ⟨ns[j], by simp [hjl]⟩
      obtain rfl := H2.out (by omega)
      obtain ⟨aow, nw, capw, hw1, -⟩ := HP.out
      have k1 := ints_cell hw1 HFR.out (H3.out j n hn) (HNR.out ⟨g, off, none⟩ cap rfl)
      obtain ⟨hn1, hn2⟩ := H4.out n (List.mem_of_getElem? hn)
      have HNJ := hide hn
      have HTS := hide (take_snoc hn)
      have HJ : Hid ((j : Int) + 1 < 140737488355328 + 1) := by have := H5.out; show _ < _; omega
      obtain ⟨aor, nr, capr, h1, ho, hrow, hrb, -, hbb, hbs⟩ := HPR.out
      have c0 := two_cell0 h1
      have c1 := two_cell1 h1
      have f0 := two_frozen h1 0
      have f1 := two_frozen h1 1
      have HH := hide h1
      have HO := hide ho
      clear hn hw1 h1 ho
      by_cases hfit : fitB n wd = true
      · have hf' : 0 ≤ n ∧ n ≤ (great wd : Int) := by simpa [fitB] using hfit
        obtain ⟨hf1, hf2⟩ := hf'
        obtain ⟨z, rfl⟩ : ∃ z : Nat, n = (z : Int) := ⟨n.toNat, by omega⟩
        have hz0 : ¬ (z : Int) < 0 := by omega
        have hz1 : ¬ (great wd : Int) < (z : Int) := by omega
        have hw64 : IntKind.u64.wrap (z : Int) = (z : Int) := by rw [IntKind.wrap_u64]; omega
        have HFIT := hide hfit
        have hlb : (xs ++ bytesOf wd (ns.take j)).length + 8 ≤ 140737488355328 := by
          rw [List.length_append, bytesOf_length, List.length_take]
          have h8 : wd ≤ 8 := by have := HWD.out; omega
          have hlen := HLEN.out
          have : wd * min j ns.length ≤ 8 * ns.length := Nat.mul_le_mul h8 (Nat.min_le_right _ _)
          omega
        have HLB := hide hlb
        clear hfit hlb
        have HROW := hide hrow
        have HRB := hide hrb
        clear hf1 hf2 hn1 hn2 hrow hrb
        have dz0 : decide ((z : Int) < 0) = false := by simp
        have dz1 : decide (great wd < z) = false := by simp; omega
        clear hz0 hz1
        go_wp2_with fail
        refine (greatest_any wd HWD.out _).mono ?_
        rintro e w' ⟨rfl, rfl⟩
        go_wp2_with fail
        have hrow := HROW.out
        have hrb := HRB.out
        refine (appendNumber_any wd HWD.out z _ _ base _ HO.out hbs HLB.out).mono ?_
        rintro e w1 ⟨u, rfl, hgw⟩
        obtain ⟨ao2, n2, cap2, rfl, HN2⟩ := hgw.form'
        have HGW := hide hgw
        have hb1 : w1.heap[b]? = some (.cells #[.slice aor nr capr, .bool false] 75 (0, 0)) := by
          rw [hgw.grown.block b HPR.out.block (by rw [← hrow]; exact fun e => hrb e.symm)]; exact HH.out
        have d0 := two_cell0 hb1
        have d1 := two_frozen hb1 0
        have HB1 := hide hb1
        clear hgw hb1
        have hjj := HJ.out
        go_wp2
        go_roundg m
        case measure => omega
        case rel =>
          have hne : (Value.slice ao2 n2 cap2).ownBlock ≠ some b := by
            intro e
            rcases HGW.out.at_ b e with h | h
            · exact hrb (hrow.trans h)
            · have := HPR.out.block; omega
          refine ⟨j + 1, (Value.slice ao2 n2 cap2).ownBlock, by omega, by go_num, ?_, ⟨ao2, n2, cap2, two_set0 _ HB1.out, ?_, rfl, hne, by simp, hbb, ?_⟩, ?_, ?_⟩
          · rw [HTS.out, List.all_append, HA.out]; simpa using HFIT.out
          · rw [HTS.out, bytesOf_snoc, ← List.append_assoc]; exact HGW.out.own.not_b hne _ _
          · have := HGW.out.grown.size; simp [World.setCell]; omega
          · refine (HFR.out.trans (Frm.of_grown HGW.out.grown) ?_).trans (Frm.of_set (row := none) (grown_set _ b 0 _)) (.inr (.inl rfl))
            rw [← hrow]
            cases hrr : rowr with
            | none => exact .inr (.inl rfl)
            | some k =>
              rcases HRR.out k hrr with h | h
              · exact .inl h.symm
              · exact .inr (.inr ⟨k, rfl, h⟩)
          · intro k hk
            rcases HGW.out.at_ k hk with h | h
            · exact HRR.out k (hrow.trans h)
            · right; have := HFR.out.size; omega
      · have hfit' : fitB n wd = false := by simpa using hfit
        have HALL : Hid (ns.all (fitB · wd) = false) := by
          show _ = _
          rw [List.all_eq_false]
          exact ⟨n, List.mem_of_getElem? HNJ.out, by simpa using hfit'⟩
        have hf' : n < 0 ∨ (great wd : Int) < n := by
          have : ¬ (0 ≤ n ∧ n ≤ (great wd : Int)) := by simpa [fitB] using hfit'
          omega
        clear hfit hfit'
        by_cases hn0 : n < 0
        · go_wp2
          go_ret
          refine ⟨rfl, none, ?_, HFR.out.trans (Frm.of_set (row := none) ((grown_set _ b 0 _).trans (grown_set _ b 1 _))) (.inr (.inl rfl)), by simp⟩
          rw [HALL.out]; exact Pk.spoiled HH.out hbb hbs
        · obtain ⟨z, rfl⟩ : ∃ z : Nat, n = (z : Int) := ⟨n.toNat, by omega⟩
          have dz0 : decide ((z : Int) < 0) = false := by simp
          have dz1 : decide (great wd < z) = true := by simp; omega
          have hw64 : IntKind.u64.wrap (z : Int) = (z : Int) := by rw [IntKind.wrap_u64]; omega
          go_wp2_with (go_at_call 57; refine (greatest_any wd HWD.out _).mono ?_; rintro e w' ⟨rfl, rfl⟩)
          go_ret
          refine ⟨rfl, none, ?_, HFR.out.trans (Frm.of_set (row := none) ((grown_set _ b 0 _).trans (grown_set _ b 1 _))) (.inr (.inl rfl)), by simp⟩
          rw [HALL.out]; exact Pk.spoiled HH.out hbb hbs
end Go.Proofs.YtcidadikmmdalaaDoor.Fr

/- The calls of packers and unpackers by their contracts. -/
namespace Go.Proofs.YtcidadikmmdalaaDoor.Fr
open Go.RowKit Go.Extern

/-- What a call of a spoiled packer leaves. -/
def Stays (base b : Nat) (row : Option Nat) (w w' : World) : Prop :=
  ∃ row', Pk w' base b row' [] true ∧ Frm w w' b row ∧ (∀ k, row' = some k → row = some k ∨ w.heap.size ≤ k)
theorem stays_refl {base b : Nat} {row : Option Nat} {w : World} (h : Pk w base b row [] true) : Stays base b row w w := ⟨row, h, Frm.refl _ _ _, fun _ h => .inl h⟩

set_option maxRecDepth 100000 in
set_option maxHeartbeats 1000000 in
theorem pput_spoiled (wd : Nat) (hwd : wd = 1 ∨ wd = 2 ∨ wd = 4 ∨ wd = 8) (base b : Nat) (row : Option Nat) (ns : List Int) (v : Value) (w : World) (hp : Pk w base b row [] true) (hv : Ints w v ns) :
    Calls Tryd.prog 42 #[.pointer (some ⟨b, 0, none⟩), .int .i64 (wd : Int), v] w fun e w' => e = .returned (.pointer (some ⟨b, 0, none⟩)) ∧ Stays base b row w w' := by
  obtain ⟨ao, cap, g, off, rfl, h2, h3, h4, -⟩ := hv
  have H2 := hide h2
  have H3 := hide h3
  have H4 := hide h4
  have HP := hide hp
  have HWD := hide hwd
  clear h2 h3 h4 hp hwd
  go_enter Tryd.func42, Tryd.ntmps42
  go_wp2
  go_loopg [11] 0 (fun _ i wr => wr = w ∧ i = .int .i64 0)
  case atStart => exact ⟨rfl, rfl⟩
  case round =>
    obtain ⟨rfl, rfl⟩ := hrel
    by_cases hns : ns.length = 0
    · have hnl : ¬ (0 : Int) < (ns.length : Int) := by omega
      clear hns
      go_wp2
      go_ret
      exact ⟨rfl, stays_refl HP.out⟩
    · have hjl : 0 < ns.length := by omega
      have hlt : (0 : Int) < (ns.length : Int) := by omega
      obtain ⟨n, hn⟩ : ∃ n, ns[0]? = some n := ⟨ns[0], by simp [hjl]⟩
      obtain rfl := H2.out (by omega)
      have k1 : wr.cell? ⟨g, off, none⟩ = some (.int .i64 n) := H3.out 0 n hn
      obtain ⟨hn1, hn2⟩ := H4.out n (List.mem_of_getElem? hn)
      obtain ⟨aor, nr, capr, h1, ho, hrow, hrb, hx, hbb, hbs⟩ := HP.out
      have c0 := two_cell0 h1
      have c1 := two_cell1 h1
      have f0 := two_frozen h1 0
      have f1 := two_frozen h1 1
      have HH := hide h1
      have HE : Hid (Stays base b row wr ((wr.setCell ⟨b, 0, none⟩ (.slice none 0 0)).setCell ⟨b, 1, none⟩ (.bool true))) :=
        ⟨none, Pk.spoiled h1 hbb hbs, Frm.of_set ((grown_set _ b 0 _).trans (grown_set _ b 1 _)), by simp⟩
      clear hn h1 ho hrow hrb hx hbb hbs hns
      by_cases hn0 : n < 0
      · go_wp2
        go_ret
        exact ⟨rfl, HE.out⟩
      · obtain ⟨z, rfl⟩ : ∃ z : Nat, n = (z : Int) := ⟨n.toNat, by omega⟩
        have hw64 : IntKind.u64.wrap (z : Int) = (z : Int) := by rw [IntKind.wrap_u64]; omega
        have dz0 : decide ((z : Int) < 0) = false := by simp
        clear hn0 hn1 hn2
        by_cases hg : great wd < z
        · have dz1 : decide (great wd < z) = true := by simpa using hg
          clear hg
          go_wp2_with (go_at_call 57; refine (greatest_any wd HWD.out _).mono ?_; rintro e w' ⟨rfl, rfl⟩)
          go_ret
          exact ⟨rfl, HE.out⟩
        · have dz1 : decide (great wd < z) = false := by simpa using hg
          clear hg
          go_wp2_with (go_at_call 57; refine (greatest_any wd HWD.out _).mono ?_; rintro e w' ⟨rfl, rfl⟩)
          go_ret
          exact ⟨rfl, stays_refl HP.out⟩

theorem pbytes_spoiled (base b : Nat) (row : Option Nat) (w : World) (hp : Pk w base b row [] true) :
    Calls Tryd.prog 23 #[.pointer (some ⟨b, 0, none⟩)] w fun e w' => e = .returned (.tuple #[.slice none 0 0, errV 20]) ∧ w' = w := by
  obtain ⟨ao, n, cap, h1, -⟩ := hp
  have c1 := two_cell1 h1
  clear h1
  go_enter Tryd.func23, Tryd.ntmps23
  go_wp2
  go_ret2
  exact ⟨rfl, rfl⟩
theorem pbytes_any (base b : Nat) (row : Option Nat) (xs : List Nat) (w : World) (hp : Pk w base b row xs false) :
    Calls Tryd.prog 23 #[.pointer (some ⟨b, 0, none⟩)] w fun e w' => ∃ u, e = .returned (.tuple #[u, errV 0]) ∧ Own w' w.heap.size u xs ∧ Below w.heap.size w w' := by
  obtain ⟨ao, n, cap, h1, h2, -⟩ := hp
  have c0 := two_cell0 h1
  have c1 := two_cell1 h1
  have H2 := hide (clone_any xs _ w h2.bytes)
  clear h1 h2
  go_enter Tryd.func23, Tryd.ntmps23
  go_wp2_with fail
  refine H2.out.mono ?_
  rintro e w' ⟨u, rfl, ho, hb⟩
  have HO := hide ho
  have HB := hide hb
  obtain ⟨ao2, cap2, rfl⟩ := ho.form
  clear ho hb
  go_wp2
  go_ret2
  exact ⟨_, rfl, HO.out, HB.out⟩

theorem newUnpacker_any (bs : List Nat) (v : Value) (w : World) (hv : Bytes w v bs) :
    Calls Tryd.prog 34 #[v] w fun e w' => ∃ b, e = .returned (.pointer (some ⟨b, 0, none⟩)) ∧ w.heap.size ≤ b ∧ Unp w' b bs false ∧ Below w.heap.size w w' := by
  have H2 := hide (clone_any bs _ w hv)
  obtain ⟨ao, cap, g, off, rfl, -⟩ := hv
  go_enter Tryd.func34, Tryd.ntmps34
  go_wp2_with fail
  refine H2.out.mono ?_
  rintro e w1 ⟨u, rfl, ho, hb⟩
  have HO := hide ho
  have HB := hide hb
  obtain ⟨ao2, cap2, rfl⟩ := ho.form
  clear ho hb
  go_wp2
  go_ret
  refine ⟨_, rfl, HB.out.size, ⟨ao2, _, cap2, heap_alloc_new _ _, HO.out.bytes.below ((Below.refl _ _).alloc (Nat.le_refl _) _), by simp⟩, HB.out.alloc HB.out.size _⟩

theorem done_any (b : Nat) (left : List Nat) (sp : Bool) (w : World) (hu : Unp w b left sp) :
    Calls Tryd.prog 37 #[.pointer (some ⟨b, 0, none⟩)] w fun e w' => e = .returned (errV (if sp || decide (0 < left.length) then 14 else 0)) ∧ w' = w := by
  obtain ⟨ao, n, cap, h1, h2, h3⟩ := hu
  have c0 := two_cell0 h1
  have c1 := two_cell1 h1
  obtain ⟨ao', cap', g, off, e, -⟩ := h2
  simp only [Value.slice.injEq] at e
  obtain ⟨rfl, rfl, rfl⟩ := e
  clear h1 h3
  cases sp with
  | true =>
    go_enter Tryd.func37, Tryd.ntmps37
    go_wp2
    go_ret
    exact ⟨rfl, rfl⟩
  | false =>
    by_cases hl : 0 < left.length
    · have hl' : (0 : Int) < (left.length : Int) := by omega
      have HE : Hid (errV (if false || decide (0 < left.length) then 14 else 0) = errV 14) := by show _ = _; simp [hl]
      rw [HE.out]
      go_enter Tryd.func37, Tryd.ntmps37
      go_wp2
      go_ret
      exact ⟨rfl, rfl⟩
    · have hl' : ¬ (0 : Int) < (left.length : Int) := by omega
      have HE : Hid (errV (if false || decide (0 < left.length) then 14 else 0) = errV 0) := by show _ = _; simp [hl]
      rw [HE.out]
      go_enter Tryd.func37, Tryd.ntmps37
      go_wp2
      go_ret
      exact ⟨rfl, rfl⟩

theorem PByte_any (base b : Nat) (row : Option Nat) (xs : List Nat) (ns : List Int) (v : Value) (w : World) (hp : Pk w base b row xs false) (hv : Ints w v ns) (hlen : xs.length + 8 * ns.length + 8 ≤ 140737488355328) (hnr : ∀ g cap, v = .slice (some g) ns.length cap → some g.block ≠ row) :
    Calls Tryd.prog 20 #[.pointer (some ⟨b, 0, none⟩), v] w fun e w' => e = .returned (.pointer (some ⟨b, 0, none⟩)) ∧ Putted 1 base b row xs ns w w' := by
  have H := hide (pput_any 1 (by simp) base b row xs ns v w hp hv hlen hnr)
  obtain ⟨ao, cap, g, off, rfl, -⟩ := hv
  clear hp hnr hlen
  go_enter Tryd.func20, Tryd.ntmps20
  go_wp2_with fail
  refine H.out.mono ?_
  rintro e w' ⟨rfl, hq⟩
  have HQ := hide hq
  clear hq H
  go_wp2
  go_ret
  exact ⟨rfl, HQ.out⟩
theorem PByte_spoiled (base b : Nat) (row : Option Nat) (ns : List Int) (v : Value) (w : World) (hp : Pk w base b row [] true) (hv : Ints w v ns) :
    Calls Tryd.prog 20 #[.pointer (some ⟨b, 0, none⟩), v] w fun e w' => e = .returned (.pointer (some ⟨b, 0, none⟩)) ∧ Stays base b row w w' := by
  have H := hide (pput_spoiled 1 (by simp) base b row ns v w hp hv)
  obtain ⟨ao, cap, g, off, rfl, -⟩ := hv
  clear hp
  go_enter Tryd.func20, Tryd.ntmps20
  go_wp2_with fail
  refine H.out.mono ?_
  rintro e w' ⟨rfl, hq⟩
  have HQ := hide hq
  clear hq H
  go_wp2
  go_ret
  exact ⟨rfl, HQ.out⟩
theorem PLong_any (base b : Nat) (row : Option Nat) (xs : List Nat) (ns : List Int) (v : Value) (w : World) (hp : Pk w base b row xs false) (hv : Ints w v ns) (hlen : xs.length + 8 * ns.length + 8 ≤ 140737488355328) (hnr : ∀ g cap, v = .slice (some g) ns.length cap → some g.block ≠ row) :
    Calls Tryd.prog 22 #[.pointer (some ⟨b, 0, none⟩), v] w fun e w' => e = .returned (.pointer (some ⟨b, 0, none⟩)) ∧ Putted 8 base b row xs ns w w' := by
  have H := hide (pput_any 8 (by simp) base b row xs ns v w hp hv hlen hnr)
  obtain ⟨ao, cap, g, off, rfl, -⟩ := hv
  clear hp hnr hlen
  go_enter Tryd.func22, Tryd.ntmps22
  go_wp2_with fail
  refine H.out.mono ?_
  rintro e w' ⟨rfl, hq⟩
  have HQ := hide hq
  clear hq H
  go_wp2
  go_ret
  exact ⟨rfl, HQ.out⟩
theorem PLong_spoiled (base b : Nat) (row : Option Nat) (ns : List Int) (v : Value) (w : World) (hp : Pk w base b row [] true) (hv : Ints w v ns) :
    Calls Tryd.prog 22 #[.pointer (some ⟨b, 0, none⟩), v] w fun e w' => e = .returned (.pointer (some ⟨b, 0, none⟩)) ∧ Stays base b row w w' := by
  have H := hide (pput_spoiled 8 (by simp) base b row ns v w hp hv)
  obtain ⟨ao, cap, g, off, rfl, -⟩ := hv
  clear hp
  go_enter Tryd.func22, Tryd.ntmps22
  go_wp2_with fail
  refine H.out.mono ?_
  rintro e w' ⟨rfl, hq⟩
  have HQ := hide hq
  clear hq H
  go_wp2
  go_ret
  exact ⟨rfl, HQ.out⟩
theorem UByte_any (b : Nat) (left : List Nat) (sp : Bool) (w : World) (hu : Unp w b left sp) :
    Calls Tryd.prog 35 #[.pointer (some ⟨b, 0, none⟩)] w fun e w' => e = .returned (.int .i64 (rdN left 1 : Nat)) ∧ Unp w' b (rdL left 1) (rdS left sp 1) ∧ w.grownBy w' (some b) := by
  have H := hide (unext_any 1 (by simp) b left sp w hu)
  clear hu
  generalize rdN left 1 = x at *
  generalize rdL left 1 = y at *
  generalize rdS left sp 1 = z at *
  go_enter Tryd.func35, Tryd.ntmps35
  go_wp2_with fail
  refine H.out.mono ?_
  rintro e w' ⟨rfl, hq, hg⟩
  have HQ := hide hq
  have HG := hide hg
  clear hq hg H
  go_wp2
  go_ret
  exact ⟨rfl, HQ.out, HG.out⟩
theorem ULong_any (b : Nat) (left : List Nat) (sp : Bool) (w : World) (hu : Unp w b left sp) :
    Calls Tryd.prog 36 #[.pointer (some ⟨b, 0, none⟩)] w fun e w' => e = .returned (.int .i64 (rdN left 8 : Nat)) ∧ Unp w' b (rdL left 8) (rdS left sp 8) ∧ w.grownBy w' (some b) := by
  have H := hide (unext_any 8 (by simp) b left sp w hu)
  clear hu
  generalize rdN left 8 = x at *
  generalize rdL left 8 = y at *
  generalize rdS left sp 8 = z at *
  go_enter Tryd.func36, Tryd.ntmps36
  go_wp2_with fail
  refine H.out.mono ?_
  rintro e w' ⟨rfl, hq, hg⟩
  have HQ := hide hq
  have HG := hide hg
  clear hq hg H
  go_wp2
  go_ret
  exact ⟨rfl, HQ.out, HG.out⟩
end Go.Proofs.YtcidadikmmdalaaDoor.Fr

/- Steps of packers, spoiled or not; what is read back from their bytes. -/
namespace Go.Proofs.YtcidadikmmdalaaDoor.Fr
open Go.RowKit Go.Extern

/-- Numbers laid in a new block. -/
theorem ints_lit (w : World) (ns : List Int) (hn : ∀ n ∈ ns, -9223372036854775808 ≤ n ∧ n < 9223372036854775808) (hl : ns.length ≤ 140737488355328) : Ints (w.alloc (.cells (ns.map (Value.int .i64)).toArray 3)) (.slice (some ⟨w.heap.size, 0, none⟩) ns.length ns.length) ns := by
  refine ⟨_, _, w.heap.size, 0, rfl, fun _ => rfl, fun i n hi => ?_, hn, hl⟩
  rw [cell_of_row _ _ _ _ _ _ (heap_alloc_new w _), List.getElem?_toArray, Nat.zero_add]
  simp [hi]

/-- A packer behind some steps: its bytes, or spoiled. -/
def PkS (w : World) (base b : Nat) (row : Option Nat) (ok : Bool) (xs : List Nat) : Prop := Pk w base b row (if ok then xs else []) (!ok)
/-- What a step leaves. -/
def Stepped (wd base b : Nat) (row : Option Nat) (ok : Bool) (xs : List Nat) (ns : List Int) (w w' : World) : Prop :=
  ∃ row', PkS w' base b row' (ok && ns.all (fitB · wd)) (xs ++ bytesOf wd ns) ∧ Frm w w' b row ∧ (∀ k, row' = some k → row = some k ∨ w.heap.size ≤ k)
theorem stepped_putted {wd base b : Nat} {row : Option Nat} {xs : List Nat} {ns : List Int} {w w' : World} (h : Putted wd base b row xs ns w w') : Stepped wd base b row true xs ns w w' := by
  obtain ⟨row', h1, h2⟩ := h
  exact ⟨row', by simpa [PkS] using h1, h2⟩
theorem stepped_stays {wd base b : Nat} {row : Option Nat} {xs : List Nat} {ns : List Int} {w w' : World} (h : Stays base b row w w') : Stepped wd base b row false xs ns w w' := by
  obtain ⟨row', h1, h2⟩ := h
  exact ⟨row', by simpa [PkS] using h1, h2⟩
theorem PkS.alloc {w : World} {base b : Nat} {row : Option Nat} {ok : Bool} {xs : List Nat} (h : PkS w base b row ok xs) (o : Obj) : PkS (w.alloc o) base b row ok xs := Pk.below h ((Below.refl _ _).alloc (Nat.le_refl _) o)
theorem PkS.below {w w' : World} {base b : Nat} {row : Option Nat} {ok : Bool} {xs : List Nat} (h : PkS w base b row ok xs) (hb : Below w.heap.size w w') : PkS w' base b row ok xs := Pk.below h hb
/-- The numbers' new block is not the packer's row. -/
theorem hnr_lit {w : World} {base b : Nat} {row : Option Nat} {ok : Bool} {xs : List Nat} (h : PkS w base b row ok xs) (n n2 m : Nat) : ∀ g cap, Value.slice (some ⟨w.heap.size, 0, none⟩) n n2 = .slice (some g) m cap → some g.block ≠ row := by
  intro g cap e hr
  simp only [Value.slice.injEq, Option.some.injEq] at e
  obtain ⟨rfl, -⟩ := e
  have := (Pk.row_ge h _ hr.symm).2
  simp at this
/-- Another packer, older than the block 'H', is as it was. -/
theorem PkS.older {w w' : World} {base b b2 H : Nat} {row row2 : Option Nat} {ok : Bool} {xs : List Nat} (h : PkS w base b row ok xs) (hb : b < H) (hr : ∀ k, row = some k → k < H) (hf : Frm w w' b2 row2) (hb2 : H ≤ b2) (hr2 : ∀ k, row2 = some k → H ≤ k) : PkS w' base b row ok xs := by
  refine Pk.other h hf (by omega) (fun e => ?_) (fun e => ?_) ?_
  · have := hr2 b e.symm; omega
  · have := hr b2 e; omega
  · cases row with
    | none => exact .inl rfl
    | some k => exact .inr (fun e => by have := hr k rfl; have := hr2 k e.symm; omega)
theorem Stepped.below {base b : Nat} {row : Option Nat} {ok : Bool} {xs : List Nat} {w w' : World} (h : PkS w base b row ok xs) (hf : Frm w w' b row) : Below base w w' := by
  obtain ⟨_, _, _, _, _, _, _, _, h6, h7⟩ := id h
  exact hf.below h7 h6 (fun k hk => (Pk.row_ge h k hk).1)

theorem pkS_bytes (base b : Nat) (row : Option Nat) (ok : Bool) (xs : List Nat) (w : World) (hp : PkS w base b row ok xs) :
    Calls Tryd.prog 23 #[.pointer (some ⟨b, 0, none⟩)] w fun e w' => ∃ u, e = .returned (.tuple #[u, errV (if ok then 0 else 20)]) ∧ Own w' w.heap.size u (if ok then xs else []) ∧ Below w.heap.size w w' := by
  cases ok with
  | true =>
    have := pbytes_any base b row xs w (by simpa [PkS] using hp)
    simpa using this
  | false =>
    refine (pbytes_spoiled base b row w (by simpa [PkS] using hp)).mono ?_
    rintro e w' ⟨rfl, rfl⟩
    exact ⟨_, rfl, Own.nil _ _, Below.refl _ _⟩

/-- A number that was put is there. -/
theorem read_be (wd n : Nat) (r : List Nat) (hg : n ≤ great wd) (hl : n < 256 ^ wd) : readOk (be wd n ++ r) wd = true ∧ rdN (be wd n ++ r) wd = n ∧ rdL (be wd n ++ r) wd = r := by
  have ht : (be wd n ++ r).take wd = be wd n := by rw [List.take_append_of_le_length (by rw [be_length]; exact Nat.le_refl _), List.take_of_length_le (by rw [be_length]; exact Nat.le_refl _)]
  have hd : (be wd n ++ r).drop wd = r := by rw [List.drop_append_of_le_length (by rw [be_length]; exact Nat.le_refl _), List.drop_of_length_le (by rw [be_length]; exact Nat.le_refl _)]; rfl
  have hok : readOk (be wd n ++ r) wd = true := by
    unfold readOk
    rw [ht, val_be wd n hl]
    simp [be_length, hg]
  refine ⟨hok, ?_, ?_⟩
  · unfold rdN; rw [hok, if_pos rfl, ht, val_be wd n hl]
  · unfold rdL; rw [hok, if_pos rfl, hd]
theorem great_pow (wd n : Nat) (hwd : wd = 1 ∨ wd = 2 ∨ wd = 4 ∨ wd = 8) (h : n ≤ great wd) : n < 256 ^ wd := by
  rcases hwd with rfl | rfl | rfl | rfl <;> simp [great] at h ⊢ <;> omega
theorem fit_nat {n : Int} {wd : Nat} (h : fitB n wd = true) : ∃ k : Nat, n = (k : Int) ∧ k ≤ great wd := by
  have hf' : 0 ≤ n ∧ n ≤ (great wd : Int) := by simpa [fitB] using h
  exact ⟨n.toNat, by omega, by omega⟩
theorem PByte_step (base b : Nat) (row : Option Nat) (ok : Bool) (xs : List Nat) (ns : List Int) (v : Value) (w : World) (hp : PkS w base b row ok xs) (hv : Ints w v ns) (hlen : xs.length + 8 * ns.length + 8 ≤ 140737488355328) (hnr : ∀ g cap, v = .slice (some g) ns.length cap → some g.block ≠ row) :
    Calls Tryd.prog 20 #[.pointer (some ⟨b, 0, none⟩), v] w fun e w' => e = .returned (.pointer (some ⟨b, 0, none⟩)) ∧ Stepped 1 base b row ok xs ns w w' := by
  cases ok with
  | true => exact (PByte_any base b row xs ns v w (by simpa [PkS] using hp) hv hlen hnr).mono fun e w' ⟨h1, h2⟩ => ⟨h1, stepped_putted h2⟩
  | false => exact (PByte_spoiled base b row ns v w (by simpa [PkS] using hp) hv).mono fun e w' ⟨h1, h2⟩ => ⟨h1, stepped_stays h2⟩
theorem PLong_step (base b : Nat) (row : Option Nat) (ok : Bool) (xs : List Nat) (ns : List Int) (v : Value) (w : World) (hp : PkS w base b row ok xs) (hv : Ints w v ns) (hlen : xs.length + 8 * ns.length + 8 ≤ 140737488355328) (hnr : ∀ g cap, v = .slice (some g) ns.length cap → some g.block ≠ row) :
    Calls Tryd.prog 22 #[.pointer (some ⟨b, 0, none⟩), v] w fun e w' => e = .returned (.pointer (some ⟨b, 0, none⟩)) ∧ Stepped 8 base b row ok xs ns w w' := by
  cases ok with
  | true => exact (PLong_any base b row xs ns v w (by simpa [PkS] using hp) hv hlen hnr).mono fun e w' ⟨h1, h2⟩ => ⟨h1, stepped_putted h2⟩
  | false => exact (PLong_spoiled base b row ns v w (by simpa [PkS] using hp) hv).mono fun e w' ⟨h1, h2⟩ => ⟨h1, stepped_stays h2⟩
end Go.Proofs.YtcidadikmmdalaaDoor.Fr

/- The document's answer: Number, Read and Sum, by their contracts. -/
namespace Go.Proofs.YtcidadikmmdalaaDoor.Fr
open Go.RowKit Go.Extern

set_option maxRecDepth 100000 in
set_option maxHeartbeats 1000000 in
theorem number_any (n : Nat) (wd : Nat) (hwd : wd ≤ 8) (hn : n < 9223372036854775808) (w : World) :
    Calls Tryd.prog 27 #[.int .i64 (n : Int), .int .i64 (wd : Int)] w fun e w' => ∃ u, e = .returned u ∧ Own w' w.heap.size u (be wd n) ∧ Below w.heap.size w w' := by
  go_enter Tryd.func27, Tryd.ntmps27
  go_wp2
  go_loopg [0, 5, 6] wd (fun k m u i wr => ∃ j, j + k = wd ∧ i = .int .i64 (j : Int) ∧ m = .int .i64 ((n / 256 ^ j : Nat) : Int) ∧ Own wr w.heap.size u (be j n) ∧ Below w.heap.size w wr)
  case atStart => exact ⟨0, by omega, rfl, by simp, Own.nil _ _, Below.refl _ _⟩
  case round =>
    obtain ⟨j, hj, rfl, hx, hown, hb⟩ := hrel
    have HX : Hid (n / 256 ^ (j + 1) = n / 256 ^ j / 256) := by show _ = _; rw [Nat.pow_succ, Nat.div_div_eq_div_mul]
    have hle : n / 256 ^ j ≤ n := Nat.div_le_self _ _
    have HO := hide hown
    have HB := hide hb
    obtain ⟨ao, cap, rfl⟩ := hown.form
    clear hown hb
    cases gk with
    | zero =>
      have hjw : wd = j := by omega
      have hnl : ¬ (j : Int) < (wd : Int) := by omega
      have HW := hide hjw
      clear HX hle hjw
      generalize n / 256 ^ j = x at hx
      subst hx
      go_wp2
      go_ret
      exact ⟨_, rfl, by rw [HW.out]; exact HO.out, HB.out⟩
    | succ k =>
      have hjl : (j : Int) < (wd : Int) := by omega
      have hj0 : (0 : Int) ≤ (j : Int) := by omega
      have HBE : Hid (be (j + 1) n = (n / 256 ^ j % 256) :: be j n) := rfl
      generalize n / 256 ^ j = x at hx HX hle HBE
      subst hx
      have hx0 : (0 : Int) ≤ (x : Int) := by omega
      have hx1 : (x : Int) < 9223372036854775808 := by omega
      have q1 : IntKind.u8.wrap ((x : Int) % 256) = ((x % 256 : Nat) : Int) := by rw [IntKind.wrap_u8']; omega
      have HL : Hid (x % 256 < 256) := Nat.mod_lt _ (by decide)
      generalize x % 256 = b at q1 HL HBE
      go_wp2_with (at_builtin; refine wpList_append_bytes rfl _ _ rfl w.heap.size _ _ [b] (be j n) rfl rfl (Own.lit wr w.heap.size HB.out.size [b] (by simp; exact HL.out) (by simp)) (HO.out.bytes.below ((Below.refl _ _).alloc (Nat.le_refl _) _)) (by rw [be_length]; simp; omega) (by have := HB.out.size; simp; omega) ?_)
      intro v' w' ho hg hat
      have HO2 := hide ho
      have HB2 := hide ((HB.out.alloc HB.out.size (.cells (cellsB [b]).toArray 5)).grown hg (by have := HB.out.size; simp; omega) (by have := HB.out.size; simp [Value.ownBlock]; omega))
      obtain ⟨ao2, cap2, rfl⟩ := ho.form
      clear ho hg hat
      go_wp2
      go_roundg k
      case measure => omega
      case rel => exact ⟨j + 1, by omega, by go_num, by rw [HX.out]; rfl, by rw [HBE.out]; exact HO2.out, HB2.out⟩
end Go.Proofs.YtcidadikmmdalaaDoor.Fr
