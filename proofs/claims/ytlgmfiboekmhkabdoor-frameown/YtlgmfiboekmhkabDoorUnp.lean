/- An unpacker by the contracts of its calls. -/
import Derived.Test.YtlgmfiboekmhkabDoorCut
import Derived.Test.YtlgmfiboekmhkabDoorFit
import Derived.Test.YtlgmfiboekmhkabDoorErr
import Derived.Laws.Tables
namespace Go.Proofs.YtlgmfiboekmhkabDoor
open Go.RowKit Go.Extern

theorem two_cell0 {w : World} {b : Nat} {x y : Value} {T : TypeId} (h : w.heap[b]? = some (.cells #[x, y] T (0, 0))) : w.cell? ⟨b, 0, none⟩ = some x := by rw [cell_of_row w b 0 _ _ _ h]; rfl
theorem two_cell1 {w : World} {b : Nat} {x y : Value} {T : TypeId} (h : w.heap[b]? = some (.cells #[x, y] T (0, 0))) : w.cell? ⟨b, 1, none⟩ = some y := by rw [cell_of_row w b 1 _ _ _ h]; rfl
theorem two_frozen {w : World} {b : Nat} {x y : Value} {T : TypeId} (h : w.heap[b]? = some (.cells #[x, y] T (0, 0))) (i : Nat) : w.frozen? ⟨b, i, none⟩ = false := by simp [World.frozen?, h]
theorem two_set0 {w : World} {b : Nat} {x y : Value} {T : TypeId} (z : Value) (h : w.heap[b]? = some (.cells #[x, y] T (0, 0))) : (w.setCell ⟨b, 0, none⟩ z).heap[b]? = some (.cells #[z, y] T (0, 0)) := by
  rw [setCell_eq_setRow w b 0 _ _ _ z h]
  exact setRow_heap w b _ _ _ _ h
theorem two_set1 {w : World} {b : Nat} {x y : Value} {T : TypeId} (z : Value) (h : w.heap[b]? = some (.cells #[x, y] T (0, 0))) : (w.setCell ⟨b, 1, none⟩ z).heap[b]? = some (.cells #[x, z] T (0, 0)) := by
  rw [setCell_eq_setRow w b 1 _ _ _ z h]
  exact setRow_heap w b _ _ _ _ h
theorem grown_set (w : World) (b i : Nat) (z : Value) : w.grownBy (w.setCell ⟨b, i, none⟩ z) (some b) :=
  ⟨rfl, rfl, rfl, by simp [World.setCell], fun k _ hne => Below.heap_setCell _ _ _ _ (fun e => hne (by rw [e]))⟩
theorem grown_below {w w' : World} (hb : Below w.heap.size w w') (row : Option Nat) : w.grownBy w' row := ⟨hb.os, hb.tape, hb.output, hb.size, fun k hk _ => hb.block k hk⟩
theorem below_grown {w w' : World} {b B : Nat} (hg : w.grownBy w' (some b)) (hB : B ≤ b) (hw : B ≤ w.heap.size) : Below B w w' := ⟨hg.os, hg.tape, hg.output, hg.size, fun k hk => hg.block k (by omega) (by simp; omega)⟩
theorem heap_below {w w' : World} {b : Nat} {o : Obj} (hb : Below w.heap.size w w') (h : w.heap[b]? = some o) : w'.heap[b]? = some o := by
  rw [hb.block b ?_]; exact h
  rcases Nat.lt_or_ge b w.heap.size with q | q
  · exact q
  · rw [Array.getElem?_eq_none q] at h; cases h

/-- Bytes do not lie in a block that begins with a slice and a bool. -/
theorem Bytes.grown {w w' : World} {b : Nat} {ao : Option Addr} {n cap : Nat} {sp : Bool} {T : TypeId} (hh : w.heap[b]? = some (.cells #[.slice ao n cap, .bool sp] T (0, 0))) (hg : w.grownBy w' (some b)) {v : Value} {bs : List Nat} (h : Bytes w v bs) : Bytes w' v bs := by
  obtain ⟨ao, cap, g, off, h1, h2, h3, h4⟩ := h
  refine ⟨ao, cap, g, off, h1, h2, fun i q hq => ?_, h4⟩
  have hc := h3 i q hq
  by_cases e : g = b
  · subst e
    exfalso
    rw [cell_of_row w g _ _ _ _ hh] at hc
    rcases Nat.lt_or_ge (off + i) 2 with hl | hl
    · rcases (by omega : off + i = 0 ∨ off + i = 1) with e | e <;> rw [e] at hc <;> simp at hc
    · rw [Array.getElem?_eq_none (by simpa using hl)] at hc; cases hc
  · exact hg.cell hc (by simpa using e)
theorem Laid.grown {w w' : World} {b : Nat} {ao : Option Addr} {n cap : Nat} {sp : Bool} {T : TypeId} (hh : w.heap[b]? = some (.cells #[.slice ao n cap, .bool sp] T (0, 0))) (hg : w.grownBy w' (some b)) (h : Laid w) : Laid w' := fun i hi => by
  have hc := h i hi
  by_cases e : 0 = b
  · subst e
    exfalso
    rw [cell_of_row w 0 _ _ _ _ hh] at hc
    rcases Nat.lt_or_ge i 2 with hl | hl
    · rcases (by omega : i = 0 ∨ i = 1) with e | e <;> rw [e] at hc <;> simp at hc
    · rw [Array.getElem?_eq_none (by simpa using hl)] at hc; cases hc
  · exact hg.cell hc (by simpa using e)

/-- In the world 'w' the block 'b' is an unpacker with so many bytes left, spoiled or not. -/
def Unp (w : World) (b : Nat) (left : List Nat) (sp : Bool) : Prop :=
  ∃ ao n cap, w.heap[b]? = some (.cells #[.slice ao n cap, .bool sp] 57 (0, 0)) ∧ Bytes w (.slice ao n cap) left ∧ (sp = true → left = [])
theorem Unp.below {w w' : World} {b : Nat} {left : List Nat} {sp : Bool} (h : Unp w b left sp) (hb : Below w.heap.size w w') : Unp w' b left sp := by
  obtain ⟨ao, n, cap, h1, h2, h3⟩ := h
  exact ⟨ao, n, cap, heap_below hb h1, h2.below hb, h3⟩

theorem spoil_any (b : Nat) (left : List Nat) (sp : Bool) (w : World) (hu : Unp w b left sp) :
    Calls Tryd.prog 31 #[.pointer (some ⟨b, 0, none⟩)] w fun e w' => e = .returned (.int .i64 0) ∧ Unp w' b [] true ∧ w.grownBy w' (some b) := by
  obtain ⟨ao, n, cap, h1, -, -⟩ := hu
  have c0 := two_cell0 h1
  have c1 := two_cell1 h1
  have f0 := two_frozen h1 0
  have f1 := two_frozen h1 1
  have H1 := hide h1
  clear h1
  go_enter Tryd.func31, Tryd.ntmps31
  go_wp2
  go_ret
  refine ⟨rfl, ⟨none, 0, 0, two_set1 _ (two_set0 _ H1.out), Bytes.nil _, fun _ => rfl⟩, ?_⟩
  exact (grown_set w b 0 _).trans (grown_set _ b 1 _)

/-- Is a number there? -/
def readOk (left : List Nat) (wd : Nat) : Bool := decide (wd ≤ left.length ∧ val (left.take wd) ≤ great wd)

theorem great_lt (wd : Nat) (hwd : wd = 1 ∨ wd = 2 ∨ wd = 4 ∨ wd = 8) : great wd < 9223372036854775808 := by
  rcases hwd with rfl | rfl | rfl | rfl <;> decide

set_option maxRecDepth 100000 in
set_option maxHeartbeats 1000000 in
theorem unext_yes (wd : Nat) (hwd : wd = 1 ∨ wd = 2 ∨ wd = 4 ∨ wd = 8) (b : Nat) (left : List Nat) (sp : Bool) (w : World) (hu : Unp w b left sp) (hok : readOk left wd = true) :
    Calls Tryd.prog 28 #[.pointer (some ⟨b, 0, none⟩), .int .i64 (wd : Int)] w fun e w' => e = .returned (.int .i64 (val (left.take wd) : Nat)) ∧ Unp w' b (left.drop wd) sp ∧ w.grownBy w' (some b) := by
  obtain ⟨ao, n, cap, h1, h2, h3⟩ := hu
  have hok' : wd ≤ left.length ∧ val (left.take wd) ≤ great wd := by simpa [readOk] using hok
  obtain ⟨hl, hg⟩ := hok'
  have hsp : Hid (sp = true → left.drop wd = []) := fun e => by rw [h3 e]; simp
  obtain ⟨an, nn, cn, hcut, HCut⟩ := cut_from w _ left wd h2 hl
  have HR := hide (readNumber_any wd hwd left hl _ w h2)
  have H2 := hide h2
  obtain ⟨ao', cap', g, off, e, -⟩ := h2
  simp only [Value.slice.injEq] at e
  obtain ⟨rfl, rfl, rfl⟩ := e
  have c0 := two_cell0 h1
  have H1 := hide h1
  have hnl : ¬ (left.length : Int) < (wd : Int) := by omega
  have hgi : ¬ (great wd : Int) < ((val (left.take wd) : Nat) : Int) := by omega
  have hg2 := great_lt wd hwd
  have hw64 : IntKind.i64.wrap ((val (left.take wd) : Nat) : Int) = ((val (left.take wd) : Nat) : Int) := by rw [IntKind.wrap_i64]; omega
  have HWD := hide hwd
  generalize val (left.take wd) = x at *
  clear h1 h3 hok hg hl hwd
  go_enter Tryd.func28, Tryd.ntmps28
  go_wp2_with fail
  refine HR.out.mono ?_
  rintro e w1 ⟨rfl, hb1⟩
  have HB1 := hide hb1
  have h1' := heap_below hb1 H1.out
  have d0 := two_cell0 h1'
  have d1 := two_frozen h1' 0
  have H1' := hide h1'
  clear hb1 h1'
  go_wp2_with (go_at_call 30; refine (greatest_any wd HWD.out _).mono ?_; rintro e w' ⟨rfl, rfl⟩)
  go_ret
  refine ⟨rfl, ⟨an, nn, cn, two_set0 _ H1'.out, ?_, hsp.out⟩, ?_⟩
  · exact Bytes.grown H1'.out (grown_set _ b 0 _) (HCut.out.below HB1.out)
  · exact (grown_below HB1.out _).trans (grown_set _ b 0 _)

set_option maxRecDepth 100000 in
set_option maxHeartbeats 1000000 in
theorem unext_no (wd : Nat) (hwd : wd = 1 ∨ wd = 2 ∨ wd = 4 ∨ wd = 8) (b : Nat) (left : List Nat) (sp : Bool) (w : World) (hu : Unp w b left sp) (hok : readOk left wd = false) :
    Calls Tryd.prog 28 #[.pointer (some ⟨b, 0, none⟩), .int .i64 (wd : Int)] w fun e w' => e = .returned (.int .i64 0) ∧ Unp w' b [] true ∧ w.grownBy w' (some b) := by
  have HU := hide hu
  obtain ⟨ao, n, cap, h1, h2, h3⟩ := hu
  have HWD := hide hwd
  by_cases hl : wd ≤ left.length
  · have hg : great wd < val (left.take wd) := by
      have : ¬ (wd ≤ left.length ∧ val (left.take wd) ≤ great wd) := by simpa [readOk] using hok
      omega
    have HR := hide (readNumber_any wd hwd left hl _ w h2)
    obtain ⟨ao', cap', g, off, e, -⟩ := h2
    simp only [Value.slice.injEq] at e
    obtain ⟨rfl, rfl, rfl⟩ := e
    have c0 := two_cell0 h1
    have hnl : ¬ (left.length : Int) < (wd : Int) := by omega
    have hgi : (great wd : Int) < ((val (left.take wd) : Nat) : Int) := by omega
    generalize val (left.take wd) = x at *
    clear h1 h3 hok hg hl hwd
    go_enter Tryd.func28, Tryd.ntmps28
    go_wp2_with fail
    refine HR.out.mono ?_
    rintro e w1 ⟨rfl, hb1⟩
    have HB1 := hide hb1
    clear hb1
    go_wp2_with (first
      | (go_at_call 30; refine (greatest_any wd HWD.out _).mono ?_; rintro e w' ⟨rfl, rfl⟩)
      | (go_at_call 31; refine (spoil_any b left sp _ (HU.out.below HB1.out)).mono ?_; rintro e w' ⟨rfl, hu2, hg2⟩))
    go_ret
    exact ⟨rfl, hu2, (grown_below HB1.out _).trans hg2⟩
  · obtain ⟨ao', cap', g, off, e, -⟩ := h2
    simp only [Value.slice.injEq] at e
    obtain ⟨rfl, rfl, rfl⟩ := e
    have c0 := two_cell0 h1
    have hnl : (left.length : Int) < (wd : Int) := by omega
    clear h1 h3 hok hl hwd
    go_enter Tryd.func28, Tryd.ntmps28
    go_wp2_with (go_at_call 31; refine (spoil_any b left sp _ HU.out).mono ?_; rintro e w' ⟨rfl, hu2, hg2⟩)
    go_ret
    exact ⟨rfl, hu2, hg2⟩

/-- The number that a read tells, and what is left behind it. -/
def rdN (left : List Nat) (wd : Nat) : Nat := if readOk left wd then val (left.take wd) else 0
def rdL (left : List Nat) (wd : Nat) : List Nat := if readOk left wd then left.drop wd else []
def rdS (left : List Nat) (sp : Bool) (wd : Nat) : Bool := sp || !readOk left wd
theorem unext_any (wd : Nat) (hwd : wd = 1 ∨ wd = 2 ∨ wd = 4 ∨ wd = 8) (b : Nat) (left : List Nat) (sp : Bool) (w : World) (hu : Unp w b left sp) :
    Calls Tryd.prog 28 #[.pointer (some ⟨b, 0, none⟩), .int .i64 (wd : Int)] w fun e w' => e = .returned (.int .i64 (rdN left wd : Nat)) ∧ Unp w' b (rdL left wd) (rdS left sp wd) ∧ w.grownBy w' (some b) := by
  cases hok : readOk left wd with
  | true =>
    have := unext_yes wd hwd b left sp w hu hok
    simpa [rdN, rdL, rdS, hok] using this
  | false =>
    have := unext_no wd hwd b left sp w hu hok
    simpa [rdN, rdL, rdS, hok] using this
end Go.Proofs.YtlgmfiboekmhkabDoor
