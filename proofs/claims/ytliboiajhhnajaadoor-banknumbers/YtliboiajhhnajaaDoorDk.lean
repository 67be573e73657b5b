/- A disk in memory: its sectors, the writes that wait, and what stays of it while other memory turns. -/
import Derived.Test.YtliboiajhhnajaaDoorFlat
namespace Go.Proofs.YtliboiajhhnajaaDoor
open Go.RowKit Go.Extern

def I64 (k : Int) : Prop := -9223372036854775808 ≤ k ∧ k < 9223372036854775808
theorem I64.wf {k : Int} (h : I64 k) : (Lit.int .i64 k).wf = true := by
  simp only [Lit.wf, IntKind.min, IntKind.max, IntKind.bits, IntKind.signed]; unfold I64 at h; simp; omega
theorem I64.of_wf {k : Int} (h : (Lit.int .i64 k).wf = true) : I64 k := by
  have : (-9223372036854775808 : Int) ≤ k ∧ k ≤ 9223372036854775807 := by simpa [Lit.wf, IntKind.min, IntKind.max, IntKind.bits, IntKind.signed] using h
  unfold I64; omega
theorem I64.nat {n : Nat} (h : n ≤ 4096) : I64 (n : Int) := by unfold I64; omega

/-- A sector: what it holds for good, whether it is bad, what waits. -/
structure Sec where
  dur : List Nat
  bad : Bool
  wait : List (List Nat)

/-- A sector's bytes. -/
def Con (c : List Nat) : Prop := c.length = 128 ∧ ∀ b ∈ c, b < 256
def zeros : List Nat := List.replicate 128 0
theorem zeros_con : Con zeros := ⟨by simp [zeros], fun b hb => by simp [zeros] at hb; omega⟩
def GoodSec (s : Sec) : Prop := Con s.dur ∧ ∀ c ∈ s.wait, Con c
def Good (S : List Sec) : Prop := S.length ≤ 4096 ∧ ∀ s ∈ S, GoodSec s

/-- The cells of a sector, of sectors, of writes. -/
def secC (s : Sec) : List Value := cellsB s.dur ++ [.bool s.bad]
def secsC (S : List Sec) : List Value := S.flatMap secC
def consC (l : List (List Nat)) : List Value := l.flatMap cellsB
theorem secC_length {s : Sec} (h : Con s.dur) : (secC s).length = 129 := by simp [secC, cellsB_length, h.1]

/-- What waits for a sector, of whatever number. -/
def wt (S : List Sec) (k : Int) : List (List Nat) := if 0 ≤ k then match S[k.toNat]? with | some s => s.wait | none => [] else []
theorem wt_at {S : List Sec} {i : Nat} {s : Sec} (h : S[i]? = some s) : wt S (i : Int) = s.wait := by simp [wt, h]
theorem wt_out {S : List Sec} {k : Int} (h : ¬ (0 ≤ k ∧ k < (S.length : Int))) : wt S k = [] := by
  unfold wt
  split
  · rw [List.getElem?_eq_none (by omega)]
  · rfl

/-- A slice's value, kept as it is. -/
def rawE (v : Value) : Option (DataW Value × List MemPlace) := match v with | .slice _ _ _ => some (.held v, []) | _ => none
theorem rawE_mk (a : Option Addr) (n c : Nat) : rawE (.slice a n c) = some (.held (.slice a n c), []) := rfl
theorem rawE_inv {v : Value} {z : DataW Value × List MemPlace} (h : rawE v = some z) : (∃ a n c, v = .slice a n c) ∧ z = (.held v, []) := by
  cases v <;> simp [rawE] at h
  exact ⟨⟨_, _, _, rfl⟩, h.symm⟩
/-- The slice that lies at a key. -/
def valAt (D : DataW Value) (k : Int) : Value := match D.atKey (.int .i64 k) (.held (.slice none 0 0)) with | .held v => v | _ => .slice none 0 0

theorem lawK : Maps.Keyed Tryd.prog 3 := Maps.int_keyed Tryd.underlying3
theorem zeroW (w : World) : (zeroValue 111).run Tryd.prog w = .ok (.slice none 0 0) w := by kernel_rfl
theorem keyI {k : Int} (h : I64 k) : keyOf Tryd.prog 3 (.int .i64 k) = some (.int .i64 k) := Maps.keyOf_int_mk Tryd.underlying3 h.wf

theorem look_at {w : World} {mb n : Nat} {D : DataW Value} (h : w.ownsMap Tryd.prog 3 rawE mb n D) {k : Int} (hk : I64 k) :
    (Instr.lookup 58 (.map (some mb)) (.int .i64 k) false).run Tryd.prog w = .ok (valAt D k) w ∧ D.atKey (.int .i64 k) (.held (.slice none 0 0)) = .held (valAt D k) ∧ ∃ a n c, valAt D k = .slice a n c := by
  obtain ⟨v, ps, h1, h2⟩ := h.lookup lawK Tryd.underlying58 (zeroW w) (rawE_mk none 0 0) (keyI hk)
  obtain ⟨⟨a, n, c, rfl⟩, h4⟩ := rawE_inv h2
  have e : D.atKey (.int .i64 k) (.held (.slice none 0 0)) = .held (.slice a n c) := (Prod.mk.inj h4).1
  have e2 : valAt D k = .slice a n c := by unfold valAt; rw [e]
  rw [e2]
  exact ⟨h1, e, a, n, c, rfl⟩

/-- In the world 'w' the block 'b' is a disk of the sectors 'S': the slice 'v' of its sectors, the map 'mb' that reads as 'D'; all its blocks are among 'F'. -/
structure DkAt (w : World) (F : Nat → Prop) (b : Nat) (S : List Sec) (v : Value) (mb : Nat) (D : DataW Value) : Prop where
  blk : w.heap[b]? = some (.cells #[v, .map (some mb)] 60 (0, 0))
  secs : w.ownsRow 0 77 129 v S.length (secsC S)
  map : w.ownsMap Tryd.prog 3 rawE mb (Maps.size D) D
  rows : ∀ k, I64 k → w.ownsRow 0 75 128 (valAt D k) (wt S k).length (consC (wt S k))
  keys : ∀ kl, Maps.has D kl = true ↔ ∃ (i : Nat) (s : Sec), kl = .int .i64 (i : Int) ∧ S[i]? = some s ∧ s.wait ≠ []
  apart : ∀ k j, I64 k → I64 j → k ≠ j → (valAt D k).ownBlock = none ∨ (valAt D k).ownBlock ≠ (valAt D j).ownBlock
  inB : F b
  inM : F mb
  inS : ∀ g, v.ownBlock = some g → F g
  inV : ∀ k g, I64 k → (valAt D k).ownBlock = some g → F g
  good : Good S
def Dk (w : World) (F : Nat → Prop) (b : Nat) (S : List Sec) : Prop := ∃ v mb D, DkAt w F b S v mb D

theorem heap_lt {w : World} {k : Nat} {o : Obj} (h : w.heap[k]? = some o) : k < w.heap.size := (Array.getElem?_eq_some_iff.1 h).1
theorem DkAt.of_blocks {w w' : World} {F : Nat → Prop} {b mb : Nat} {S : List Sec} {v : Value} {D : DataW Value} (h : DkAt w F b S v mb D) (hk : ∀ k o, F k → w.heap[k]? = some o → w'.heap[k]? = some o) : DkAt w' F b S v mb D :=
  ⟨hk _ _ h.inB h.blk, ownsRow_of_block h.secs (fun k o hv => hk k o (h.inS k hv)), ownsMap_of_block h.map (fun o => hk mb o h.inM), fun k hi => ownsRow_of_block (h.rows k hi) (fun j o hv => hk j o (h.inV k j hi hv)), h.keys, h.apart, h.inB, h.inM, h.inS, h.inV, h.good⟩
theorem Dk.of_blocks {w w' : World} {F : Nat → Prop} {b : Nat} {S : List Sec} (h : Dk w F b S) (hk : ∀ k o, F k → w.heap[k]? = some o → w'.heap[k]? = some o) : Dk w' F b S := by
  obtain ⟨v, mb, D, h⟩ := h
  exact ⟨v, mb, D, h.of_blocks hk⟩
theorem Dk.below {w w' : World} {F : Nat → Prop} {b : Nat} {S : List Sec} (h : Dk w F b S) (hb : Below w.heap.size w w') : Dk w' F b S :=
  h.of_blocks fun k o _ ho => by rw [hb.block k (heap_lt ho)]; exact ho
theorem DkAt.below {w w' : World} {F : Nat → Prop} {b mb : Nat} {S : List Sec} {v : Value} {D : DataW Value} (h : DkAt w F b S v mb D) (hb : Below w.heap.size w w') : DkAt w' F b S v mb D :=
  h.of_blocks fun k o _ ho => by rw [hb.block k (heap_lt ho)]; exact ho
theorem Dk.mono {w : World} {F F' : Nat → Prop} {b : Nat} {S : List Sec} (h : Dk w F b S) (hF : ∀ k, F k → F' k) : Dk w F' b S := by
  obtain ⟨v, mb, D, h⟩ := h
  exact ⟨v, mb, D, h.blk, h.secs, h.map, h.rows, h.keys, h.apart, hF _ h.inB, hF _ h.inM, fun g hg => hF _ (h.inS g hg), fun k g hk hg => hF _ (h.inV k g hk hg), h.good⟩
theorem Dk.good {w : World} {F : Nat → Prop} {b : Nat} {S : List Sec} (h : Dk w F b S) : Good S := by obtain ⟨v, mb, D, h⟩ := h; exact h.good

/-- Of what was there nothing has turned but blocks of 'F'. -/
structure Turn (F : Nat → Prop) (w w' : World) : Prop where
  os : w'.os = w.os
  tape : w'.tape = w.tape
  output : w'.output = w.output
  size : w.heap.size ≤ w'.heap.size
  block : ∀ k, k < w.heap.size → ¬ F k → w'.heap[k]? = w.heap[k]?
theorem Turn.refl (F : Nat → Prop) (w : World) : Turn F w w := ⟨rfl, rfl, rfl, Nat.le_refl _, fun _ _ _ => rfl⟩
theorem Turn.trans {F F1 : Nat → Prop} {w w1 w2 : World} (h : Turn F w w1) (k : Turn F1 w1 w2) (hF : ∀ i, i < w.heap.size → F1 i → F i) : Turn F w w2 :=
  ⟨k.os.trans h.os, k.tape.trans h.tape, k.output.trans h.output, Nat.le_trans h.size k.size, fun i hi hn => by
    rw [k.block i (Nat.lt_of_lt_of_le hi h.size) (fun e => hn (hF i hi e)), h.block i hi hn]⟩
theorem Turn.of_below {F : Nat → Prop} {w w' : World} (h : Below w.heap.size w w') : Turn F w w' := ⟨h.os, h.tape, h.output, h.size, fun k hk _ => h.block k hk⟩
theorem Turn.of_grown {F : Nat → Prop} {w w' : World} {row : Option Nat} (h : w.grownBy w' row) (hr : ∀ k, row = some k → F k) : Turn F w w' :=
  ⟨h.os, h.tape, h.output, h.size, fun k hk hn => h.block k hk (fun e => hn (hr k e.symm))⟩
theorem Turn.below {F : Nat → Prop} {w w' : World} {B : Nat} (h : Turn F w w') (hB : B ≤ w.heap.size) (hF : ∀ k, F k → B ≤ k) : Below B w w' :=
  ⟨h.os, h.tape, h.output, h.size, fun k hk => h.block k (by omega) (fun e => by have := hF k e; omega)⟩
/-- Blocks of 'F', and those that are new. -/
def ext (F : Nat → Prop) (w w' : World) (k : Nat) : Prop := F k ∨ (w.heap.size ≤ k ∧ k < w'.heap.size)
theorem Dk.turn {w w' : World} {F G : Nat → Prop} {b : Nat} {S : List Sec} (h : Dk w F b S) (ht : Turn G w w') (hFG : ∀ k, F k → ¬ G k) : Dk w' F b S :=
  h.of_blocks fun k o hk ho => by rw [ht.block k (heap_lt ho) (hFG k hk)]; exact ho
theorem Bytes.turn {w w' : World} {F : Nat → Prop} {v : Value} {bs : List Nat} (h : Bytes w v bs) (ht : Turn F w w') (hv : ∀ k, v.ownBlock = some k → ¬ F k) : Bytes w' v bs := by
  obtain ⟨ao, cap, g, off, rfl, h2, h3, h4⟩ := h
  refine ⟨ao, cap, g, off, rfl, h2, fun i q hq => ?_, h4⟩
  have hp : 0 < bs.length := by
    rcases Nat.eq_zero_or_pos bs.length with e | e
    · rw [List.length_eq_zero_iff.1 e] at hq; cases hq
    · exact e
  obtain rfl := h2 hp
  have hc := h3 i q hq
  rw [World.cell?_of_block (w := w) (ht.block g (cell_lt hc) (hv g rfl))]; exact hc
end Go.Proofs.YtliboiajhhnajaaDoor
