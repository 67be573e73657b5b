import Derived.Test.YtliboiajhhnajaaGreatDoorM01
/- A disk in memory: its sectors, the writes that wait, and what stays of it while other memory turns. -/
namespace Go.Proofs.YtliboiajhhnajaaGreatDoor
open Go.RowKit Go.Extern

def I64 (k : Int) : Prop := -9223372036854775808 ≤ k ∧ k < 9223372036854775808
theorem I64.wf {k : Int} (h : I64 k) : (Lit.int .i64 k).wf = true := by
  simp only [Lit.wf, IntKind.min, IntKind.max, IntKind.bits, IntKind.signed]; unfold I64 at h; simp; omega
theorem I64.of_wf {k : Int} (h : (Lit.int .i64 k).wf = true) : I64 k := by
  have : (-9223372036854775808 : Int) ≤ k ∧ k ≤ 9223372036854775807 := by simpa [Lit.wf, IntKind.min, IntKind.max, IntKind.bits, IntKind.signed] using h
  unfold I64; omega
theorem I64.nat {n : Nat} (h : n ≤ 4096) : I64 (n : Int) := by unfold I64; omega

/-- A sector: what it holds for good, whether it is bad, what waits. -/
structure Sec where
  dur : List Nat
  bad : Bool
  wait : List (List Nat)

/-- A sector's bytes. -/
def Con (c : List Nat) : Prop := c.length = 128 ∧ ∀ b ∈ c, b < 256
def zeros : List Nat := List.replicate 128 0
theorem zeros_con : Con zeros := ⟨by simp [zeros], fun b hb => by simp [zeros] at hb; omega⟩
def GoodSec (s : Sec) : Prop := Con s.dur ∧ ∀ c ∈ s.wait, Con c
def Good (S : List Sec) : Prop := S.length ≤ 4096 ∧ ∀ s ∈ S, GoodSec s

/-- The cells of a sector, of sectors, of writes. -/
def secC (s : Sec) : List Value := cellsB s.dur ++ [.bool s.bad]
def secsC (S : List Sec) : List Value := S.flatMap secC
def consC (l : List (List Nat)) : List Value := l.flatMap cellsB
theorem secC_length {s : Sec} (h : Con s.dur) : (secC s).length = 129 := by simp [secC, cellsB_length, h.1]

/-- What waits for a sector, of whatever number. -/
def wt (S : List Sec) (k : Int) : List (List Nat) := if 0 ≤ k then match S[k.toNat]? with | some s => s.wait | none => [] else []
theorem wt_at {S : List Sec} {i : Nat} {s : Sec} (h : S[i]? = some s) : wt S (i : Int) = s.wait := by simp [wt, h]
theorem wt_out {S : List Sec} {k : Int} (h : ¬ (0 ≤ k ∧ k < (S.length : Int))) : wt S k = [] := by
  unfold wt
  split
  · rw [List.getElem?_eq_none (by omega)]
  · rfl

/-- A slice's value, kept as it is. -/
def rawE (v : Value) : Option (DataW Value × List MemPlace) := match v with | .slice _ _ _ => some (.held v, []) | _ => none
theorem rawE_mk (a : Option Addr) (n c : Nat) : rawE (.slice a n c) = some (.held (.slice a n c), []) := rfl
theorem rawE_inv {v : Value} {z : DataW Value × List MemPlace} (h : rawE v = some z) : (∃ a n c, v = .slice a n c) ∧ z = (.held v, []) := by
  cases v <;> simp [rawE] at h
  exact ⟨⟨_, _, _, rfl⟩, h.symm⟩
/-- The slice that lies at a key. -/
def valAt (D : DataW Value) (k : Int) : Value := match D.atKey (.int .i64 k) (.held (.slice none 0 0)) with | .held v => v | _ => .slice none 0 0

theorem lawK : Maps.Keyed Tryz.prog 3 := Maps.int_keyed Tryz.underlying3
theorem zeroW (w : World) : (zeroValue 116).run Tryz.prog w = .ok (.slice none 0 0) w := by kernel_rfl
theorem keyI {k : Int} (h : I64 k) : keyOf Tryz.prog 3 (.int .i64 k) = some (.int .i64 k) := Maps.keyOf_int_mk Tryz.underlying3 h.wf

theorem look_at {w : World} {mb n : Nat} {D : DataW Value} (h : w.ownsMap Tryz.prog 3 rawE mb n D) {k : Int} (hk : I64 k) :
    (Instr.lookup 102 (.map (some mb)) (.int .i64 k) false).run Tryz.prog w = .ok (valAt D k) w ∧ D.atKey (.int .i64 k) (.held (.slice none 0 0)) = .held (valAt D k) ∧ ∃ a n c, valAt D k = .slice a n c := by
  obtain ⟨v, ps, h1, h2⟩ := h.lookup lawK Tryz.underlying102 (zeroW w) (rawE_mk none 0 0) (keyI hk)
  obtain ⟨⟨a, n, c, rfl⟩, h4⟩ := rawE_inv h2
  have e : D.atKey (.int .i64 k) (.held (.slice none 0 0)) = .held (.slice a n c) := (Prod.mk.inj h4).1
  have e2 : valAt D k = .slice a n c := by unfold valAt; rw [e]
  rw [e2]
  exact ⟨h1, e, a, n, c, rfl⟩

/-- In the world 'w' the block 'b' is a disk of the sectors 'S': the slice 'v' of its sectors, the map 'mb' that reads as 'D'; all its blocks are among 'F'. -/
structure DkAt (w : World) (F : Nat → Prop) (b : Nat) (S : List Sec) (v : Value) (mb : Nat) (D : DataW Value) : Prop where
  blk : w.heap[b]? = some (.cells #[v, .map (some mb)] 104 (0, 0))
  secs : w.ownsRow 0 114 129 v S.length (secsC S)
  map : w.ownsMap Tryz.prog 3 rawE mb (Maps.size D) D
  rows : ∀ k, I64 k → w.ownsRow 0 112 128 (valAt D k) (wt S k).length (consC (wt S k))
  keys : ∀ kl, Maps.has D kl = true ↔ ∃ (i : Nat) (s : Sec), kl = .int .i64 (i : Int) ∧ S[i]? = some s ∧ s.wait ≠ []
  apart : ∀ k j, I64 k → I64 j → k ≠ j → (valAt D k).ownBlock = none ∨ (valAt D k).ownBlock ≠ (valAt D j).ownBlock
  inB : F b
  inM : F mb
  inS : ∀ g, v.ownBlock = some g → F g
  inV : ∀ k g, I64 k → (valAt D k).ownBlock = some g → F g
  good : Good S
def Dk (w : World) (F : Nat → Prop) (b : Nat) (S : List Sec) : Prop := ∃ v mb D, DkAt w F b S v mb D

theorem heap_lt {w : World} {k : Nat} {o : Obj} (h : w.heap[k]? = some o) : k < w.heap.size := (Array.getElem?_eq_some_iff.1 h).1
theorem DkAt.of_blocks {w w' : World} {F : Nat → Prop} {b mb : Nat} {S : List Sec} {v : Value} {D : DataW Value} (h : DkAt w F b S v mb D) (hk : ∀ k o, F k → w.heap[k]? = some o → w'.heap[k]? = some o) : DkAt w' F b S v mb D :=
  ⟨hk _ _ h.inB h.blk, ownsRow_of_block h.secs (fun k o hv => hk k o (h.inS k hv)), ownsMap_of_block h.map (fun o => hk mb o h.inM), fun k hi => ownsRow_of_block (h.rows k hi) (fun j o hv => hk j o (h.inV k j hi hv)), h.keys, h.apart, h.inB, h.inM, h.inS, h.inV, h.good⟩
theorem Dk.of_blocks {w w' : World} {F : Nat → Prop} {b : Nat} {S : List Sec} (h : Dk w F b S) (hk : ∀ k o, F k → w.heap[k]? = some o → w'.heap[k]? = some o) : Dk w' F b S := by
  obtain ⟨v, mb, D, h⟩ := h
  exact ⟨v, mb, D, h.of_blocks hk⟩
theorem Dk.below {w w' : World} {F : Nat → Prop} {b : Nat} {S : List Sec} (h : Dk w F b S) (hb : Below w.heap.size w w') : Dk w' F b S :=
  h.of_blocks fun k o _ ho => by rw [hb.block k (heap_lt ho)]; exact ho
theorem DkAt.below {w w' : World} {F : Nat → Prop} {b mb : Nat} {S : List Sec} {v : Value} {D : DataW Value} (h : DkAt w F b S v mb D) (hb : Below w.heap.size w w') : DkAt w' F b S v mb D :=
  h.of_blocks fun k o _ ho => by rw [hb.block k (heap_lt ho)]; exact ho
theorem Dk.mono {w : World} {F F' : Nat → Prop} {b : Nat} {S : List Sec} (h : Dk w F b S) (hF : ∀ k, F k → F' k) : Dk w F' b S := by
  obtain ⟨v, mb, D, h⟩ := h
  exact ⟨v, mb, D, h.blk, h.secs, h.map, h.rows, h.keys, h.apart, hF _ h.inB, hF _ h.inM, fun g hg => hF _ (h.inS g hg), fun k g hk hg => hF _ (h.inV k g hk hg), h.good⟩
theorem Dk.good {w : World} {F : Nat → Prop} {b : Nat} {S : List Sec} (h : Dk w F b S) : Good S := by obtain ⟨v, mb, D, h⟩ := h; exact h.good

/-- Of what was there nothing has turned but blocks of 'F'. -/
structure Turn (F : Nat → Prop) (w w' : World) : Prop where
  os : w'.os = w.os
  tape : w'.tape = w.tape
  output : w'.output = w.output
  size : w.heap.size ≤ w'.heap.size
  block : ∀ k, k < w.heap.size → ¬ F k → w'.heap[k]? = w.heap[k]?
theorem Turn.refl (F : Nat → Prop) (w : World) : Turn F w w := ⟨rfl, rfl, rfl, Nat.le_refl _, fun _ _ _ => rfl⟩
theorem Turn.trans {F F1 : Nat → Prop} {w w1 w2 : World} (h : Turn F w w1) (k : Turn F1 w1 w2) (hF : ∀ i, i < w.heap.size → F1 i → F i) : Turn F w w2 :=
  ⟨k.os.trans h.os, k.tape.trans h.tape, k.output.trans h.output, Nat.le_trans h.size k.size, fun i hi hn => by
    rw [k.block i (Nat.lt_of_lt_of_le hi h.size) (fun e => hn (hF i hi e)), h.block i hi hn]⟩
theorem Turn.of_below {F : Nat → Prop} {w w' : World} (h : Below w.heap.size w w') : Turn F w w' := ⟨h.os, h.tape, h.output, h.size, fun k hk _ => h.block k hk⟩
theorem Turn.of_grown {F : Nat → Prop} {w w' : World} {row : Option Nat} (h : w.grownBy w' row) (hr : ∀ k, row = some k → F k) : Turn F w w' :=
  ⟨h.os, h.tape, h.output, h.size, fun k hk hn => h.block k hk (fun e => hn (hr k e.symm))⟩
theorem Turn.below {F : Nat → Prop} {w w' : World} {B : Nat} (h : Turn F w w') (hB : B ≤ w.heap.size) (hF : ∀ k, F k → B ≤ k) : Below B w w' :=
  ⟨h.os, h.tape, h.output, h.size, fun k hk => h.block k (by omega) (fun e => by have := hF k e; omega)⟩
/-- Blocks of 'F', and those that are new. -/
def ext (F : Nat → Prop) (w w' : World) (k : Nat) : Prop := F k ∨ (w.heap.size ≤ k ∧ k < w'.heap.size)
theorem Dk.turn {w w' : World} {F G : Nat → Prop} {b : Nat} {S : List Sec} (h : Dk w F b S) (ht : Turn G w w') (hFG : ∀ k, F k → ¬ G k) : Dk w' F b S :=
  h.of_blocks fun k o hk ho => by rw [ht.block k (heap_lt ho) (hFG k hk)]; exact ho
theorem Bytes.turn {w w' : World} {F : Nat → Prop} {v : Value} {bs : List Nat} (h : Bytes w v bs) (ht : Turn F w w') (hv : ∀ k, v.ownBlock = some k → ¬ F k) : Bytes w' v bs := by
  obtain ⟨ao, cap, g, off, rfl, h2, h3, h4⟩ := h
  refine ⟨ao, cap, g, off, rfl, h2, fun i q hq => ?_, h4⟩
  have hp : 0 < bs.length := by
    rcases Nat.eq_zero_or_pos bs.length with e | e
    · rw [List.length_eq_zero_iff.1 e] at hq; cases hq
    · exact e
  obtain rfl := h2 hp
  have hc := h3 i q hq
  rw [World.cell?_of_block (w := w) (ht.block g (cell_lt hc) (hv g rfl))]; exact hc
end Go.Proofs.YtliboiajhhnajaaGreatDoor

/- Size, has, Waiting by their contracts. -/
namespace Go.Proofs.YtliboiajhhnajaaGreatDoor
open Go.RowKit Go.Extern

theorem two_cell0 {w : World} {b : Nat} {x y : Value} {T : TypeId} (h : w.heap[b]? = some (.cells #[x, y] T (0, 0))) : w.cell? ⟨b, 0, none⟩ = some x := by rw [cell_of_row w b _ _ _ _ h]; rfl
theorem two_cell1 {w : World} {b : Nat} {x y : Value} {T : TypeId} (h : w.heap[b]? = some (.cells #[x, y] T (0, 0))) : w.cell? ⟨b, 1, none⟩ = some y := by rw [cell_of_row w b _ _ _ _ h]; rfl
theorem row_frozen {w : World} {b : Nat} {cs : Array Value} {T : TypeId} (h : w.heap[b]? = some (.cells cs T (0, 0))) (i : Nat) : w.frozen? ⟨b, i, none⟩ = false := by simp [World.frozen?, h]

set_option maxRecDepth 100000 in
theorem size_any {w : World} {F : Nat → Prop} {b : Nat} {S : List Sec} (h : Dk w F b S) :
    Calls Tryz.prog 39 #[.pointer (some ⟨b, 0, none⟩)] w fun e w' => e = .returned (.int .i64 (S.length : Int)) ∧ w' = w := by
  obtain ⟨v, mb, D, h⟩ := h
  have c0 := two_cell0 h.blk
  obtain ⟨ao, cap, rfl⟩ := ownsRow_form h.secs
  clear h
  go_enter Tryz.func39, Tryz.ntmps39
  go_wp2
  go_ret
  exact ⟨rfl, rfl⟩

def hasB (S : List Sec) (i : Int) : Bool := decide (0 ≤ i ∧ i < (S.length : Int))
set_option maxRecDepth 100000 in
theorem has_any {w : World} {F : Nat → Prop} {b : Nat} {S : List Sec} (h : Dk w F b S) (i : Int) :
    Calls Tryz.prog 72 #[.pointer (some ⟨b, 0, none⟩), .int .i64 i] w fun e w' => e = .returned (.bool (hasB S i)) ∧ w' = w := by
  have HD := hide (size_any h)
  clear h
  by_cases h0 : 0 ≤ i
  · by_cases h1 : i < (S.length : Int)
    · have HB : Hid (hasB S i = true) := by show _ = _; simp [hasB, h0, h1]
      go_enter Tryz.func72, Tryz.ntmps72
      go_wp2_with (go_at_call 39; refine HD.out.mono ?_; rintro e w' ⟨rfl, rfl⟩)
      go_ret
      exact ⟨by rw [HB.out]; rfl, rfl⟩
    · have HB : Hid (hasB S i = false) := by show _ = _; simp [hasB]; omega
      have hd : decide (i < (S.length : Int)) = false := by simpa using h1
      clear h1
      go_enter Tryz.func72, Tryz.ntmps72
      go_wp2_with (go_at_call 39; refine HD.out.mono ?_; rintro e w' ⟨rfl, rfl⟩)
      go_ret
      exact ⟨by rw [HB.out]; rfl, rfl⟩
  · have HB : Hid (hasB S i = false) := by show _ = _; simp [hasB]; omega
    have hd : decide (0 ≤ i) = false := by simpa using h0
    go_enter Tryz.func72, Tryz.ntmps72
    go_wp2_with (go_at_call 39; refine HD.out.mono ?_; rintro e w' ⟨rfl, rfl⟩)
    go_ret
    exact ⟨by rw [HB.out]; rfl, rfl⟩

set_option maxRecDepth 100000 in
theorem waiting_any {w : World} {F : Nat → Prop} {b : Nat} {S : List Sec} (h : Dk w F b S) {i : Int} (hi : I64 i) :
    Calls Tryz.prog 74 #[.pointer (some ⟨b, 0, none⟩), .int .i64 i] w fun e w' => e = .returned (.int .i64 ((wt S i).length : Int)) ∧ w' = w := by
  obtain ⟨v, mb, D, h⟩ := h
  have c1 := two_cell1 h.blk
  have hl := (look_at h.map hi).1
  obtain ⟨ao, cap, hv⟩ := ownsRow_form (h.rows i hi)
  rw [hv] at hl
  generalize (wt S i).length = n at hl
  clear h hv
  go_enter Tryz.func74, Tryz.ntmps74
  go_wp2
  go_ret
  exact ⟨rfl, rfl⟩
end Go.Proofs.YtliboiajhhnajaaGreatDoor

/- A sector's bytes as a value: read out of memory, laid into it. -/
namespace Go.Proofs.YtliboiajhhnajaaGreatDoor
open Go.RowKit Go.Extern

/-- A sector's bytes as one value. -/
def conC (c : List Nat) : Array Value := (cellsB c).toArray
def conV (c : List Nat) : Value := .agg (conC c)
theorem conC_size {c : List Nat} (h : Con c) : (conC c).size = 128 := by simp [conC, cellsB_length, h.1]
theorem cellsB_one (c : List Nat) : ∀ u ∈ cellsB c, u.oneCell' = true := fun u hu => by
  simp only [cellsB, List.mem_map] at hu; obtain ⟨b, -, rfl⟩ := hu; rfl
theorem conC_one (c : List Nat) : (conC c).all (·.oneCell') = true := all_oneCell_toArray (cellsB_one c)
theorem infoC : (Tryz.prog.info? 112).map (·.size) = some 128 := by kernel_rfl
theorem infoZ : (Tryz.prog.info? 112).map (fun i => (i.zero, i.size)) = some (some (conV zeros), 128) := by kernel_rfl
theorem infoS : (Tryz.prog.info? 114).map (·.size) = some 129 := by kernel_rfl

/-- A local variable for a sector's bytes. -/
theorem zeroC : Tryz.zeroCells112 = conC zeros := by kernel_rfl
/-- A new variable is laid. -/
theorem run_storeC (w : World) (c d : List Nat) (hc : Con c) (hd : Con d) : (Instr.storeAt 112 (.pointer (some ⟨w.heap.size, 0, none⟩)) (conV d)).run Tryz.prog (w.alloc (.cells (conC c) 112)) = .ok () (w.alloc (.cells (conC d) 112)) :=
  run_storeAt_new w 112 (conC c) (conC d) (by rw [conC_size hd]; exact infoC) (by rw [conC_size hc, conC_size hd]) (conC_one d)
theorem run_loadC {w : World} {g : Nat} {c : List Nat} {t : TypeId} {fr : Nat × Nat} (hc : Con c) (h : w.heap[g]? = some (.cells (conC c) t fr)) : (Instr.loadAt 112 (.pointer (some ⟨g, 0, none⟩))).run Tryz.prog w = .ok (conV c) w := by
  simp only [Instr.loadAt, Instr.sureAddr, Sem.run_bind, Sem.run_pure, Result.andThen_ok]
  exact run_loadVar_row w g t 112 (conC c) fr _ h Tryz.underlying112 rfl (by rw [conC_size hc]; exact infoC)

theorem secC_take {s : Sec} (h : Con s.dur) {j : Nat} (hj : j < 128) : (secC s)[j]? = (cellsB s.dur)[j]? := by
  unfold secC; rw [List.getElem?_append_left (by rw [cellsB_length, h.1]; exact hj)]
theorem secC_bad {s : Sec} (h : Con s.dur) : (secC s)[128]? = some (.bool s.bad) := by
  unfold secC; rw [List.getElem?_append_right (by rw [cellsB_length, h.1]; decide), cellsB_length, h.1]; rfl

theorem row_cell {w : World} {base : Nat} {e : TypeId} {size : Nat} {g n cap : Nat} {xs : List Value} (h : w.ownsRow base e size (.slice (some ⟨g, 0, none⟩) n cap) n xs) {j : Nat} {u : Value} (hu : xs[j]? = some u) : w.cell? ⟨g, j, none⟩ = some u := by
  have := h.cells (g := g) rfl j u hu
  rwa [Addr.add_mid, Nat.zero_add] at this

/-- A load, a store of a sector's bytes at the operation. -/
theorem wpList_load_run {w : World} {ops : Array Oper} {rest : List Oper} {o : Oper} {a : Act} {Q : Exit → Act → World → Prop} (hgd : o.guard = none) {T : TypeId} {x : Operand} (ho : o.op = .load T x) {p c : Value}
    (hrun : (Instr.loadAt T p).run Tryz.prog w = .ok c w) (hx : a.eval x = p) (h : wpList Tryz.prog ops Q rest (a.put o.dst c) w) : wpList Tryz.prog ops Q (o :: rest) a w := by
  refine wpList_plain hgd fun K hK => ?_
  unfold Oper.wp execOp
  simp only [ho, hx, hrun, Sem.run_bind, Sem.run_pure, Result.andThen_ok]
  exact hK _ _ h
theorem wpList_store_run {w w' : World} {ops : Array Oper} {rest : List Oper} {o : Oper} {a : Act} {Q : Exit → Act → World → Prop} (hgd : o.guard = none) {T : TypeId} {x y : Operand} (ho : o.op = .store T x y) {p c : Value}
    (hrun : (Instr.storeAt T p c).run Tryz.prog w = .ok () w') (hx : a.eval x = p) (hy : a.eval y = c) (h : wpList Tryz.prog ops Q rest (a.put o.dst undef) w') : wpList Tryz.prog ops Q (o :: rest) a w := by
  refine wpList_plain hgd fun K hK => ?_
  unfold Oper.wp execOp
  simp only [ho, hx, hy, hrun, Sem.run_bind, Sem.run_pure, Result.andThen_ok]
  exact hK _ _ h

/-- What a sector holds for good is read. -/
theorem run_loadDur {w : World} {g cap : Nat} {S : List Sec} (h : w.ownsRow 0 114 129 (.slice (some ⟨g, 0, none⟩) S.length cap) S.length (secsC S)) (hg : Good S) {i : Nat} {s : Sec} (hs : S[i]? = some s) :
    (Instr.loadAt 112 (.pointer (some ⟨g, i * 129, none⟩))).run Tryz.prog w = .ok (conV s.dur) w := by
  have hS : ∀ x ∈ S, (secC x).length = 129 := fun x hx => secC_length (hg.2 x hx).1
  have hc := (hg.2 s (List.mem_of_getElem? hs)).1
  refine run_loadAt_mid w g (i * 129) 112 (cellsB s.dur) _ (fun j u hu => ?_) Tryz.underlying112 rfl (by rw [cellsB_length, hc.1]; exact infoC)
  have hj : j < 128 := by have := (List.getElem?_eq_some_iff.1 hu).1; rw [cellsB_length, hc.1] at this; exact this
  refine row_cell h ?_
  unfold secsC
  rw [flat_get secC 129 S hS i s hs j (by omega), secC_take hc hj]; exact hu
theorem cell_bad {w : World} {g cap : Nat} {S : List Sec} (h : w.ownsRow 0 114 129 (.slice (some ⟨g, 0, none⟩) S.length cap) S.length (secsC S)) (hg : Good S) {i : Nat} {s : Sec} (hs : S[i]? = some s) :
    w.cell? ⟨g, i * 129 + 128, none⟩ = some (.bool s.bad) := by
  refine row_cell h ?_
  unfold secsC
  rw [flat_get secC 129 S (fun x hx => secC_length (hg.2 x hx).1) i s hs 128 (by omega), secC_bad (hg.2 s (List.mem_of_getElem? hs)).1]
/-- A write that waits is read. -/
theorem run_loadWait {w : World} {g cap : Nat} {l : List (List Nat)} (h : w.ownsRow 0 112 128 (.slice (some ⟨g, 0, none⟩) l.length cap) l.length (consC l)) (hl : ∀ c ∈ l, Con c) {j : Nat} {c : List Nat} (hc : l[j]? = some c) :
    (Instr.loadAt 112 (.pointer (some ⟨g, j * 128, none⟩))).run Tryz.prog w = .ok (conV c) w := by
  have hcc := hl c (List.mem_of_getElem? hc)
  refine run_loadAt_mid w g (j * 128) 112 (cellsB c) _ (fun k u hu => ?_) Tryz.underlying112 rfl (by rw [cellsB_length, hcc.1]; exact infoC)
  have hk : k < 128 := by have := (List.getElem?_eq_some_iff.1 hu).1; rw [cellsB_length, hcc.1] at this; exact this
  refine row_cell h ?_
  unfold consC
  rw [flat_get cellsB 128 l (fun x hx => by rw [cellsB_length, (hl x hx).1]) j c hc k hk]; exact hu

/-- The write that a pick tells of a sector. -/
def Sec.pick (s : Sec) (n : Int) : List Nat := if n < 1 then s.dur else s.wait.getD (min n.toNat s.wait.length - 1) s.dur
theorem Sec.pick_con {s : Sec} (h : GoodSec s) (n : Int) : Con (s.pick n) := by
  unfold Sec.pick
  split
  · exact h.1
  · rw [List.getD_eq_getElem?_getD]
    cases hc : s.wait[min n.toNat s.wait.length - 1]? with
    | none => exact h.1
    | some c => exact h.2 c (List.mem_of_getElem? hc)

/-- What choose leaves: the answer in a new block. -/
theorem allocC_below (w : World) (c : List Nat) : Below w.heap.size w (w.alloc (.cells (conC c) 112)) := (Below.refl _ _).alloc (Nat.le_refl _) _
end Go.Proofs.YtliboiajhhnajaaGreatDoor
