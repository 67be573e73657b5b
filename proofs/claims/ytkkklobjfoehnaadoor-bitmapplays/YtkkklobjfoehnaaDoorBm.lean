/- A bitmap in memory; Len, lacks, bit. -/
import Derived.Test.YtkkklobjfoehnaaDoorSl
import Derived.Test.YtkkklobjfoehnaaDoorWd
import Derived.Test.YtkkklobjfoehnaaDoorErr
import Derived.Laws.Bits64b
namespace Go.Proofs.YtkkklobjfoehnaaDoor
open Go.RowKit Go.Extern

def wordsC (ws : List Nat) : List Value := ws.map fun x : Nat => Value.int .u64 (x : Int)
def intsC (ns : List Int) : List Value := ns.map (Value.int .i64)
theorem wordsC_length (ws : List Nat) : (wordsC ws).length = ws.length := by simp [wordsC]
theorem intsC_length (ns : List Int) : (intsC ns).length = ns.length := by simp [intsC]
theorem wordsC_get {ws : List Nat} {i x : Nat} (h : ws[i]? = some x) : (wordsC ws)[i]? = some (.int .u64 (x : Int)) := by simp [wordsC, h]
theorem intsC_get {ns : List Int} {i : Nat} {n : Int} (h : ns[i]? = some n) : (intsC ns)[i]? = some (.int .i64 n) := by simp [intsC, h]
theorem wordsC_set (ws : List Nat) (i x : Nat) : (wordsC ws).set i (.int .u64 (x : Int)) = wordsC (ws.set i x) := by simp [wordsC, List.map_set]
theorem wordsC_append (a b : List Nat) : wordsC (a ++ b) = wordsC a ++ wordsC b := by simp [wordsC]
theorem intsC_append (a b : List Int) : intsC (a ++ b) = intsC a ++ intsC b := by simp [intsC]
theorem wordsC_one (ws : List Nat) : ∀ u ∈ wordsC ws, u.oneCell' = true := fun u hu => by
  simp only [wordsC, List.mem_map] at hu; obtain ⟨b, -, rfl⟩ := hu; rfl
theorem intsC_one (ns : List Int) : ∀ u ∈ intsC ns, u.oneCell' = true := fun u hu => by
  simp only [intsC, List.mem_map] at hu; obtain ⟨b, -, rfl⟩ := hu; rfl
/-- The value 'v' is, in the world 'w', a slice of the numbers 'ns'. -/
def Ints (w : World) (v : Value) (ns : List Int) : Prop := Row w v (intsC ns) ∧ ∀ n ∈ ns, I64 n
theorem Ints.below {w w' : World} (hb : Below w.heap.size w w') {v : Value} {ns : List Int} (h : Ints w v ns) : Ints w' v ns := ⟨h.1.below hb, h.2⟩
theorem Ints.form {w : World} {v : Value} {ns : List Int} (h : Ints w v ns) : ∃ ao cap, v = .slice ao ns.length cap := by
  obtain ⟨ao, cap, e⟩ := h.1.form; rw [intsC_length] at e; exact ⟨ao, cap, e⟩
theorem Ints.len {w : World} {v : Value} {ns : List Int} (h : Ints w v ns) : ns.length ≤ 140737488355328 := by have := h.1.len; rwa [intsC_length] at this
theorem Ints.at {w : World} {v : Value} {ns : List Int} (h : Ints w v ns) : ∃ ao cap g off, v = .slice ao ns.length cap ∧ (0 < ns.length → ao = some ⟨g, off, none⟩) ∧ (∀ (i : Nat) n, ns[i]? = some n → w.cell? ⟨g, off + i, none⟩ = some (.int .i64 n)) := by
  obtain ⟨⟨ao, cap, g, off, h1, h2, h3, -⟩, -⟩ := h
  rw [intsC_length] at h1 h2
  exact ⟨ao, cap, g, off, h1, h2, fun i n hn => h3 i _ (intsC_get hn)⟩

/-- In the world 'w' the block 'b' is a bitmap of the flags 'l': the slice 'v' of its words 'ws'; its blocks are among 'F'. -/
structure BmAt (w : World) (F : Nat → Prop) (b : Nat) (l : List Bool) (v : Value) (ws : List Nat) : Prop where
  blk : w.heap[b]? = some (.cells #[.int .i64 (l.length : Int), v] 53 (0, 0))
  row : w.ownsRow 0 57 1 v (wordsC ws).length (wordsC ws)
  map : IsMap ws l
  len : l.length ≤ 4096
  inB : F b
  inV : ∀ g, v.ownBlock = some g → F g
def Bm (w : World) (F : Nat → Prop) (b : Nat) (l : List Bool) : Prop := ∃ v ws, BmAt w F b l v ws
theorem BmAt.of_blocks {w w' : World} {F : Nat → Prop} {b : Nat} {l : List Bool} {v : Value} {ws : List Nat} (h : BmAt w F b l v ws) (hk : ∀ k o, F k → w.heap[k]? = some o → w'.heap[k]? = some o) : BmAt w' F b l v ws :=
  ⟨hk _ _ h.inB h.blk, ownsRow_of_block h.row (fun k o hv => hk k o (h.inV k hv)), h.map, h.len, h.inB, h.inV⟩
theorem BmAt.below {w w' : World} {F : Nat → Prop} {b : Nat} {l : List Bool} {v : Value} {ws : List Nat} (h : BmAt w F b l v ws) (hb : Below w.heap.size w w') : BmAt w' F b l v ws :=
  h.of_blocks fun k o _ ho => by rw [hb.block k (heap_lt ho)]; exact ho
theorem Bm.of_blocks {w w' : World} {F : Nat → Prop} {b : Nat} {l : List Bool} (h : Bm w F b l) (hk : ∀ k o, F k → w.heap[k]? = some o → w'.heap[k]? = some o) : Bm w' F b l := by
  obtain ⟨v, ws, h⟩ := h
  exact ⟨v, ws, h.of_blocks hk⟩
theorem Bm.below {w w' : World} {F : Nat → Prop} {b : Nat} {l : List Bool} (h : Bm w F b l) (hb : Below w.heap.size w w') : Bm w' F b l :=
  h.of_blocks fun k o _ ho => by rw [hb.block k (heap_lt ho)]; exact ho
theorem Bm.turn {w w' : World} {F G : Nat → Prop} {b : Nat} {l : List Bool} (h : Bm w F b l) (ht : Turn G w w') (hFG : ∀ k, F k → ¬ G k) : Bm w' F b l :=
  h.of_blocks fun k o hk ho => by rw [ht.block k (heap_lt ho) (hFG k hk)]; exact ho
theorem Bm.mono {w : World} {F F' : Nat → Prop} {b : Nat} {l : List Bool} (h : Bm w F b l) (hF : ∀ k, F k → F' k) : Bm w F' b l := by
  obtain ⟨v, ws, h⟩ := h
  exact ⟨v, ws, h.blk, h.row, h.map, h.len, hF _ h.inB, fun g hg => hF _ (h.inV g hg)⟩
theorem Bm.len {w : World} {F : Nat → Prop} {b : Nat} {l : List Bool} (h : Bm w F b l) : l.length ≤ 4096 := by obtain ⟨v, ws, h⟩ := h; exact h.len
theorem BmAt.cells {w : World} {F : Nat → Prop} {b : Nat} {l : List Bool} {v : Value} {ws : List Nat} (h : BmAt w F b l v ws) : w.cell? ⟨b, 0, none⟩ = some (.int .i64 (l.length : Int)) ∧ w.cell? ⟨b, 1, none⟩ = some v :=
  ⟨by rw [cell_of_row w b 0 _ _ _ h.blk]; rfl, by rw [cell_of_row w b 1 _ _ _ h.blk]; rfl⟩
theorem BmAt.wl {w : World} {F : Nat → Prop} {b : Nat} {l : List Bool} {v : Value} {ws : List Nat} (h : BmAt w F b l v ws) : ws.length ≤ 64 := by have := h.map.len; have := h.len; omega
/-- The words lie elsewhere than the bitmap's own block. -/
theorem BmAt.ne {w : World} {F : Nat → Prop} {b : Nat} {l : List Bool} {v : Value} {ws : List Nat} (h : BmAt w F b l v ws) {g : Nat} (hg : v.ownBlock = some g) : g ≠ b := by
  rcases h.row.2 with ⟨rfl, -⟩ | ⟨g', cap, cur, rfl, -, hh, -⟩
  · cases hg
  · simp only [Value.ownBlock, Option.some.injEq] at hg
    subst hg
    intro e
    rw [e, h.blk] at hh
    cases hh

/-- Whether a number is the bitmap's. -/
def inB (l : List Bool) (i : Int) : Bool := decide (0 ≤ i ∧ i < (l.length : Int))
theorem inB_true {l : List Bool} {i : Int} (h : inB l i = true) : ∃ k : Nat, i = (k : Int) ∧ k < l.length := by
  have := of_decide_eq_true h
  exact ⟨i.toNat, by omega, by omega⟩
/-- Whether a number is set. -/
def hasS (l : List Bool) (i : Int) : Bool := decide (0 ≤ i) && l.getD i.toNat false
theorem hasS_nat (l : List Bool) (k : Nat) : hasS l (k : Int) = l.getD k false := by simp [hasS]
theorem hasS_out {l : List Bool} {i : Int} (h : inB l i = false) : hasS l i = false := by
  have := of_decide_eq_false h
  unfold hasS
  by_cases h0 : 0 ≤ i
  · have e : l.getD i.toNat false = false := by simp [List.getD, List.getElem?_eq_none (by omega : l.length ≤ i.toNat)]
    rw [e, Bool.and_false]
  · simp [h0]

theorem len_any {w : World} {F : Nat → Prop} {b : Nat} {l : List Bool} (h : Bm w F b l) :
    Calls Tryd.prog 27 #[.pointer (some ⟨b, 0, none⟩)] w fun e w' => e = .returned (.int .i64 (l.length : Int)) ∧ w' = w := by
  obtain ⟨v, ws, h⟩ := h
  obtain ⟨c0, -⟩ := h.cells
  clear h
  go_enter Tryd.func27, Tryd.ntmps27
  go_wp2
  go_ret
  exact ⟨rfl, rfl⟩
set_option maxRecDepth 100000 in
theorem lacks_cell {w : World} {b : Nat} {l : List Bool} (c0 : w.cell? ⟨b, 0, none⟩ = some (.int .i64 (l.length : Int))) (i : Int) :
    Calls Tryd.prog 24 #[.pointer (some ⟨b, 0, none⟩), .int .i64 i] w fun e w' => e = .returned (.bool (!inB l i)) ∧ w' = w := by
  have HI : Hid ((!inB l i) = (decide (i < 0) || decide ((l.length : Int) ≤ i))) := by
    show _ = _
    unfold inB
    by_cases h0 : i < 0
    · have : ¬ (0 ≤ i ∧ i < (l.length : Int)) := by omega
      simp [h0, this]
    · by_cases h1 : (l.length : Int) ≤ i
      · have : ¬ (0 ≤ i ∧ i < (l.length : Int)) := by omega
        simp [h1, this]
      · have : (0 ≤ i ∧ i < (l.length : Int)) := by omega
        simp [h0, h1, this]
  by_cases h0 : i < 0
  · have d0 : decide (i < 0) = true := by simpa using h0
    clear h0
    go_enter Tryd.func24, Tryd.ntmps24
    go_wp2
    go_ret
    exact ⟨by rw [HI.out, d0]; rfl, rfl⟩
  · have d0 : decide (i < 0) = false := by simpa using h0
    clear h0
    go_enter Tryd.func24, Tryd.ntmps24
    go_wp2
    go_ret
    exact ⟨by rw [HI.out, d0]; rfl, rfl⟩
theorem lacks_any {w : World} {F : Nat → Prop} {b : Nat} {l : List Bool} (h : Bm w F b l) (i : Int) :
    Calls Tryd.prog 24 #[.pointer (some ⟨b, 0, none⟩), .int .i64 i] w fun e w' => e = .returned (.bool (!inB l i)) ∧ w' = w := by
  obtain ⟨v, ws, h⟩ := h
  exact lacks_cell h.cells.1 i
theorem i64_and63 (i : Nat) (hi : i < 1000000) : bits .and .i64 (i : Int) 63 = ((i % 64 : Nat) : Int) := by
  have h1 : (BitVec.ofInt 64 (i : Int)).toNat = i := by
    rw [BitVec.ofInt_natCast, BitVec.toNat_ofNat]; exact Nat.mod_eq_of_lt (by omega)
  have h2 : (BitVec.ofInt 64 (63 : Int)).toNat = 63 := by decide
  show IntKind.i64.wrap ((BitVec.ofInt 64 (i : Int) &&& BitVec.ofInt 64 (63 : Int)).toNat : Int) = _
  have e : i &&& 63 = i % 64 := Nat.and_two_pow_sub_one_eq_mod i 6
  rw [BitVec.toNat_and, h1, h2, e, IntKind.wrap_i64]
  omega
end Go.Proofs.YtkkklobjfoehnaaDoor
