/- Numbers in slices. -/
import Derived.Test.YtnkcebngfnailaaGe
import Derived.Lib.SliceRun
namespace Go.Proofs.Ytnkcebngfnailaa
open Go.RowKit Go.Extern

def encI (k : Int) : Value := .int .i64 k
/-- The value 'v' is, in the world 'w', a slice of the numbers 'l'. -/
def Ints (w : World) (v : Value) (l : List Int) : Prop := Row w v (l.map encI) ∧ ∀ k ∈ l, I64 k
theorem Ints.below {w w' : World} (hb : Below w.heap.size w w') {v : Value} {l : List Int} (h : Ints w v l) : Ints w' v l := ⟨h.1.below hb, h.2⟩
theorem Ints.nil (w : World) : Ints w (.slice none 0 0) [] := ⟨Row.nil w, by simp⟩
theorem Ints.len {w : World} {v : Value} {l : List Int} (h : Ints w v l) : l.length ≤ 140737488355328 := by simpa using h.1.len
theorem Ints.form {w : World} {v : Value} {l : List Int} (h : Ints w v l) : ∃ ao n cap, v = .slice ao n cap ∧ Hid (n = l.length) := by
  obtain ⟨ao, cap, rfl⟩ := h.1.form; exact ⟨_, _, _, rfl, by show _ = _; simp⟩
theorem Ints.at_ {w : World} {v : Value} {l : List Int} (h : Ints w v l) : ∃ ao cap g off, v = .slice ao l.length cap ∧ (0 < l.length → ao = some ⟨g, off, none⟩) ∧ (∀ (i : Nat) k, l[i]? = some k → w.cell? ⟨g, off + i, none⟩ = some (.int .i64 k)) := by
  obtain ⟨ao, cap, g, off, rfl, h2, h3, -⟩ := h.1
  refine ⟨ao, cap, g, off, by simp, by simpa using h2, fun i k hk => h3 i _ ?_⟩
  rw [List.getElem?_map, hk]; rfl
/-- 'v' is a slice of the numbers 'l' in a block of its own, from 'base' on. -/
def OwnI (w : World) (base : Nat) (v : Value) (l : List Int) : Prop := w.ownsRow base 3 1 v l.length (l.map encI) ∧ (∀ k ∈ l, I64 k) ∧ l.length ≤ 10000
theorem OwnI.ints {w : World} {base : Nat} {v : Value} {l : List Int} (h : OwnI w base v l) : Ints w v l :=
  ⟨ownsRow_row (by simpa using h.1) (by have := h.2.2; simp; omega), h.2.1⟩
theorem OwnI.below {w w' : World} {base : Nat} {v : Value} {l : List Int} (h : OwnI w base v l) (hb : Below w.heap.size w w') : OwnI w' base v l := ⟨ownsRow_below h.1 hb, h.2⟩
theorem OwnI.base {w : World} {base base' : Nat} {v : Value} {l : List Int} (h : OwnI w base v l) (hb : base' ≤ base) : OwnI w base' v l := ⟨ownsRow_base h.1 hb, h.2⟩
theorem OwnI.nil (w : World) (base : Nat) : OwnI w base (.slice none 0 0) [] := ⟨World.ownsRow_nil _ _ _ _, by simp, by simp⟩
theorem OwnI.lt {w : World} {base : Nat} {v : Value} {l : List Int} (h : OwnI w base v l) : ∀ k, v.ownBlock = some k → base ≤ k ∧ k < w.heap.size := h.1.lt
theorem OwnI.form {w : World} {base : Nat} {v : Value} {l : List Int} (h : OwnI w base v l) : ∃ ao n cap, v = .slice ao n cap ∧ Hid (n = l.length) := h.ints.form
theorem OwnI.same {w w' : World} {base : Nat} {v : Value} {l : List Int} (h : OwnI w base v l) (hk : ∀ k o, v.ownBlock = some k → w.heap[k]? = some o → w'.heap[k]? = some o) : OwnI w' base v l := ⟨ownsRow_of_block h.1 hk, h.2⟩
theorem OwnI.empty (w : World) (base : Nat) (hb : base ≤ w.heap.size) : OwnI (w.alloc (.cells #[] 3)) base (.slice (some ⟨w.heap.size, 0, none⟩) 0 0) [] :=
  ⟨by have := lit_row w base 3 [] hb (by simp); simpa using this, by simp, by simp⟩
theorem ints_lit (w : World) (k : Int) (hk : I64 k) : Ints (w.alloc (.cells #[.int .i64 k] 3)) (.slice (some ⟨w.heap.size, 0, none⟩) 1 1) [k] :=
  ⟨ownsRow_row (base := w.heap.size) (by have := lit_row w w.heap.size 3 [.int .i64 k] (Nat.le_refl _) (by simp); simpa [encI] using this) (by simp), by simpa using hk⟩
theorem infoI : (Try.prog.info? 3).map (fun i => (i.zero, i.size, i.bytes)) = some (some (.int .i64 0), 1, 8) := by kernel_rfl
theorem encI_one {l : List Int} : ∀ u ∈ l.map encI, u.oneCell' = true := by
  intro u hu; obtain ⟨k, -, rfl⟩ := List.mem_map.1 hu; rfl
/-- What an append onto numbers of one's own leaves. -/
structure GrewI (w : World) (v : Value) (base : Nat) (w' : World) (v' : Value) (l : List Int) : Prop where
  own : OwnI w' base v' l
  grown : w.grownBy w' v.ownBlock
  at_ : v'.ownBlock = v.ownBlock ∨ v'.ownBlock = some w.heap.size
theorem append_i (w : World) (ty : TypeId) (base : Nat) (v x : Value) (l m : List Int) (hown : OwnI w base v l) (hb : Ints w x m) (hn : l.length + m.length ≤ 10000) (hbase : base ≤ w.heap.size) :
    ∃ v' w', (Builtin.append_ #[22, 22] ty #[v, x]).run Try.prog w = .ok v' w' ∧ GrewI w v base w' v' (l ++ m) := by
  obtain ⟨i0, hi, hi2⟩ := Option.map_eq_some_iff.1 infoI
  simp only [Prod.mk.injEq] at hi2
  obtain ⟨v', w', hr, hg⟩ := append_row (ty := ty) Try.underlying22 hi hi2.1 hi2.2.1 hi2.2.2 rfl (by omega) w base v x (l.map encI) (m.map encI) (by simpa using hown.1) hb.1 encI_one (by simp; omega) hbase
  refine ⟨v', w', hr, ⟨⟨?_, ?_, by simpa using hn⟩, hg.grown, hg.at_⟩⟩
  · have := hg.own; rw [← List.map_append] at this; simpa using this
  · intro k hk
    rcases List.mem_append.1 hk with h | h
    · exact hown.2.1 k h
    · exact hb.2 k h
theorem GrewI.below {w : World} {v : Value} {base : Nat} {w' : World} {v' : Value} {l : List Int} (h : GrewI w v base w' v' l) {B : Nat} (hB : B ≤ w.heap.size) (h0 : ∀ k, v.ownBlock = some k → B ≤ k) : Below B w w' := (Below.refl B w).grown h.grown hB h0
theorem GrewI.block {w : World} {v : Value} {base : Nat} {w' : World} {v' : Value} {l : List Int} (h : GrewI w v base w' v' l) {k : Nat} {o : Obj} (hk : w.heap[k]? = some o) (hne : v.ownBlock ≠ some k) : w'.heap[k]? = some o := by
  rw [h.grown.block k (heap_lt hk) (fun e => hne e.symm)]; exact hk

theorem OwnI.block_new {w w' : World} {base : Nat} {v : Value} {l : List Int} (h : OwnI w base v l) (hk : ∀ k o, base ≤ k → w.heap[k]? = some o → w'.heap[k]? = some o) : OwnI w' base v l := h.same fun k o e ho => hk k o (h.lt k e).1 ho
end Go.Proofs.Ytnkcebngfnailaa
