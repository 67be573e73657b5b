/- The four lists: made, begun, gone on with. -/
import Derived.Test.YtphmhepbilhkjaaLasts0
namespace Go.Proofs.Ytphmhepbilhkjaa
open Go.RowKit Go.Extern

section
variable {ρ : Operand → Value} {o : Oper} {w w' : World}
theorem exec_neqNil {x : Operand} {T : TypeId} (ho : o.op = .binOp .neq 25 x (.const .nilIface) T) (hc : ρ (.const .nilIface) = .nilIface) (hx : ρ x = .nilIface) : (execOp ρ o).run Try.prog w = .ok (.value (.bool false)) w := by
  unfold execOp; simp only [ho, hx, hc]; go_simp
theorem load_bytess {p : Addr} {v : Value} (h : w.cell? p = some v) : (Instr.loadAt 49 (.pointer (some p))).run Try.prog w = .ok v w := by go_simp
theorem store_bytess {p : Addr} {v : Value} (x : Option Addr) (n c : Nat) (h : w.cell? p = some v) (hf : w.frozen? p = false) : (Instr.storeAt 49 (.pointer (some p)) (.slice x n c)).run Try.prog w = .ok () (w.setCell p (.slice x n c)) := by go_simp
end
section
variable {w wr w' : World} {b A : Nat} {F F' : Nat → Prop} {S S' : List Sec} {vs : List Value} {ls : Nat → List (List Nat)}
theorem La.cell (h : La w wr b A F S vs ls) {i : Nat} {v : Value} (hi : vs[i]? = some v) : wr.cell? ⟨A, i, none⟩ = some v ∧ wr.frozen? ⟨A, i, none⟩ = false := by
  refine ⟨?_, row_frozen h.arr i⟩
  rw [cell_of_row wr A i _ _ _ h.arr, List.getElem?_toArray]; exact hi
theorem La.get (h : La w wr b A F S vs ls) {i : Nat} (hi : i < 4) : ∃ v, vs[i]? = some v := ⟨vs[i]'(by rw [h.vl]; exact hi), by simp [h.vl, hi]⟩
theorem La.start (hd : Dk wr F b S) (hF : ∀ k, F k → w.heap.size ≤ k ∧ k < wr.heap.size) (hb : Below w.heap.size w wr) : La w (wr.alloc (.cells #[.slice none 0 0, .slice none 0 0, .slice none 0 0, .slice none 0 0] 56)) b wr.heap.size F S [.slice none 0 0, .slice none 0 0, .slice none 0 0, .slice none 0 0] (fun _ => []) := by
  have hb1 : Below wr.heap.size wr (wr.alloc (.cells #[.slice none 0 0, .slice none 0 0, .slice none 0 0, .slice none 0 0] 56)) := (Below.refl _ _).alloc (Nat.le_refl _) _
  have hn : ∀ (i : Nat) v, [Value.slice none 0 0, .slice none 0 0, .slice none 0 0, .slice none 0 0][i]? = some v → v = .slice none 0 0 := fun i v hv => by
    have := List.mem_of_getElem? hv
    simpa using this
  refine ⟨hd.below hb1, fun k hk => ⟨(hF k hk).1, Nat.lt_of_lt_of_le (hF k hk).2 hb1.size⟩, hb.trans (hb1.mono hb.size), heap_alloc_new wr _, rfl, ⟨hb.size, fun hx => by have := (hF _ hx).2; omega⟩, fun i v hv => ?_, fun i v k hv hk => ?_, fun i i' v v' k _ hv _ hk => ?_⟩
  · rw [hn i v hv]; exact LRow.nil _ _ _
  · rw [hn i v hv] at hk; simp [Value.ownBlock] at hk
  · rw [hn i v hv] at hk; simp [Value.ownBlock] at hk
theorem La.lt (h : La w wr b A F S vs ls) {i : Nat} {v : Value} (hi : vs[i]? = some v) {k : Nat} (hk : v.ownBlock = some k) : w.heap.size ≤ k ∧ k < wr.heap.size := (h.row i v hi).lt k hk
/-- The first of a list. -/
theorem La.first (h : La w wr b A F S vs ls) (hb : Below wr.heap.size wr w') {u : Value} {bs : List Nat} (ho : Own w' wr.heap.size u bs) {i : Nat} (hi : i < 4) :
    La w ((w'.alloc (.cells #[u] 32)).setCell ⟨A, i, none⟩ (.slice (some ⟨w'.heap.size, 0, none⟩) 1 1)) b A F S (vs.set i (.slice (some ⟨w'.heap.size, 0, none⟩) 1 1)) (fun j => if j = i then [bs] else ls j) := by
  obtain ⟨v, hv⟩ := h.get hi
  have hA := heap_lt h.arr
  have hsz := hb.size
  refine (h.below hb).put hv (World.grownBy_alloc w' _ _) (.inr (fun k hk => ?_)) (LRow.one (Nat.le_trans h.bel.size hsz) ho.bytes (fun k hk => ?_))
  · simp only [Value.ownBlock, Option.some.injEq] at hk; omega
  · have := ho.lt k hk
    exact ⟨this.2, fun hx => by have := (h.fb k hx).2; omega, by omega, fun j x hx e => by have := (h.lt hx e).2; omega⟩
/-- What was handed in is turned by nobody. -/
theorem La.arg (h : La w wr b A F S vs ls) {u : Value} {d : List Nat} (hu : Bytes w u d) (hp : 0 < d.length) : ∀ k, u.ownBlock = some k → FreeK wr F A vs k := fun k hk => by
  have h1 := hu.block hp k hk
  have h2 := h.bel.size
  exact ⟨by omega, fun hx => by have := (h.fb k hx).1; omega, fun e => by have := h.fa.1; omega, fun j x hx e => by have := (h.lt hx e).1; omega⟩
/-- One more of a list. -/
theorem La.more (h : La w wr b A F S vs ls) {i : Nat} {v : Value} (hi : vs[i]? = some v) (ao : Option Addr) (n c : Nat) {d : List Nat} (hu : Bytes w (.slice ao n c) d) (hp : 0 < d.length) (hl : (ls i).length < 1000000) :
    ∃ v' w5, (Builtin.append_ #[49, 49] 49 #[v, .slice (some ⟨wr.heap.size, 0, none⟩) 1 1]).run Try.prog (wr.alloc (.cells #[.slice ao n c] 32)) = .ok v' w5 ∧ wr.grownBy w5 v.ownBlock ∧
      (Instr.storeAt 49 (.pointer (some ⟨A, i, none⟩)) v').run Try.prog w5 = .ok () (w5.setCell ⟨A, i, none⟩ v') ∧ La w (w5.setCell ⟨A, i, none⟩ v') b A F S (vs.set i v') (fun j => if j = i then ls i ++ [d] else ls j) := by
  obtain ⟨v', w5, hr, hrow, hg, hat⟩ := (h.row i v hi).append ao n c (Bytes.of_block hu (fun k hk hl => h.bel.block k hl)) (h.arg hu hp) h.bel.size hl (fun k hk => hk.2.2.2 i v hi)
  have hA := heap_lt h.arr
  have ha : w5.heap[A]? = some (.cells vs.toArray 56 (0, 0)) := by rw [hg.block A hA (fun e => (h.off i v A hi e.symm).2 rfl)]; exact h.arr
  obtain ⟨ao', cap', hf⟩ := hrow.form
  refine ⟨v', w5, hr, hg, ?_, h.put hi hg hat hrow⟩
  rw [hf]
  exact store_bytess _ _ _ (by rw [cell_of_row w5 A i _ _ _ ha, List.getElem?_toArray]; exact hi) (row_frozen ha i)
end
end Go.Proofs.Ytphmhepbilhkjaa
