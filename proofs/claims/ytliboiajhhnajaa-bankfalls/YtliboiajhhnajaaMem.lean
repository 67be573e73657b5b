/- Bytes that a call owns; append onto them; Copy, Clone and Same by their contracts. -/
import Derived.Test.YtliboiajhhnajaaCore
import Derived.Laws.AppendOwnNone
import Derived.Laws.BytesArg
namespace Go.Proofs.Ytliboiajhhnajaa
open Go.RowKit Go.Extern

/-- Bytes as cells. -/
def cellsB (bs : List Nat) : List Value := bs.map fun b : Nat => Value.int .u8 (b : Int)
theorem cellsB_append (a b : List Nat) : cellsB (a ++ b) = cellsB a ++ cellsB b := by simp [cellsB]
theorem cellsB_length (a : List Nat) : (cellsB a).length = a.length := by simp [cellsB]
theorem cellsB_at {bs : List Nat} {i : Nat} {u : Value} (h : (cellsB bs)[i]? = some u) : ∃ b, bs[i]? = some b ∧ u = .int .u8 (b : Int) := by
  simp only [cellsB, List.getElem?_map, Option.map_eq_some_iff] at h
  obtain ⟨b, h1, h2⟩ := h
  exact ⟨b, h1, h2.symm⟩
theorem cellsB_get {bs : List Nat} {i b : Nat} (h : bs[i]? = some b) : (cellsB bs)[i]? = some (.int .u8 (b : Int)) := by simp [cellsB, h]

/-- 'v' is a slice of the bytes 'bs' in a block of its own, from 'base' on. -/
def Own (w : World) (base : Nat) (v : Value) (bs : List Nat) : Prop :=
  w.ownsRow base 5 1 v bs.length (cellsB bs) ∧ (∀ b ∈ bs, b < 256) ∧ bs.length ≤ 140737488355328

theorem Own.bytes {w : World} {base : Nat} {v : Value} {bs : List Nat} (h : Own w base v bs) : Bytes w v bs := by
  obtain ⟨⟨h1, h2⟩, h3, h4⟩ := h
  rcases h2 with ⟨rfl, h0⟩ | ⟨g, cap, cur, rfl, hg, hh, hc, hm, hs, ht⟩
  · have : bs = [] := List.length_eq_zero_iff.1 h0
    subst this
    exact Bytes.nil w
  · refine ⟨_, cap, g, 0, rfl, fun _ => rfl, fun i b hb => ?_, h3, h4, by simp, hc, hm⟩
    have := (World.ownsRow.cells (w := w) (base := base) (e := 5) (size := 1) (v := .slice (some ⟨g, 0, none⟩) bs.length cap) (n := bs.length) (xs := cellsB bs) ⟨h1, .inr ⟨g, cap, cur, rfl, hg, hh, hc, hm, hs, ht⟩⟩ (g := g) rfl) i _ (cellsB_get hb)
    have e : (⟨g, 0, none⟩ : Addr).add i = ⟨g, 0 + i, none⟩ := by unfold Addr.add; split <;> simp_all
    rw [e] at this; exact this
theorem Own.below {w w' : World} {base : Nat} {v : Value} {bs : List Nat} (h : Own w base v bs) (hb : Below w.heap.size w w') : Own w' base v bs := by
  obtain ⟨⟨h1, h2⟩, h3⟩ := h
  refine ⟨⟨h1, ?_⟩, h3⟩
  rcases h2 with h2 | ⟨g, cap, cur, hv, hg, hh, r⟩
  · exact Or.inl h2
  · refine Or.inr ⟨g, cap, cur, hv, hg, ?_, r⟩
    rw [hb.block g ?_]; exact hh
    rcases Nat.lt_or_ge g w.heap.size with q | q
    · exact q
    · rw [Array.getElem?_eq_none q] at hh; cases hh
theorem Own.base {w : World} {base base' : Nat} {v : Value} {bs : List Nat} (h : Own w base v bs) (hb : base' ≤ base) : Own w base' v bs := by
  obtain ⟨⟨h1, h2⟩, h3⟩ := h
  refine ⟨⟨h1, ?_⟩, h3⟩
  rcases h2 with h2 | ⟨g, cap, cur, hv, hg, r⟩
  · exact Or.inl h2
  · exact Or.inr ⟨g, cap, cur, hv, by omega, r⟩
theorem Own.nil (w : World) (base : Nat) : Own w base (.slice none 0 0) [] := ⟨World.ownsRow_nil _ _ _ _, by simp, by simp⟩
theorem Own.lit (w : World) (base : Nat) (hb : base ≤ w.heap.size) (bs : List Nat) (hl : ∀ b ∈ bs, b < 256) (hn : bs.length ≤ 140737488355328) :
    Own (w.alloc (.cells (cellsB bs).toArray 5)) base (.slice (some ⟨w.heap.size, 0, none⟩) bs.length bs.length) bs :=
  ⟨by have := World.ownsRow_lit (base := base) (e := 5) (size := 1) w (cellsB bs).toArray bs.length hb (by unfold maxLen; omega) (by simp [cellsB]); simpa using this, hl, hn⟩
theorem Own.lt {w : World} {base : Nat} {v : Value} {bs : List Nat} (h : Own w base v bs) : ∀ k, v.ownBlock = some k → base ≤ k ∧ k < w.heap.size := h.1.lt
theorem Own.form {w : World} {base : Nat} {v : Value} {bs : List Nat} (h : Own w base v bs) : ∃ ao cap, v = .slice ao bs.length cap := by
  obtain ⟨⟨h1, h2⟩, h3⟩ := h
  rcases h2 with ⟨rfl, h0⟩ | ⟨g, cap, cur, rfl, hg, r⟩
  · exact ⟨none, 0, by rw [h0]⟩
  · exact ⟨_, _, rfl⟩

theorem infoU8 : (Try.prog.info? 5).map (fun i => (i.zero, i.size, i.bytes)) = some (some (.int .u8 0), 1, 1) := by kernel_rfl

theorem grownBy_refl (w : World) (row : Option Nat) : w.grownBy w row := ⟨rfl, rfl, rfl, Nat.le_refl _, fun _ _ _ => rfl⟩

/-- append of any bytes onto bytes that the call owns. -/
theorem run_append_bytes (w : World) (ty : TypeId) (base : Nat) (v x : Value) (xs ys : List Nat) (hown : Own w base v xs) (hb : Bytes w x ys) (hn : xs.length + ys.length ≤ 140737488355328) (hbase : base ≤ w.heap.size) :
    ∃ v' w', (Builtin.append_ #[31, 31] ty #[v, x]).run Try.prog w = .ok v' w' ∧ Own w' base v' (xs ++ ys) ∧ w.grownBy w' v.ownBlock ∧ (v'.ownBlock = v.ownBlock ∨ v'.ownBlock = some w.heap.size) := by
  obtain ⟨i0, hi, hi2⟩ := Option.map_eq_some_iff.1 infoU8
  simp only [Prod.mk.injEq] at hi2
  obtain ⟨hz0, hz1, hz2⟩ := hi2
  obtain ⟨ao, cap, g, off, rfl, h2, h3, h4, h5, h6, h7, h8⟩ := hb
  have hall : ∀ b ∈ xs ++ ys, b < 256 := by
    intro b hb
    rcases List.mem_append.1 hb with h | h
    · exact hown.2.1 b h
    · exact h4 b h
  cases ao with
  | none =>
    have hy : ys = [] := by
      rcases Nat.eq_zero_or_pos ys.length with h | h
      · exact List.length_eq_zero_iff.1 h
      · cases h2 h
    subst hy
    obtain rfl := h6 rfl
    exact ⟨v, w, run_append_owned_none (P := Try.prog) (w := w) base 31 ty 5 i0 1 Try.underlying31 hi v xs.length _ hown.1, by simpa using hown, grownBy_refl _ _, .inl rfl⟩
  | some ad =>
    have hnews : ∀ j u, (cellsB ys)[j]? = some u → w.cell? (ad.add j) = some u := by
      intro j u hu
      obtain ⟨b, hb1, rfl⟩ := cellsB_at hu
      have hpos : 0 < ys.length := by
        rcases Nat.eq_zero_or_pos ys.length with h | h
        · rw [List.length_eq_zero_iff.1 h] at hb1; cases hb1
        · exact h
      have e := Option.some.inj (h2 hpos)
      subst e
      have e : (⟨g, off, none⟩ : Addr).add j = ⟨g, off + j, none⟩ := by unfold Addr.add; split <;> simp_all
      rw [e]; exact h3 j b hb1
    obtain ⟨v', w', hr, ho, hg, -, hat⟩ := run_append_own_at (P := Try.prog) w base 31 ty 5 i0 (.int .u8 0) 1 1 Try.underlying31 hi hz0 hz1 hz2 rfl (by decide) v xs.length (cellsB xs) hown.1 ad ys.length cap (cellsB ys) (by simp [cellsB]) hnews
      (by intro u hu; simp only [cellsB, List.mem_map] at hu; obtain ⟨b, -, rfl⟩ := hu; rfl) (by unfold maxLen; omega) (by omega) hbase
    exact ⟨v', w', hr, ⟨by rw [cellsB_append, List.length_append]; exact ho, hall, by simpa using hn⟩, hg, hat⟩

theorem wpList_append_bytes {w : World} {ops : Array Oper} {rest : List Oper} {o : Oper} {a : Act} {Q : Exit → Act → World → Prop} (hgd : o.guard = none) (s x : Operand)
    (ho : o.op = .call { callee := .builtin .append, args := #[s, x], argTypes := #[31, 31] })
    (base : Nat) (v u : Value) (xs ys : List Nat) (hs : a.eval s = v) (hx : a.eval x = u) (hown : Own w base v xs) (hb : Bytes w u ys) (hn : xs.length + ys.length ≤ 140737488355328) (hbase : base ≤ w.heap.size)
    (h : ∀ v' w', Own w' base v' (xs ++ ys) → w.grownBy w' v.ownBlock → (v'.ownBlock = v.ownBlock ∨ v'.ownBlock = some w.heap.size) → wpList Try.prog ops Q rest (a.put o.dst v') w') : wpList Try.prog ops Q (o :: rest) a w := by
  refine wpList_plain hgd fun K hK => ?_
  obtain ⟨v', w', hr, h1, h2, h3⟩ := run_append_bytes w o.type base v u xs ys hown hb hn hbase
  unfold Oper.wp
  simp [execOp, ho, resolve, invoke, builtin, hs, hx, hr, Result.andThen]
  exact hK _ _ (h v' w' h1 h2 h3)

theorem copy_any (bs : List Nat) (v : Value) (w : World) (hv : Bytes w v bs) :
    Calls Try.prog 11 #[v] w fun e w' => ∃ u, e = .returned u ∧ Own w' w.heap.size u bs ∧ Below w.heap.size w w' := by
  have HV := hide hv
  obtain ⟨ao, cap, g, off, rfl, -⟩ := hv
  go_enter Try.func11, Try.ntmps11
  go_wp2_with (at_builtin; refine wpList_append_bytes rfl _ _ rfl w.heap.size _ _ [] bs rfl rfl (Own.nil _ _) HV.out (by have := HV.out.len; simpa using this) (Nat.le_refl _) ?_)
  intro v' w' ho hg hat
  have HO := hide ho
  have HG := hide ((Below.refl w.heap.size w).grown hg (Nat.le_refl _) (by simp [Value.ownBlock]))
  obtain ⟨ao2, cap2, rfl⟩ := ho.form
  clear ho hg hat
  go_wp2
  go_ret
  exact ⟨_, rfl, HO.out, HG.out⟩
end Go.Proofs.Ytliboiajhhnajaa
