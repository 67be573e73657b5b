import Derived.Test.YtliboiajhhnajaaGreatDoorChecked
import Derived.Below
import Derived.Deep.LoopGhost
import Derived.Deep.AppendLies
import Derived.Deep.QuietTactic
import Derived.RowKit
import Derived.ProofKit
import Derived.WalkKit
import Derived.IntWalk
import Derived.Handy
import Derived.Laws.AppendOwnNone
import Derived.Laws.BytesArg
import Derived.Lib.SliceRun
import Derived.Deep.MidRow
import Derived.Deep.WholeRow
import Derived.Maps.RangeWalk
/- Bytes in memory. -/
namespace Go.Proofs.YtliboiajhhnajaaGreatDoor
open Go.RowKit Go.Extern

theorem hide {p : Prop} (h : p) : Hid p := h
theorem cell_lt {w : World} {a : Addr} {v : Value} (h : w.cell? a = some v) : a.block < w.heap.size := by
  rcases Nat.lt_or_ge a.block w.heap.size with g | g
  · exact g
  · simp [World.cell?, Array.getElem?_eq_none g] at h

/-- The value 'v' is, in the world 'w', a slice of the bytes 'bs'. -/
def Bytes (w : World) (v : Value) (bs : List Nat) : Prop :=
  ∃ ao cap g off, v = .slice ao bs.length cap ∧ (0 < bs.length → ao = some ⟨g, off, none⟩) ∧ (∀ (i : Nat) b, bs[i]? = some b → w.cell? ⟨g, off + i, none⟩ = some (.int .u8 (b : Int))) ∧
    (∀ b ∈ bs, b < 256) ∧ bs.length ≤ 140737488355328 ∧ (ao = none → cap = 0) ∧ bs.length ≤ cap ∧ cap ≤ maxLen
theorem Bytes.below {w w' : World} (hb : Below w.heap.size w w') {v : Value} {bs : List Nat} (h : Bytes w v bs) : Bytes w' v bs := by
  obtain ⟨ao, cap, g, off, h1, h2, h3, h4⟩ := h
  exact ⟨ao, cap, g, off, h1, h2, fun i q hq => by rw [hb.cell (cell_lt (h3 i q hq))]; exact h3 i q hq, h4⟩
theorem Bytes.lt {w : World} {v : Value} {bs : List Nat} (h : Bytes w v bs) : ∀ b ∈ bs, b < 256 := by
  obtain ⟨ao, cap, g, off, h1, h2, h3, h4, h5⟩ := h; exact h4
theorem Bytes.len {w : World} {v : Value} {bs : List Nat} (h : Bytes w v bs) : bs.length ≤ 140737488355328 := by
  obtain ⟨ao, cap, g, off, h1, h2, h3, h4, h5, h6⟩ := h; exact h5
theorem Bytes.nil (w : World) : Bytes w (.slice none 0 0) [] := ⟨none, 0, 0, 0, rfl, by simp, by simp, by simp, by simp, by simp, by simp, by simp⟩

/-- The value 'v' is, in the world 'w', a slice of parts. -/
def Parts (w : World) (v : Value) (ps : List (List Nat)) : Prop :=
  ∃ ao cap g off, v = .slice ao ps.length cap ∧ (0 < ps.length → ao = some ⟨g, off, none⟩) ∧ (∀ (i : Nat) p, ps[i]? = some p → ∃ u, w.cell? ⟨g, off + i, none⟩ = some u ∧ Bytes w u p) ∧ ps.length ≤ 140737488355328

theorem take_snoc {α : Type} {l : List α} {j : Nat} {q : α} (h : l[j]? = some q) : l.take (j + 1) = l.take j ++ [q] := by rw [List.take_add_one, h]; rfl

end Go.Proofs.YtliboiajhhnajaaGreatDoor

/- Bytes that a call owns; append onto them; Copy, Clone and Same by their contracts. -/
namespace Go.Proofs.YtliboiajhhnajaaGreatDoor
open Go.RowKit Go.Extern

/-- Bytes as cells. -/
def cellsB (bs : List Nat) : List Value := bs.map fun b : Nat => Value.int .u8 (b : Int)
theorem cellsB_append (a b : List Nat) : cellsB (a ++ b) = cellsB a ++ cellsB b := by simp [cellsB]
theorem cellsB_length (a : List Nat) : (cellsB a).length = a.length := by simp [cellsB]
theorem cellsB_at {bs : List Nat} {i : Nat} {u : Value} (h : (cellsB bs)[i]? = some u) : ∃ b, bs[i]? = some b ∧ u = .int .u8 (b : Int) := by
  simp only [cellsB, List.getElem?_map, Option.map_eq_some_iff] at h
  obtain ⟨b, h1, h2⟩ := h
  exact ⟨b, h1, h2.symm⟩
theorem cellsB_get {bs : List Nat} {i b : Nat} (h : bs[i]? = some b) : (cellsB bs)[i]? = some (.int .u8 (b : Int)) := by simp [cellsB, h]

/-- 'v' is a slice of the bytes 'bs' in a block of its own, from 'base' on. -/
def Own (w : World) (base : Nat) (v : Value) (bs : List Nat) : Prop :=
  w.ownsRow base 5 1 v bs.length (cellsB bs) ∧ (∀ b ∈ bs, b < 256) ∧ bs.length ≤ 140737488355328

theorem Own.bytes {w : World} {base : Nat} {v : Value} {bs : List Nat} (h : Own w base v bs) : Bytes w v bs := by
  obtain ⟨⟨h1, h2⟩, h3, h4⟩ := h
  rcases h2 with ⟨rfl, h0⟩ | ⟨g, cap, cur, rfl, hg, hh, hc, hm, hs, ht⟩
  · have : bs = [] := List.length_eq_zero_iff.1 h0
    subst this
    exact Bytes.nil w
  · refine ⟨_, cap, g, 0, rfl, fun _ => rfl, fun i b hb => ?_, h3, h4, by simp, hc, hm⟩
    have := (World.ownsRow.cells (w := w) (base := base) (e := 5) (size := 1) (v := .slice (some ⟨g, 0, none⟩) bs.length cap) (n := bs.length) (xs := cellsB bs) ⟨h1, .inr ⟨g, cap, cur, rfl, hg, hh, hc, hm, hs, ht⟩⟩ (g := g) rfl) i _ (cellsB_get hb)
    have e : (⟨g, 0, none⟩ : Addr).add i = ⟨g, 0 + i, none⟩ := by unfold Addr.add; split <;> simp_all
    rw [e] at this; exact this
theorem Own.below {w w' : World} {base : Nat} {v : Value} {bs : List Nat} (h : Own w base v bs) (hb : Below w.heap.size w w') : Own w' base v bs := by
  obtain ⟨⟨h1, h2⟩, h3⟩ := h
  refine ⟨⟨h1, ?_⟩, h3⟩
  rcases h2 with h2 | ⟨g, cap, cur, hv, hg, hh, r⟩
  · exact Or.inl h2
  · refine Or.inr ⟨g, cap, cur, hv, hg, ?_, r⟩
    rw [hb.block g ?_]; exact hh
    rcases Nat.lt_or_ge g w.heap.size with q | q
    · exact q
    · rw [Array.getElem?_eq_none q] at hh; cases hh
theorem Own.base {w : World} {base base' : Nat} {v : Value} {bs : List Nat} (h : Own w base v bs) (hb : base' ≤ base) : Own w base' v bs := by
  obtain ⟨⟨h1, h2⟩, h3⟩ := h
  refine ⟨⟨h1, ?_⟩, h3⟩
  rcases h2 with h2 | ⟨g, cap, cur, hv, hg, r⟩
  · exact Or.inl h2
  · exact Or.inr ⟨g, cap, cur, hv, by omega, r⟩
theorem Own.nil (w : World) (base : Nat) : Own w base (.slice none 0 0) [] := ⟨World.ownsRow_nil _ _ _ _, by simp, by simp⟩
theorem Own.lit (w : World) (base : Nat) (hb : base ≤ w.heap.size) (bs : List Nat) (hl : ∀ b ∈ bs, b < 256) (hn : bs.length ≤ 140737488355328) :
    Own (w.alloc (.cells (cellsB bs).toArray 5)) base (.slice (some ⟨w.heap.size, 0, none⟩) bs.length bs.length) bs :=
  ⟨by have := World.ownsRow_lit (base := base) (e := 5) (size := 1) w (cellsB bs).toArray bs.length hb (by unfold maxLen; omega) (by simp [cellsB]); simpa using this, hl, hn⟩
theorem Own.lt {w : World} {base : Nat} {v : Value} {bs : List Nat} (h : Own w base v bs) : ∀ k, v.ownBlock = some k → base ≤ k ∧ k < w.heap.size := h.1.lt
theorem Own.form {w : World} {base : Nat} {v : Value} {bs : List Nat} (h : Own w base v bs) : ∃ ao cap, v = .slice ao bs.length cap := by
  obtain ⟨⟨h1, h2⟩, h3⟩ := h
  rcases h2 with ⟨rfl, h0⟩ | ⟨g, cap, cur, rfl, hg, r⟩
  · exact ⟨none, 0, by rw [h0]⟩
  · exact ⟨_, _, rfl⟩

theorem infoU8 : (Tryz.prog.info? 5).map (fun i => (i.zero, i.size, i.bytes)) = some (some (.int .u8 0), 1, 1) := by kernel_rfl

theorem grownBy_refl (w : World) (row : Option Nat) : w.grownBy w row := ⟨rfl, rfl, rfl, Nat.le_refl _, fun _ _ _ => rfl⟩

/-- append of any bytes onto bytes that the call owns. -/
theorem run_append_bytes (w : World) (ty : TypeId) (base : Nat) (v x : Value) (xs ys : List Nat) (hown : Own w base v xs) (hb : Bytes w x ys) (hn : xs.length + ys.length ≤ 140737488355328) (hbase : base ≤ w.heap.size) :
    ∃ v' w', (Builtin.append_ #[28, 28] ty #[v, x]).run Tryz.prog w = .ok v' w' ∧ Own w' base v' (xs ++ ys) ∧ w.grownBy w' v.ownBlock ∧ (v'.ownBlock = v.ownBlock ∨ v'.ownBlock = some w.heap.size) := by
  obtain ⟨i0, hi, hi2⟩ := Option.map_eq_some_iff.1 infoU8
  simp only [Prod.mk.injEq] at hi2
  obtain ⟨hz0, hz1, hz2⟩ := hi2
  obtain ⟨ao, cap, g, off, rfl, h2, h3, h4, h5, h6, h7, h8⟩ := hb
  have hall : ∀ b ∈ xs ++ ys, b < 256 := by
    intro b hb
    rcases List.mem_append.1 hb with h | h
    · exact hown.2.1 b h
    · exact h4 b h
  cases ao with
  | none =>
    have hy : ys = [] := by
      rcases Nat.eq_zero_or_pos ys.length with h | h
      · exact List.length_eq_zero_iff.1 h
      · cases h2 h
    subst hy
    obtain rfl := h6 rfl
    exact ⟨v, w, run_append_owned_none (P := Tryz.prog) (w := w) base 28 ty 5 i0 1 Tryz.underlying28 hi v xs.length _ hown.1, by simpa using hown, grownBy_refl _ _, .inl rfl⟩
  | some ad =>
    have hnews : ∀ j u, (cellsB ys)[j]? = some u → w.cell? (ad.add j) = some u := by
      intro j u hu
      obtain ⟨b, hb1, rfl⟩ := cellsB_at hu
      have hpos : 0 < ys.length := by
        rcases Nat.eq_zero_or_pos ys.length with h | h
        · rw [List.length_eq_zero_iff.1 h] at hb1; cases hb1
        · exact h
      have e := Option.some.inj (h2 hpos)
      subst e
      have e : (⟨g, off, none⟩ : Addr).add j = ⟨g, off + j, none⟩ := by unfold Addr.add; split <;> simp_all
      rw [e]; exact h3 j b hb1
    obtain ⟨v', w', hr, ho, hg, -, hat⟩ := run_append_own_at (P := Tryz.prog) w base 28 ty 5 i0 (.int .u8 0) 1 1 Tryz.underlying28 hi hz0 hz1 hz2 rfl (by decide) v xs.length (cellsB xs) hown.1 ad ys.length cap (cellsB ys) (by simp [cellsB]) hnews
      (by intro u hu; simp only [cellsB, List.mem_map] at hu; obtain ⟨b, -, rfl⟩ := hu; rfl) (by unfold maxLen; omega) (by omega) hbase
    exact ⟨v', w', hr, ⟨by rw [cellsB_append, List.length_append]; exact ho, hall, by simpa using hn⟩, hg, hat⟩

theorem wpList_append_bytes {w : World} {ops : Array Oper} {rest : List Oper} {o : Oper} {a : Act} {Q : Exit → Act → World → Prop} (hgd : o.guard = none) (s x : Operand)
    (ho : o.op = .call { callee := .builtin .append, args := #[s, x], argTypes := #[28, 28] })
    (base : Nat) (v u : Value) (xs ys : List Nat) (hs : a.eval s = v) (hx : a.eval x = u) (hown : Own w base v xs) (hb : Bytes w u ys) (hn : xs.length + ys.length ≤ 140737488355328) (hbase : base ≤ w.heap.size)
    (h : ∀ v' w', Own w' base v' (xs ++ ys) → w.grownBy w' v.ownBlock → (v'.ownBlock = v.ownBlock ∨ v'.ownBlock = some w.heap.size) → wpList Tryz.prog ops Q rest (a.put o.dst v') w') : wpList Tryz.prog ops Q (o :: rest) a w := by
  refine wpList_plain hgd fun K hK => ?_
  obtain ⟨v', w', hr, h1, h2, h3⟩ := run_append_bytes w o.type base v u xs ys hown hb hn hbase
  unfold Oper.wp
  simp [execOp, ho, resolve, invoke, builtin, hs, hx, hr, Result.andThen]
  exact hK _ _ (h v' w' h1 h2 h3)

theorem copy_any (bs : List Nat) (v : Value) (w : World) (hv : Bytes w v bs) :
    Calls Tryz.prog 12 #[v] w fun e w' => ∃ u, e = .returned u ∧ Own w' w.heap.size u bs ∧ Below w.heap.size w w' := by
  have HV := hide hv
  obtain ⟨ao, cap, g, off, rfl, -⟩ := hv
  go_enter Tryz.func12, Tryz.ntmps12
  go_wp2_with (at_builtin; refine wpList_append_bytes rfl _ _ rfl w.heap.size _ _ [] bs rfl rfl (Own.nil _ _) HV.out (by have := HV.out.len; simpa using this) (Nat.le_refl _) ?_)
  intro v' w' ho hg hat
  have HO := hide ho
  have HG := hide ((Below.refl w.heap.size w).grown hg (Nat.le_refl _) (by simp [Value.ownBlock]))
  obtain ⟨ao2, cap2, rfl⟩ := ho.form
  clear ho hg hat
  go_wp2
  go_ret
  exact ⟨_, rfl, HO.out, HG.out⟩
end Go.Proofs.YtliboiajhhnajaaGreatDoor

/- Clone and Same by their contracts. -/
namespace Go.Proofs.YtliboiajhhnajaaGreatDoor
open Go.RowKit Go.Extern

set_option maxRecDepth 100000 in
theorem clone_any (bs : List Nat) (v : Value) (w : World) (hv : Bytes w v bs) :
    Calls Tryz.prog 75 #[v] w fun e w' => ∃ u, e = .returned u ∧ Own w' w.heap.size u bs ∧ Below w.heap.size w w' := by
  have HV := hide hv
  obtain ⟨ao, cap, g, off, rfl, h2, -, -, -, h6, -⟩ := hv
  cases ao with
  | none =>
    have hy : bs = [] := by
      rcases Nat.eq_zero_or_pos bs.length with h | h
      · exact List.length_eq_zero_iff.1 h
      · cases h2 h
    subst hy
    obtain rfl := h6 rfl
    clear h2 h6
    have q1 := Lib.run_eql_slice_nil (P := Tryz.prog) w 28 5 none 0 0 0 0 Tryz.underlying28
    go_enter Tryz.func75, Tryz.ntmps75
    go_wp2
    go_ret
    exact ⟨_, rfl, Own.nil _ _, Below.refl _ _⟩
  | some ad =>
    clear h2 h6
    have q1 := Lib.run_eql_slice_nil (P := Tryz.prog) w 28 5 (some ad) bs.length cap 0 0 Tryz.underlying28
    go_enter Tryz.func75, Tryz.ntmps75
    go_wp2_with (at_builtin; refine wpList_append_bytes rfl _ _ rfl w.heap.size _ _ [] bs rfl rfl (Own.lit w w.heap.size (Nat.le_refl _) [] (by simp) (by simp)) (HV.out.below ((Below.refl _ _).alloc (Nat.le_refl _) _)) (by have := HV.out.len; simpa using this) (by simp) ?_)
    intro v' w' ho hg hat
    have HO := hide ho
    have HG := hide (((Below.refl w.heap.size w).alloc (Nat.le_refl _) (.cells (cellsB []).toArray 5)).grown hg (by simp) (by simp [Value.ownBlock]))
    obtain ⟨ao2, cap2, rfl⟩ := ho.form
    clear ho hg hat
    go_wp2
    go_ret
    exact ⟨_, rfl, HO.out, HG.out⟩

/-- Bytes as a string. -/
def strB (bs : List Nat) : ByteArray := ⟨(bs.map UInt8.ofNat).toArray⟩
theorem strB_nums (bs : List Nat) : strOfNums (bs.map fun b : Nat => (b : Int)) = strB bs := by
  unfold strOfNums strB; congr 2; rw [List.map_map]; rfl
theorem strB_inj : ∀ (a b : List Nat), (∀ x ∈ a, x < 256) → (∀ x ∈ b, x < 256) → strB a = strB b → a = b := by
  intro a b ha hb h
  have h1 : a.map UInt8.ofNat = b.map UInt8.ofNat := by
    have := congrArg (fun s => s.data.toList) h
    simpa [strB] using this
  have h2 := congrArg (List.map UInt8.toNat) h1
  have key : ∀ l : List Nat, (∀ x ∈ l, x < 256) → (l.map UInt8.ofNat).map UInt8.toNat = l := by
    intro l hl
    rw [List.map_map]
    conv => rhs; rw [← List.map_id l]
    exact List.map_congr_left fun x hx => by simpa using hl x hx
  rw [key a ha, key b hb] at h2
  exact h2
theorem run_conv (w : World) (v : Value) (bs : List Nat) (hv : Bytes w v bs) : (convert 28 9 v).run Tryz.prog w = .ok (.string (strB bs)) w := by
  obtain ⟨ao, cap, g, off, rfl, h2, h3, h4, h5, h6, h7, h8⟩ := hv
  rcases Nat.eq_zero_or_pos bs.length with h | h
  · have : bs = [] := List.length_eq_zero_iff.1 h
    subst this
    cases ao with
    | none => exact run_convert_bytes_nil (P := Tryz.prog) w 28 5 Tryz.underlying28 Tryz.underlying5 0 cap 9 Tryz.underlying9
    | some ad =>
      have hl : (loadCells ad 0).run Tryz.prog w = .ok (([] : List Int).map (Value.int .u8)).toArray w := by
        have := run_loadCells_list (P := Tryz.prog) w ad [] (by simp)
        simpa using this
      show (convert 28 9 (.slice (some ad) 0 cap)).run Tryz.prog w = _
      rw [run_convert_bytes_string w 28 9 5 _ 0 cap Tryz.underlying28 Tryz.underlying5 Tryz.underlying9, run_bytesToString w _ 0 cap [] hl]
      rfl
  · obtain rfl := h2 h
    rw [run_convert_bytes_arg (P := Tryz.prog) w 28 5 Tryz.underlying28 Tryz.underlying5 g off bs.length cap (bs.map fun b : Nat => (b : Int)) (by simp) (fun i hi => ?_) 9 Tryz.underlying9, strB_nums]
    rw [h3 i bs[i] (by simp [hi])]
    simp [List.getD, hi]

theorem same_any (a b : List Nat) (v u : Value) (w : World) (hv : Bytes w v a) (hu : Bytes w u b) :
    Calls Tryz.prog 21 #[v, u] w fun e w' => e = .returned (.bool (decide (a = b))) ∧ w' = w := by
  have e1 := run_conv w v a hv
  have e2 := run_conv w u b hu
  have HE : Hid (((strB a).toList == (strB b).toList) = decide (a = b)) := by
    show _ = _
    rw [ByteArray.toList_eq, ByteArray.toList_eq, Bool.eq_iff_iff, beq_iff_eq, decide_eq_true_iff]
    exact ⟨fun h => strB_inj a b hv.lt hu.lt (by have : (strB a).data = (strB b).data := Array.toList_inj.1 h
                                                 cases h1 : strB a; cases h2 : strB b; simp_all), fun h => by rw [h]⟩
  obtain ⟨ao, cap, g, off, rfl, -⟩ := hv
  obtain ⟨ao2, cap2, g2, off2, rfl, -⟩ := hu
  generalize strB a = sa at e1 HE
  generalize strB b = sb at e2 HE
  go_enter Tryz.func21, Tryz.ntmps21
  go_wp2
  go_ret
  exact ⟨by rw [← HE.out]; rfl, rfl⟩
end Go.Proofs.YtliboiajhhnajaaGreatDoor

/- Lists of pieces of one length, one behind the other. -/
namespace Go.Proofs.YtliboiajhhnajaaGreatDoor
open Go.RowKit Go.Extern

theorem flat_length {α β : Type} (f : α → List β) (m : Nat) : ∀ l : List α, (∀ x ∈ l, (f x).length = m) → (l.flatMap f).length = l.length * m
  | [], _ => by simp
  | x :: l, h => by
    rw [List.flatMap_cons, List.length_append, h x (by simp), flat_length f m l (fun y hy => h y (by simp [hy])), List.length_cons, Nat.add_mul]
    omega
theorem flat_get {α β : Type} (f : α → List β) (m : Nat) : ∀ (l : List α), (∀ x ∈ l, (f x).length = m) → ∀ (i : Nat) (x : α), l[i]? = some x → ∀ j, j < m → (l.flatMap f)[i * m + j]? = (f x)[j]?
  | [], _, i, x, h, _, _ => by simp at h
  | a :: l, hl, 0, x, h, j, hj => by
    obtain rfl : a = x := by simpa using h
    rw [List.flatMap_cons, Nat.zero_mul, Nat.zero_add, List.getElem?_append_left (by rw [hl a (by simp)]; exact hj)]
  | a :: l, hl, i + 1, x, h, j, hj => by
    have ha := hl a (by simp)
    rw [List.flatMap_cons, List.getElem?_append_right (by rw [ha, Nat.add_mul]; omega), ha]
    rw [show (i + 1) * m + j - m = i * m + j by rw [Nat.add_mul]; omega]
    exact flat_get f m l (fun y hy => hl y (by simp [hy])) i x (by simpa using h) j hj
theorem flat_splice {α β : Type} (f : α → List β) (m : Nat) : ∀ (l : List α), (∀ x ∈ l, (f x).length = m) → ∀ (i : Nat) (x y : α), l[i]? = some x → ∀ (o : Nat) (cs : List β), o + cs.length ≤ m → f y = (f x).take o ++ cs ++ (f x).drop (o + cs.length) → ∀ rest : List β,
    (l.flatMap f ++ rest).take (i * m + o) ++ cs ++ (l.flatMap f ++ rest).drop (i * m + o + cs.length) = (l.set i y).flatMap f ++ rest
  | [], _, i, x, y, h, _, _, _, _, _ => by simp at h
  | a :: l, hl, 0, x, y, h, o, cs, ho, hy, rest => by
    obtain rfl : a = x := by simpa using h
    have ha := hl a (by simp)
    rw [List.set_cons_zero, List.flatMap_cons, List.flatMap_cons, Nat.zero_mul, Nat.zero_add, List.append_assoc (f a), List.take_append_of_le_length (by omega), List.drop_append_of_le_length (by omega), hy]
    simp [List.append_assoc]
  | a :: l, hl, i + 1, x, y, h, o, cs, ho, hy, rest => by
    have ha := hl a (by simp)
    have ih := flat_splice f m l (fun z hz => hl z (by simp [hz])) i x y (by simpa using h) o cs ho hy rest
    rw [List.set_cons_succ, List.flatMap_cons, List.flatMap_cons, List.append_assoc (f a), List.append_assoc (f a), ← ih]
    have e1 : (i + 1) * m + o = (f a).length + (i * m + o) := by rw [ha, Nat.add_mul]; omega
    have e2 : (i + 1) * m + o + cs.length = (f a).length + (i * m + o + cs.length) := by rw [ha, Nat.add_mul]; omega
    rw [e2, e1, List.take_length_add_append, List.drop_length_add_append]
    simp [List.append_assoc]

/-- What is owned stays so where its block is as it was. -/
theorem ownsRow_of_block {w w' : World} {base : Nat} {e : TypeId} {size : Nat} {v : Value} {n : Nat} {xs : List Value} (h : w.ownsRow base e size v n xs) (hk : ∀ k o, v.ownBlock = some k → w.heap[k]? = some o → w'.heap[k]? = some o) : w'.ownsRow base e size v n xs := by
  obtain ⟨h1, h2⟩ := h
  refine ⟨h1, ?_⟩
  rcases h2 with h2 | ⟨g, cap, cur, rfl, hg, hh, r⟩
  · exact Or.inl h2
  · exact Or.inr ⟨g, cap, cur, rfl, hg, hk g _ rfl hh, r⟩
theorem ownsMap_of_block {H : Type} {w w' : World} {P : Program} {k : TypeId} {R : Value → Option (DataW H × List MemPlace)} {b n : Nat} {D : DataW H} (h : w.ownsMap P k R b n D) (hk : ∀ o, w.heap[b]? = some o → w'.heap[b]? = some o) : w'.ownsMap P k R b n D := by
  obtain ⟨es, clock, hb, r⟩ := h
  exact ⟨es, clock, hk _ hb, r⟩
theorem ownsMap_size {H : Type} {w : World} {P : Program} {k : TypeId} {R : Value → Option (DataW H × List MemPlace)} {b n : Nat} {D : DataW H} (h : w.ownsMap P k R b n D) : w.ownsMap P k R b (Maps.size D) D := by
  obtain ⟨es, clock, hb, F, hs, rfl⟩ := h
  exact ⟨es, clock, hb, F, by simp [Maps.size, length_sorted], rfl⟩
theorem ownsRow_form {w : World} {base : Nat} {e : TypeId} {size : Nat} {v : Value} {n : Nat} {xs : List Value} (h : w.ownsRow base e size v n xs) : ∃ ao cap, v = .slice ao n cap := by
  rcases h.2 with ⟨rfl, rfl⟩ | ⟨g, cap, cur, rfl, -⟩
  · exact ⟨_, _, rfl⟩
  · exact ⟨_, _, rfl⟩
theorem ownsRow_pos {w : World} {base : Nat} {e : TypeId} {size : Nat} {v : Value} {n : Nat} {xs : List Value} (h : w.ownsRow base e size v n xs) (hn : 0 < n) :
    ∃ g cap cur, v = .slice (some ⟨g, 0, none⟩) n cap ∧ w.heap[g]? = some (.cells cur e (0, 0)) ∧ n ≤ cap ∧ cap ≤ maxLen ∧ cur.size = cap * size ∧ cur.toList.take (n * size) = xs ∧ base ≤ g := by
  rcases h.2 with ⟨rfl, rfl⟩ | ⟨g, cap, cur, rfl, h1, h2, h3, h4, h5, h6⟩
  · omega
  · exact ⟨g, cap, cur, rfl, h2, h3, h4, h5, h6, h1⟩
end Go.Proofs.YtliboiajhhnajaaGreatDoor
