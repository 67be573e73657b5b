import Derived.Test.YtliboiajhhnajaaGreatDoorM13
/- Bytes written over. -/
namespace Go.Proofs.YtliboiajhhnajaaGreatDoor
open Go.RowKit Go.Extern

/-- One byte written over. -/
theorem Own.set {w : World} {base g n cap i b : Nat} {bs : List Nat} (h : Own w base (.slice (some ⟨g, 0, none⟩) n cap) bs) (hb : b < 256) : Own (w.setCell ⟨g, i, none⟩ (.int .u8 (b : Int))) base (.slice (some ⟨g, 0, none⟩) n cap) (bs.set i b) := by
  obtain ⟨⟨h1, h2⟩, h3, h4⟩ := h
  have hl : ∀ x ∈ bs.set i b, x < 256 := fun x hx => by
    rcases List.mem_or_eq_of_mem_set hx with h | h
    · exact h3 x h
    · omega
  rcases h2 with ⟨h, -⟩ | ⟨g', cap', cur, hv, hg, hh, hc, hm, hs, ht⟩
  · cases h
  · simp only [Value.slice.injEq, Option.some.injEq, Addr.mk.injEq, and_true] at hv
    obtain ⟨rfl, hn, rfl⟩ := hv
    subst hn
    refine ⟨⟨by rw [cellsB_length, List.length_set]; simp, .inr ⟨g, cap, cur.setIfInBounds i (.int .u8 (b : Int)), by rw [List.length_set], hg, ?_, by rw [List.length_set]; exact hc, hm, by simpa using hs, ?_⟩⟩, hl, by rw [List.length_set]; exact h4⟩
    · rw [setCell_eq_setRow w g i _ _ _ _ hh]
      exact setRow_heap w g _ _ _ _ hh
    · rw [List.length_set, Array.toList_setIfInBounds, List.take_set, ht]
      simp [cellsB]
/-- The bytes of 'v' are being written over; nothing else has turned since 'w0'. -/
def Over (w0 wr : World) (v : Value) (n : Nat) : Prop := (∃ bs, bs.length = n ∧ Own wr 0 v bs) ∧ w0.grownBy wr v.ownBlock
theorem Over.start {w : World} {base : Nat} {v : Value} {bs : List Nat} (h : Own w base v bs) : Over w w v bs.length := ⟨⟨bs, rfl, h.base (Nat.zero_le _)⟩, grownBy_refl _ _⟩
theorem Over.form {w0 wr : World} {ao : Option Addr} {n cap : Nat} (h : Over w0 wr (.slice ao n cap) n) (hn : 0 < n) : ∃ g, ao = some ⟨g, 0, none⟩ := by
  obtain ⟨⟨bs, rfl, ho⟩, -⟩ := h
  obtain ⟨g, cap', cur, e, -⟩ := ownsRow_pos ho.1 hn
  injection e with e1
  exact ⟨g, e1⟩
theorem Over.at_ {w0 wr : World} {g n cap j : Nat} (h : Over w0 wr (.slice (some ⟨g, 0, none⟩) n cap) n) (hj : j < n) :
    ∃ x : Nat, x < 256 ∧ wr.cell? ⟨g, j, none⟩ = some (.int .u8 (x : Int)) ∧ wr.frozen? ⟨g, j, none⟩ = false ∧ ∀ y : Nat, y < 256 → Over w0 (wr.setCell ⟨g, j, none⟩ (.int .u8 (y : Int))) (.slice (some ⟨g, 0, none⟩) n cap) n := by
  obtain ⟨⟨bs, hbl, ho⟩, hg⟩ := h
  have hj' : j < bs.length := by omega
  obtain ⟨cur, hh⟩ := row_block ho.1 (g := g) rfl
  have hb : bs[j]? = some bs[j] := by simp [hj']
  have hrow : wr.ownsRow 0 5 1 (.slice (some ⟨g, 0, none⟩) bs.length cap) bs.length (cellsB bs) := by rw [hbl]; have := ho.1; rw [hbl] at this; exact this
  refine ⟨bs[j], ho.2.1 _ (List.mem_of_getElem? hb), row_cell hrow (cellsB_get hb), row_frozen hh j, fun y hy => ⟨⟨bs.set j y, by rw [List.length_set]; exact hbl, ho.set hy⟩, ?_⟩⟩
  refine ⟨hg.os, hg.tape, hg.output, by have := hg.size; simpa [World.setCell] using this, fun k hk hn => ?_⟩
  rw [Below.heap_setCell _ _ _ _ (fun e : k = g => hn (by rw [e]; rfl))]
  exact hg.block k hk hn
theorem Dk.over {w0 wr : World} {F : Nat → Prop} {b : Nat} {S : List Sec} {v : Value} {n : Nat} (h : Dk w0 F b S) (ho : Over w0 wr v n) (hv : ∀ k, v.ownBlock = some k → ¬ F k) : Dk wr F b S :=
  h.of_blocks fun k o hk hx => by rw [ho.2.block k (heap_lt hx) (fun e => hv k e.symm hk)]; exact hx
theorem Over.below {w0 wr : World} {v : Value} {n B : Nat} (h : Over w0 wr v n) (hB : B ≤ w0.heap.size) (hv : ∀ k, v.ownBlock = some k → B ≤ k) : Below B w0 wr :=
  (Below.refl _ _).grown h.2 hB hv
theorem wSet_eq {S : List Sec} {k : Nat} {s : Sec} {d : List Nat} (hs : S[k]? = some s) (hd : d.length = 128) : (wSet S (k : Int) d)[k]? = some { s with wait := s.wait ++ [d] } := by
  have hk := (List.getElem?_eq_some_iff.1 hs).1
  unfold wSet
  rw [if_pos ⟨hasB_nat hk, hd⟩, Int.toNat_natCast, hs]
  exact List.getElem?_set_self hk
theorem wSet_ne {S : List Sec} {k : Nat} {oi : Int} {d : List Nat} (h : oi ≠ (k : Int)) : (wSet S oi d)[k]? = S[k]? := by
  unfold wSet
  split
  · rename_i hx
    obtain ⟨j, s, rfl, hs⟩ := hasB_at hx.1
    rw [Int.toNat_natCast, hs]
    exact List.getElem?_set_ne (by omega)
  · rfl
theorem u8_not (x : Nat) (h : x < 256) : ∃ y : Nat, y < 256 ∧ bits .xor .u8 IntKind.u8.max (x : Int) = (y : Int) := by
  refine ⟨255 - x, by omega, ?_⟩
  have hall : ∀ n : Fin 256, bits .xor .u8 IntKind.u8.max ((n.val : Nat) : Int) = ((255 - n.val : Nat) : Int) := by decide +kernel
  exact hall ⟨x, h⟩
end Go.Proofs.YtliboiajhhnajaaGreatDoor

/- Picks handed on: a new slice of the same numbers. Two disks at once. -/
namespace Go.Proofs.YtliboiajhhnajaaGreatDoor
open Go.RowKit Go.Extern

def cellsI (ns : List Int) : List Value := ns.map (Value.int .i64)
theorem infoInt : (Tryz.prog.info? 3).map (fun i => (i.zero, i.size, i.bytes)) = some (some (.int .i64 0), 1, 8) := by kernel_rfl
theorem ints_of_row {w : World} {v : Value} {ns : List Int} (h : w.ownsRow 0 3 1 v ns.length (cellsI ns)) (hi : ∀ n ∈ ns, I64 n) (hl : ns.length ≤ 140737488355328) : Ints w v ns := by
  rcases h.2 with ⟨rfl, h0⟩ | ⟨g, cap, cur, rfl, -, hh, hc, hm, -⟩
  · rw [List.length_eq_zero_iff.1 h0]
    exact ⟨none, 0, 0, 0, rfl, by simp, by simp, by simp, by simp, by simp, by simp, by simp⟩
  · refine ⟨_, cap, g, 0, rfl, fun _ => rfl, fun i n hn => ?_, hi, hl, by simp, hc, hm⟩
    rw [Nat.zero_add]
    exact row_cell h (by unfold cellsI; rw [List.getElem?_map, hn]; rfl)
theorem append_picks (w : World) (x : Value) (ys : List Int) (hx : Ints w x ys) (hl : ys.length ≤ 1000000) :
    ∃ v' w', (Builtin.append_ #[29, 29] 29 #[.slice (some ⟨w.heap.size, 0, none⟩) 0 0, x]).run Tryz.prog (w.alloc (.cells #[] 3)) = .ok v' w' ∧ Ints w' v' ys ∧ Below w.heap.size w w' ∧ (∀ k, v'.ownBlock = some k → w.heap.size ≤ k) ∧ ∃ ao n c, v' = .slice ao n c := by
  obtain ⟨i0, hi, hz0, hz1, hz2⟩ := info_parts infoInt
  have hown : (w.alloc (.cells #[] 3)).ownsRow 0 3 1 (.slice (some ⟨w.heap.size, 0, none⟩) 0 0) 0 [] := World.ownsRow_made w #[] 0 (Nat.zero_le _) (by unfold maxLen; decide) rfl
  have hb1 : Below w.heap.size w (w.alloc (.cells #[] 3)) := (Below.refl _ _).alloc (Nat.le_refl _) _
  obtain ⟨ao, cap, g, off, rfl, h2, h3, h4, h5, h6, h7, h8⟩ := hx.below hb1
  cases ao with
  | none =>
    have hy : ys = [] := by
      rcases Nat.eq_zero_or_pos ys.length with h | h
      · exact List.length_eq_zero_iff.1 h
      · cases h2 h
    subst hy
    obtain rfl := h6 rfl
    refine ⟨_, _, run_append_owned_none (P := Tryz.prog) (w := w.alloc (.cells #[] 3)) 0 29 29 3 i0 1 Tryz.underlying29 hi _ 0 _ hown, ints_of_row (ns := []) hown (by simp) (by simp), hb1, fun k hk => ?_, _, _, _, rfl⟩
    simp only [Value.ownBlock, Option.some.injEq] at hk
    omega
  | some ad =>
    have hnews : ∀ j u, (cellsI ys)[j]? = some u → (w.alloc (.cells #[] 3)).cell? (ad.add j) = some u := by
      intro j u hu
      unfold cellsI at hu
      rw [List.getElem?_map] at hu
      obtain ⟨n, hn, rfl⟩ := Option.map_eq_some_iff.1 hu
      have hpos : 0 < ys.length := by
        rcases Nat.eq_zero_or_pos ys.length with h | h
        · rw [List.length_eq_zero_iff.1 h] at hn; cases hn
        · exact h
      have e := Option.some.inj (h2 hpos)
      subst e
      rw [Addr.add_mid]; exact h3 j n hn
    obtain ⟨v', w', hr, ho, hg, -, hat⟩ := run_append_own_at (P := Tryz.prog) (w.alloc (.cells #[] 3)) 0 29 29 3 i0 (.int .i64 0) 1 8 Tryz.underlying29 hi hz0 hz1 hz2 rfl (by decide) _ 0 [] hown ad ys.length cap (cellsI ys) (by simp [cellsI]) hnews
      (by intro u hu; simp only [cellsI, List.mem_map] at hu; obtain ⟨b, -, rfl⟩ := hu; rfl) (by unfold maxLen; omega) (by omega) (Nat.zero_le _)
    rw [Nat.zero_add, List.nil_append] at ho
    obtain ⟨ao', cap', hf⟩ := ownsRow_form ho
    refine ⟨v', w', hr, ints_of_row ho h4 h5, hb1.grown hg hb1.size (fun k hk => ?_), fun k hk => ?_, ⟨_, _, _, hf⟩⟩
    · simp only [Value.ownBlock, Option.some.injEq] at hk; omega
    · rcases hat with e | e
      · rw [e] at hk; simp only [Value.ownBlock, Option.some.injEq] at hk; omega
      · rw [e] at hk; have := Option.some.inj hk; simp at this; omega
theorem wpList_appendI {w w' : World} {ops : Array Oper} {rest : List Oper} {o : Oper} {a : Act} {Q : Exit → Act → World → Prop} {x y : Operand} {v xv yv : Value} (hgd : o.guard = none) (ho : o.op = .call { callee := .builtin .append, args := #[x, y], argTypes := #[29, 29] })
    (hr : (Builtin.append_ #[29, 29] 29 #[xv, yv]).run Tryz.prog w = .ok v w') (hty : o.type = 29) (hx : a.eval x = xv) (hy : a.eval y = yv)
    (h : wpList Tryz.prog ops Q rest (a.put o.dst v) w') : wpList Tryz.prog ops Q (o :: rest) a w :=
  wpList_exec hgd (exec_append ho (by rw [hty]; exact hr) hx hy) h

/-- What a write may make of a sector. -/
theorem wSet_mem {S : List Sec} {i : Int} {d : List Nat} {s : Sec} (h : s ∈ wSet S i d) : ∃ s0 ∈ S, s.bad = s0.bad ∧ s.wait.length ≤ s0.wait.length + 1 := by
  by_cases hd : d.length = 128
  · obtain ⟨k, hk⟩ := List.getElem?_of_mem h
    obtain ⟨s1, h1, rfl⟩ := wSet_at hd hk
    refine ⟨s1, List.mem_of_getElem? h1, ?_⟩
    split
    · exact ⟨rfl, by simp⟩
    · exact ⟨rfl, by omega⟩
  · rw [wSet_no (fun hx => hd hx.2)] at h
    exact ⟨s, h, rfl, by omega⟩
/-- Nothing waits: a crash changes nothing. -/
theorem crS_flushed (S : List Sec) (ps : List Int) : crS (S.map Sec.flushed) ps = S.map Sec.flushed := by
  have hp : pend (S.map Sec.flushed) = [] := by
    apply List.eq_nil_iff_forall_not_mem.2
    intro i hi
    obtain ⟨s, hs, hw⟩ := mem_pend.1 hi
    rw [List.getElem?_map] at hs
    obtain ⟨s0, -, rfl⟩ := Option.map_eq_some_iff.1 hs
    exact hw rfl
  unfold crS
  rw [hp, crF_nil, List.map_map]
  rfl

/-- Two disks with the same sectors. -/
def TwR (w wr : World) (a b n j : Nat) : Prop :=
  ∃ Fa Fb S, Dk wr Fa a S ∧ Dk wr Fb b S ∧ (∀ k, Fa k → w.heap.size ≤ k ∧ k < wr.heap.size) ∧ (∀ k, Fb k → w.heap.size ≤ k ∧ k < wr.heap.size) ∧ (∀ k, Fa k → ¬ Fb k) ∧ S.length = n ∧ (∀ s ∈ S, s.wait.length ≤ j ∧ s.bad = false) ∧ Below w.heap.size w wr
theorem TwR.below {w wr w' : World} {a b n j : Nat} (h : TwR w wr a b n j) (hb : Below wr.heap.size wr w') : TwR w w' a b n j := by
  obtain ⟨Fa, Fb, S, h1, h2, h3, h4, h5, h6, h7, h8⟩ := h
  exact ⟨Fa, Fb, S, h1.below hb, h2.below hb, fun k hk => ⟨(h3 k hk).1, Nat.lt_of_lt_of_le (h3 k hk).2 hb.size⟩, fun k hk => ⟨(h4 k hk).1, Nat.lt_of_lt_of_le (h4 k hk).2 hb.size⟩, h5, h6, h7, h8.trans (hb.mono h8.size)⟩
theorem TwR.mono {w wr : World} {a b n j j' : Nat} (h : TwR w wr a b n j) (hj : j ≤ j') : TwR w wr a b n j' := by
  obtain ⟨Fa, Fb, S, h1, h2, h3, h4, h5, h6, h7, h8⟩ := h
  exact ⟨Fa, Fb, S, h1, h2, h3, h4, h5, h6, fun s hs => ⟨Nat.le_trans (h7 s hs).1 hj, (h7 s hs).2⟩, h8⟩
/-- One disk behind the other is turned in the same way. -/
theorem TwR.both {w wr w2 w3 w4 w5 : World} {a b n j : Nat} {Fa Fb : Nat → Prop} {S' : List Sec} (h3 : ∀ k, Fa k → w.heap.size ≤ k ∧ k < wr.heap.size) (h4 : ∀ k, Fb k → w.heap.size ≤ k ∧ k < wr.heap.size) (h5 : ∀ k, Fa k → ¬ Fb k) (h8 : Below w.heap.size w wr)
    (hb2 : Below wr.heap.size wr w2) (hd3 : Dk w3 (ext Fa w2 w3) a S') (ht3 : Turn Fa w2 w3) (hb4 : Below w3.heap.size w3 w4) (hd5 : Dk w5 (ext Fb w4 w5) b S') (ht5 : Turn Fb w4 w5) (hn : S'.length = n) (hs : ∀ s ∈ S', s.wait.length ≤ j ∧ s.bad = false) : TwR w w5 a b n j := by
  have z0 := h8.size
  have z1 := hb2.size
  have z2 := ht3.size
  have z3 := hb4.size
  have z4 := ht5.size
  refine ⟨ext Fa w2 w3, ext Fb w4 w5, S', (hd3.below hb4).turn ht5 (fun k hk hx => ?_), hd5, fun k hk => ?_, fun k hk => ?_, fun k hk hx => ?_, hn, hs, ?_⟩
  · rcases hk with hk | hk
    · exact h5 k hk hx
    · have := (h4 k hx).2; omega
  · rcases hk with hk | hk
    · have := h3 k hk; omega
    · omega
  · rcases hk with hk | hk
    · have := h4 k hk; omega
    · omega
  · rcases hk with hk | hk <;> rcases hx with hx | hx
    · exact h5 k hk hx
    · have := (h3 k hk).2; omega
    · have := (h4 k hx).2; omega
    · omega
  · exact h8.trans ((hb2.mono z0).trans ((ht3.below (by omega) (fun k hk => (h3 k hk).1)).trans ((hb4.mono (by omega)).trans (ht5.below (by omega) (fun k hk => (h4 k hk).1)))))
/-- .. the other one meanwhile. -/
theorem TwR.other {wr w2 w3 w4 : World} {b : Nat} {Fa Fb : Nat → Prop} {S : List Sec} (h2 : Dk wr Fb b S) (h5 : ∀ k, Fa k → ¬ Fb k) (hb2 : Below wr.heap.size wr w2) (ht3 : Turn Fa w2 w3) (hb4 : Below w3.heap.size w3 w4) : Dk w4 Fb b S :=
  ((h2.below hb2).turn ht3 (fun k hk hx => h5 k hx hk)).below hb4
end Go.Proofs.YtliboiajhhnajaaGreatDoor

/- Two lists of numbers held against each other, by the contract. -/
namespace Go.Proofs.YtliboiajhhnajaaGreatDoor
open Go.RowKit Go.Extern

end Go.Proofs.YtliboiajhhnajaaGreatDoor

/- Lists of bytes that were read; one disk under a script. -/
namespace Go.Proofs.YtliboiajhhnajaaGreatDoor
open Go.RowKit Go.Extern

/-- The value 'v' is a slice of slices of bytes, all in blocks from 'B' on. -/
def HadR (B : Nat) (w : World) (v : Value) (bl : List (List Nat)) : Prop :=
  ∃ vs, w.ownsRow B 28 1 v vs.length vs ∧ vs.length = bl.length ∧ ∀ (i : Nat) u bs, vs[i]? = some u → bl[i]? = some bs → Own w B u bs
theorem HadR.nil (B : Nat) (w : World) : HadR B w (.slice none 0 0) [] := ⟨[], World.ownsRow_nil _ _ _ _, rfl, by simp⟩
theorem HadR.below {B : Nat} {w w' : World} {v : Value} {bl : List (List Nat)} (h : HadR B w v bl) (hb : Below w.heap.size w w') : HadR B w' v bl := by
  obtain ⟨vs, h1, h2, h3⟩ := h
  exact ⟨vs, ownsRow_of_block h1 (fun k o _ ho => by rw [hb.block k (heap_lt ho)]; exact ho), h2, fun i u bs hu hs => (h3 i u bs hu hs).below hb⟩
theorem HadR.turn {B : Nat} {F : Nat → Prop} {w w' : World} {v : Value} {bl : List (List Nat)} (h : HadR B w v bl) (ht : Turn F w w') (hF : ∀ k, F k → k < B) : HadR B w' v bl := by
  obtain ⟨vs, h1, h2, h3⟩ := h
  refine ⟨vs, ownsRow_of_block h1 (fun k o hk ho => by rw [ht.block k (heap_lt ho) (fun hx => by have := hF k hx; have := (h1.lt k hk).1; omega)]; exact ho), h2, fun i u bs hu hs => ?_⟩
  obtain ⟨q1, q2⟩ := h3 i u bs hu hs
  exact ⟨ownsRow_of_block q1 (fun k o hk ho => by rw [ht.block k (heap_lt ho) (fun hx => by have := hF k hx; have := (q1.lt k hk).1; omega)]; exact ho), q2⟩
theorem HadR.form {B : Nat} {w : World} {v : Value} {bl : List (List Nat)} (h : HadR B w v bl) : ∃ ao cap, v = .slice ao bl.length cap := by
  obtain ⟨vs, h1, h2, -⟩ := h
  rw [← h2]
  exact ownsRow_form h1
theorem HadR.at_ {B : Nat} {w : World} {ao : Option Addr} {n cap : Nat} {bl : List (List Nat)} (h : HadR B w (.slice ao n cap) bl) {i : Nat} {bs : List Nat} (hs : bl[i]? = some bs) : ∃ g u, ao = some ⟨g, 0, none⟩ ∧ w.cell? ⟨g, i, none⟩ = some u ∧ Own w B u bs := by
  obtain ⟨vs, h1, h2, h3⟩ := h
  have hi : i < vs.length := by rw [h2]; exact (List.getElem?_eq_some_iff.1 hs).1
  have hu : vs[i]? = some vs[i] := by simp [hi]
  obtain ⟨g, cap', cur, e, -⟩ := ownsRow_pos h1 (by omega)
  have hn : n = vs.length := by injection e
  have e1 : ao = some ⟨g, 0, none⟩ := by injection e
  subst hn e1
  exact ⟨g, vs[i], rfl, row_cell h1 hu, h3 i _ bs hu hs⟩
theorem infoBy : (Tryz.prog.info? 28).map (fun i => (i.zero, i.size, i.bytes)) = some (some (.slice none 0 0), 1, 24) := by kernel_rfl
/-- One more is appended. -/
theorem HadR.append {B : Nat} {w : World} {v : Value} {bl : List (List Nat)} (h : HadR B w v bl) (ao : Option Addr) (n c : Nat) {bs : List Nat} (hu : Own w B (.slice ao n c) bs) (hB : B ≤ w.heap.size) (hl : bl.length < 1000000) :
    ∃ v' w', (Builtin.append_ #[94, 94] 94 #[v, .slice (some ⟨w.heap.size, 0, none⟩) 1 1]).run Tryz.prog (w.alloc (.cells #[.slice ao n c] 28)) = .ok v' w' ∧ HadR B w' v' (bl ++ [bs]) ∧ w.grownBy w' v.ownBlock ∧ ∃ ao n c, v' = .slice ao n c := by
  obtain ⟨i0, hi, hz0, hz1, hz2⟩ := info_parts infoBy
  have hb1 : Below w.heap.size w (w.alloc (.cells #[.slice ao n c] 28)) := (Below.refl _ _).alloc (Nat.le_refl _) _
  obtain ⟨vs, h1, h2, h3⟩ := h.below hb1
  have hu1 := hu.below hb1
  obtain ⟨v', w', hr, ho, hg, -, hat⟩ := run_append_own_at (P := Tryz.prog) (w.alloc (.cells #[.slice ao n c] 28)) B 94 94 28 i0 (.slice none 0 0) 1 24 Tryz.underlying94 hi hz0 hz1 hz2 rfl (by decide) v vs.length vs h1 ⟨w.heap.size, 0, none⟩ 1 1 [.slice ao n c] (by simp)
    (fun j u hj => by
      match j, hj with
      | 0, hj =>
        obtain rfl : Value.slice ao n c = u := by simpa using hj
        rw [Addr.add_mid, cell_of_row _ _ _ _ _ _ (heap_alloc_new w _)]; rfl) (by simp [Value.oneCell']) (by unfold maxLen; omega) (by omega) (by simp; omega)
  obtain ⟨ao', cap', hf⟩ := ownsRow_form ho
  -- elements' rows are bytes, the list's row is slices: they lie apart
  have hkeep : ∀ {x : Value} {xb : List Nat}, Own (w.alloc (.cells #[.slice ao n c] 28)) B x xb → Own w' B x xb := fun {x xb} hx => by
    obtain ⟨q1, q2⟩ := hx
    refine ⟨ownsRow_of_block q1 (fun k o hk ho' => ?_), q2⟩
    rw [hg.block k (heap_lt ho') (fun e => ?_)]
    · exact ho'
    · rcases q1.2 with ⟨e2, -⟩ | ⟨g2, cap2, cur2, e2, -, hh2, -⟩
      · rw [e2] at hk; simp [Value.ownBlock] at hk
      · rw [e2] at hk
        simp only [Value.ownBlock, Option.some.injEq] at hk
        rcases h1.2 with ⟨e3, -⟩ | ⟨g3, cap3, cur3, e3, -, hh3, -⟩
        · rw [e3] at e; simp [Value.ownBlock] at e
        · rw [e3] at e
          simp only [Value.ownBlock, Option.some.injEq] at e
          rw [← e, ← hk, hh2] at hh3
          simp at hh3
  refine ⟨v', w', hr, ⟨vs ++ [.slice ao n c], by rw [List.length_append]; exact ho, by simp [h2], fun i u bs' hu' hs' => ?_⟩, (World.grownBy_alloc w _ _).trans hg, ⟨_, _, _, hf⟩⟩
  by_cases hi2 : i < vs.length
  · rw [List.getElem?_append_left hi2] at hu'
    rw [List.getElem?_append_left (by omega)] at hs'
    exact hkeep (h3 i u bs' hu' hs')
  · rw [List.getElem?_append_right (by omega)] at hu'
    rw [List.getElem?_append_right (by omega)] at hs'
    have e0 : i - vs.length = 0 := by
      have := (List.getElem?_eq_some_iff.1 hu').1
      simpa using this
    rw [e0] at hu'
    rw [← h2, e0] at hs'
    simp only [List.getElem?_cons_zero, Option.some.injEq] at hu' hs'
    subst hu' hs'
    exact hkeep hu1
theorem wpList_appendL {w w' : World} {ops : Array Oper} {rest : List Oper} {o : Oper} {a : Act} {Q : Exit → Act → World → Prop} {x y : Operand} {v xv yv : Value} (hgd : o.guard = none) (ho : o.op = .call { callee := .builtin .append, args := #[x, y], argTypes := #[94, 94] })
    (hr : (Builtin.append_ #[94, 94] 94 #[xv, yv]).run Tryz.prog w = .ok v w') (hty : o.type = 94) (hx : a.eval x = xv) (hy : a.eval y = yv)
    (h : wpList Tryz.prog ops Q rest (a.put o.dst v) w') : wpList Tryz.prog ops Q (o :: rest) a w :=
  wpList_exec hgd (exec_append ho (by rw [hty]; exact hr) hx hy) h

/-- One disk under a script. -/
def OneR (w wr : World) (b n j : Nat) : Prop :=
  ∃ F S, Dk wr F b S ∧ (∀ k, F k → w.heap.size ≤ k ∧ k < wr.heap.size) ∧ S.length = n ∧ (∀ s ∈ S, s.wait.length ≤ j ∧ s.bad = false) ∧ Below w.heap.size w wr
theorem OneR.below {w wr w' : World} {b n j : Nat} (h : OneR w wr b n j) (hb : Below wr.heap.size wr w') : OneR w w' b n j := by
  obtain ⟨F, S, h1, h2, h3, h4, h5⟩ := h
  exact ⟨F, S, h1.below hb, fun k hk => ⟨(h2 k hk).1, Nat.lt_of_lt_of_le (h2 k hk).2 hb.size⟩, h3, h4, h5.trans (hb.mono h5.size)⟩
theorem OneR.mono {w wr : World} {b n j j' : Nat} (h : OneR w wr b n j) (hj : j ≤ j') : OneR w wr b n j' := by
  obtain ⟨F, S, h1, h2, h3, h4, h5⟩ := h
  exact ⟨F, S, h1, h2, h3, fun s hs => ⟨Nat.le_trans (h4 s hs).1 hj, (h4 s hs).2⟩, h5⟩
theorem OneR.write {w wr w4 w5 : World} {b n j : Nat} {F : Nat → Prop} {S : List Sec} {d : List Nat} {oi : Int} (r2 : ∀ k, F k → w.heap.size ≤ k ∧ k < wr.heap.size) (r3 : S.length = n) (r4 : ∀ s ∈ S, s.wait.length ≤ j ∧ s.bad = false) (r8 : Below w.heap.size w wr)
    (hb4 : Below wr.heap.size wr w4) (hd5 : Dk w5 (ext F w4 w5) b (wSet S oi d)) (ht5 : Turn F w4 w5) : OneR w w5 b n (j + 1) := by
  have h1 := r8.size
  have h2 := hb4.size
  have h3 := ht5.size
  refine ⟨ext F w4 w5, wSet S oi d, hd5, fun q hq => ?_, by rw [wSet_length]; exact r3, fun s hs => ?_, r8.trans ((hb4.mono h1).trans (ht5.below (by omega) (fun q hq => (r2 q hq).1)))⟩
  · rcases hq with hq | hq
    · have := r2 q hq; omega
    · omega
  · obtain ⟨s0, h0, e1, e2⟩ := wSet_mem hs
    have := r4 s0 h0
    exact ⟨by omega, by rw [e1]; exact this.2⟩
theorem fresh_one {w wr : World} {b n : Nat} {F : Nat → Prop} (hd : Dk wr F b (fresh n)) (hF : ∀ k, F k → w.heap.size ≤ k ∧ k < wr.heap.size) (hb : Below w.heap.size w wr) : OneR w wr b n 0 :=
  ⟨F, fresh n, hd, hF, by simp [fresh], fun s hs => by simp [fresh] at hs; rw [hs.2]; exact ⟨by simp [zeroSec], rfl⟩, hb⟩
end Go.Proofs.YtliboiajhhnajaaGreatDoor
