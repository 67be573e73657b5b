/- Picks handed on: a new slice of the same numbers. Two disks at once. -/
import Derived.Test.YtliboiajhhnajaaOver
namespace Go.Proofs.Ytliboiajhhnajaa
open Go.RowKit Go.Extern

def cellsI (ns : List Int) : List Value := ns.map (Value.int .i64)
theorem infoInt : (Try.prog.info? 3).map (fun i => (i.zero, i.size, i.bytes)) = some (some (.int .i64 0), 1, 8) := by kernel_rfl
theorem ints_of_row {w : World} {v : Value} {ns : List Int} (h : w.ownsRow 0 3 1 v ns.length (cellsI ns)) (hi : ∀ n ∈ ns, I64 n) (hl : ns.length ≤ 140737488355328) : Ints w v ns := by
  rcases h.2 with ⟨rfl, h0⟩ | ⟨g, cap, cur, rfl, -, hh, hc, hm, -⟩
  · rw [List.length_eq_zero_iff.1 h0]
    exact ⟨none, 0, 0, 0, rfl, by simp, by simp, by simp, by simp, by simp, by simp, by simp⟩
  · refine ⟨_, cap, g, 0, rfl, fun _ => rfl, fun i n hn => ?_, hi, hl, by simp, hc, hm⟩
    rw [Nat.zero_add]
    exact row_cell h (by unfold cellsI; rw [List.getElem?_map, hn]; rfl)
theorem append_picks (w : World) (x : Value) (ys : List Int) (hx : Ints w x ys) (hl : ys.length ≤ 1000000) :
    ∃ v' w', (Builtin.append_ #[34, 34] 34 #[.slice (some ⟨w.heap.size, 0, none⟩) 0 0, x]).run Try.prog (w.alloc (.cells #[] 3)) = .ok v' w' ∧ Ints w' v' ys ∧ Below w.heap.size w w' ∧ (∀ k, v'.ownBlock = some k → w.heap.size ≤ k) ∧ ∃ ao n c, v' = .slice ao n c := by
  obtain ⟨i0, hi, hz0, hz1, hz2⟩ := info_parts infoInt
  have hown : (w.alloc (.cells #[] 3)).ownsRow 0 3 1 (.slice (some ⟨w.heap.size, 0, none⟩) 0 0) 0 [] := World.ownsRow_made w #[] 0 (Nat.zero_le _) (by unfold maxLen; decide) rfl
  have hb1 : Below w.heap.size w (w.alloc (.cells #[] 3)) := (Below.refl _ _).alloc (Nat.le_refl _) _
  obtain ⟨ao, cap, g, off, rfl, h2, h3, h4, h5, h6, h7, h8⟩ := hx.below hb1
  cases ao with
  | none =>
    have hy : ys = [] := by
      rcases Nat.eq_zero_or_pos ys.length with h | h
      · exact List.length_eq_zero_iff.1 h
      · cases h2 h
    subst hy
    obtain rfl := h6 rfl
    refine ⟨_, _, run_append_owned_none (P := Try.prog) (w := w.alloc (.cells #[] 3)) 0 34 34 3 i0 1 Try.underlying34 hi _ 0 _ hown, ints_of_row (ns := []) hown (by simp) (by simp), hb1, fun k hk => ?_, _, _, _, rfl⟩
    simp only [Value.ownBlock, Option.some.injEq] at hk
    omega
  | some ad =>
    have hnews : ∀ j u, (cellsI ys)[j]? = some u → (w.alloc (.cells #[] 3)).cell? (ad.add j) = some u := by
      intro j u hu
      unfold cellsI at hu
      rw [List.getElem?_map] at hu
      obtain ⟨n, hn, rfl⟩ := Option.map_eq_some_iff.1 hu
      have hpos : 0 < ys.length := by
        rcases Nat.eq_zero_or_pos ys.length with h | h
        · rw [List.length_eq_zero_iff.1 h] at hn; cases hn
        · exact h
      have e := Option.some.inj (h2 hpos)
      subst e
      rw [Addr.add_mid]; exact h3 j n hn
    obtain ⟨v', w', hr, ho, hg, -, hat⟩ := run_append_own_at (P := Try.prog) (w.alloc (.cells #[] 3)) 0 34 34 3 i0 (.int .i64 0) 1 8 Try.underlying34 hi hz0 hz1 hz2 rfl (by decide) _ 0 [] hown ad ys.length cap (cellsI ys) (by simp [cellsI]) hnews
      (by intro u hu; simp only [cellsI, List.mem_map] at hu; obtain ⟨b, -, rfl⟩ := hu; rfl) (by unfold maxLen; omega) (by omega) (Nat.zero_le _)
    rw [Nat.zero_add, List.nil_append] at ho
    obtain ⟨ao', cap', hf⟩ := ownsRow_form ho
    refine ⟨v', w', hr, ints_of_row ho h4 h5, hb1.grown hg hb1.size (fun k hk => ?_), fun k hk => ?_, ⟨_, _, _, hf⟩⟩
    · simp only [Value.ownBlock, Option.some.injEq] at hk; omega
    · rcases hat with e | e
      · rw [e] at hk; simp only [Value.ownBlock, Option.some.injEq] at hk; omega
      · rw [e] at hk; have := Option.some.inj hk; simp at this; omega
theorem wpList_appendI {w w' : World} {ops : Array Oper} {rest : List Oper} {o : Oper} {a : Act} {Q : Exit → Act → World → Prop} {x y : Operand} {v xv yv : Value} (hgd : o.guard = none) (ho : o.op = .call { callee := .builtin .append, args := #[x, y], argTypes := #[34, 34] })
    (hr : (Builtin.append_ #[34, 34] 34 #[xv, yv]).run Try.prog w = .ok v w') (hty : o.type = 34) (hx : a.eval x = xv) (hy : a.eval y = yv)
    (h : wpList Try.prog ops Q rest (a.put o.dst v) w') : wpList Try.prog ops Q (o :: rest) a w :=
  wpList_exec hgd (exec_append ho (by rw [hty]; exact hr) hx hy) h

/-- What a write may make of a sector. -/
theorem wSet_mem {S : List Sec} {i : Int} {d : List Nat} {s : Sec} (h : s ∈ wSet S i d) : ∃ s0 ∈ S, s.bad = s0.bad ∧ s.wait.length ≤ s0.wait.length + 1 := by
  by_cases hd : d.length = 128
  · obtain ⟨k, hk⟩ := List.getElem?_of_mem h
    obtain ⟨s1, h1, rfl⟩ := wSet_at hd hk
    refine ⟨s1, List.mem_of_getElem? h1, ?_⟩
    split
    · exact ⟨rfl, by simp⟩
    · exact ⟨rfl, by omega⟩
  · rw [wSet_no (fun hx => hd hx.2)] at h
    exact ⟨s, h, rfl, by omega⟩
/-- Nothing waits: a crash changes nothing. -/
theorem crS_flushed (S : List Sec) (ps : List Int) : crS (S.map Sec.flushed) ps = S.map Sec.flushed := by
  have hp : pend (S.map Sec.flushed) = [] := by
    apply List.eq_nil_iff_forall_not_mem.2
    intro i hi
    obtain ⟨s, hs, hw⟩ := mem_pend.1 hi
    rw [List.getElem?_map] at hs
    obtain ⟨s0, -, rfl⟩ := Option.map_eq_some_iff.1 hs
    exact hw rfl
  unfold crS
  rw [hp, crF_nil, List.map_map]
  rfl

/-- Two disks with the same sectors. -/
def TwR (w wr : World) (a b n j : Nat) : Prop :=
  ∃ Fa Fb S, Dk wr Fa a S ∧ Dk wr Fb b S ∧ (∀ k, Fa k → w.heap.size ≤ k ∧ k < wr.heap.size) ∧ (∀ k, Fb k → w.heap.size ≤ k ∧ k < wr.heap.size) ∧ (∀ k, Fa k → ¬ Fb k) ∧ S.length = n ∧ (∀ s ∈ S, s.wait.length ≤ j ∧ s.bad = false) ∧ Below w.heap.size w wr
theorem TwR.below {w wr w' : World} {a b n j : Nat} (h : TwR w wr a b n j) (hb : Below wr.heap.size wr w') : TwR w w' a b n j := by
  obtain ⟨Fa, Fb, S, h1, h2, h3, h4, h5, h6, h7, h8⟩ := h
  exact ⟨Fa, Fb, S, h1.below hb, h2.below hb, fun k hk => ⟨(h3 k hk).1, Nat.lt_of_lt_of_le (h3 k hk).2 hb.size⟩, fun k hk => ⟨(h4 k hk).1, Nat.lt_of_lt_of_le (h4 k hk).2 hb.size⟩, h5, h6, h7, h8.trans (hb.mono h8.size)⟩
theorem TwR.mono {w wr : World} {a b n j j' : Nat} (h : TwR w wr a b n j) (hj : j ≤ j') : TwR w wr a b n j' := by
  obtain ⟨Fa, Fb, S, h1, h2, h3, h4, h5, h6, h7, h8⟩ := h
  exact ⟨Fa, Fb, S, h1, h2, h3, h4, h5, h6, fun s hs => ⟨Nat.le_trans (h7 s hs).1 hj, (h7 s hs).2⟩, h8⟩
/-- One disk behind the other is turned in the same way. -/
theorem TwR.both {w wr w2 w3 w4 w5 : World} {a b n j : Nat} {Fa Fb : Nat → Prop} {S' : List Sec} (h3 : ∀ k, Fa k → w.heap.size ≤ k ∧ k < wr.heap.size) (h4 : ∀ k, Fb k → w.heap.size ≤ k ∧ k < wr.heap.size) (h5 : ∀ k, Fa k → ¬ Fb k) (h8 : Below w.heap.size w wr)
    (hb2 : Below wr.heap.size wr w2) (hd3 : Dk w3 (ext Fa w2 w3) a S') (ht3 : Turn Fa w2 w3) (hb4 : Below w3.heap.size w3 w4) (hd5 : Dk w5 (ext Fb w4 w5) b S') (ht5 : Turn Fb w4 w5) (hn : S'.length = n) (hs : ∀ s ∈ S', s.wait.length ≤ j ∧ s.bad = false) : TwR w w5 a b n j := by
  have z0 := h8.size
  have z1 := hb2.size
  have z2 := ht3.size
  have z3 := hb4.size
  have z4 := ht5.size
  refine ⟨ext Fa w2 w3, ext Fb w4 w5, S', (hd3.below hb4).turn ht5 (fun k hk hx => ?_), hd5, fun k hk => ?_, fun k hk => ?_, fun k hk hx => ?_, hn, hs, ?_⟩
  · rcases hk with hk | hk
    · exact h5 k hk hx
    · have := (h4 k hx).2; omega
  · rcases hk with hk | hk
    · have := h3 k hk; omega
    · omega
  · rcases hk with hk | hk
    · have := h4 k hk; omega
    · omega
  · rcases hk with hk | hk <;> rcases hx with hx | hx
    · exact h5 k hk hx
    · have := (h3 k hk).2; omega
    · have := (h4 k hx).2; omega
    · omega
  · exact h8.trans ((hb2.mono z0).trans ((ht3.below (by omega) (fun k hk => (h3 k hk).1)).trans ((hb4.mono (by omega)).trans (ht5.below (by omega) (fun k hk => (h4 k hk).1)))))
/-- .. the other one meanwhile. -/
theorem TwR.other {wr w2 w3 w4 : World} {b : Nat} {Fa Fb : Nat → Prop} {S : List Sec} (h2 : Dk wr Fb b S) (h5 : ∀ k, Fa k → ¬ Fb k) (hb2 : Below wr.heap.size wr w2) (ht3 : Turn Fa w2 w3) (hb4 : Below w3.heap.size w3 w4) : Dk w4 Fb b S :=
  ((h2.below hb2).turn ht3 (fun k hk hx => h5 k hx hk)).below hb4
end Go.Proofs.Ytliboiajhhnajaa
