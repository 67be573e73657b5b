/- BankNumbers: what the bank and the law's own list have. -/
import Derived.Test.YtliboiajhhnajaaDoorTold2
import Derived.Test.YtliboiajhhnajaaDoorBRead
import Derived.Test.YtliboiajhhnajaaDoorBSizes
import Derived.Test.YtliboiajhhnajaaDoorInts0
namespace Go.Proofs.YtliboiajhhnajaaDoor
open Go.RowKit Go.Extern

def szs (D : List Dev) : List Int := D.map sizeOf
theorem szs_length (D : List Dev) : (szs D).length = D.length := by simp [szs]
/-- A number more behind numbers: what turns. -/
theorem append_intF {B : Nat} {w : World} {v : Value} {ns : List Int} (h : w.ownsRow B 3 1 v ns.length (ns.map (Value.int .i64))) (hB : B ≤ w.heap.size) (n : Int) (hl : ns.length < 1000000) :
    ∃ v' w', (Builtin.append_ #[22, 22] 22 #[v, .slice (some ⟨w.heap.size, 0, none⟩) 1 1]).run Tryd.prog (w.alloc (.cells #[.int .i64 n] 3)) = .ok v' w' ∧ w'.ownsRow B 3 1 v' (ns ++ [n]).length ((ns ++ [n]).map (Value.int .i64)) ∧ Turn (fun k => v.ownBlock = some k) w w' ∧ (∀ k, v'.ownBlock = some k → v.ownBlock = some k ∨ w.heap.size ≤ k) ∧ ∃ ao n c, v' = .slice ao n c := by
  obtain ⟨i0, hi, hz0, hz1, hz2⟩ := info_parts infoI
  have hb1 : Below w.heap.size w (w.alloc (.cells #[.int .i64 n] 3)) := (Below.refl _ _).alloc (Nat.le_refl _) _
  have h1 : (w.alloc (.cells #[.int .i64 n] 3)).ownsRow B 3 1 v ns.length (ns.map (Value.int .i64)) := ownsRow_of_block h (fun k o _ ho => by rw [hb1.block k (heap_lt ho)]; exact ho)
  obtain ⟨v', w', hr, ho, hg, -, hat⟩ := run_append_own_at (P := Tryd.prog) (w.alloc (.cells #[.int .i64 n] 3)) B 22 22 3 i0 (.int .i64 0) 1 8 Tryd.underlying22 hi hz0 hz1 hz2 rfl (by decide) v ns.length (ns.map (Value.int .i64)) h1 ⟨w.heap.size, 0, none⟩ 1 1 [.int .i64 n] (by simp)
    (fun j u hj => by
      match j, hj with
      | 0, hj =>
        obtain rfl : Value.int .i64 n = u := by simpa using hj
        rw [Addr.add_mid, cell_of_row _ _ _ _ _ _ (heap_alloc_new w _)]; rfl) (by simp [Value.oneCell']) (by unfold maxLen; omega) (by omega) (by simp; omega)
  obtain ⟨ao', cap', hf⟩ := ownsRow_form ho
  refine ⟨v', w', hr, by rw [List.length_append, List.map_append]; exact ho, (Turn.of_below hb1).trans (Turn.of_grown hg (fun k hk => hk)) (fun _ _ h => h), fun k hk => ?_, ⟨_, _, _, hf⟩⟩
  rcases hat with e | e
  · exact .inl (by rw [← e]; exact hk)
  · rw [e] at hk
    cases hk
    exact .inr (by simp)
theorem wpList_appendI {w w' : World} {ops : Array Oper} {rest : List Oper} {o : Oper} {a : Act} {Q : Exit → Act → World → Prop} {x y : Operand} {v xv yv : Value} (hgd : o.guard = none) (ho : o.op = .call { callee := .builtin .append, args := #[x, y], argTypes := #[22, 22] })
    (hr : (Builtin.append_ #[22, 22] 22 #[xv, yv]).run Tryd.prog w = .ok v w') (hty : o.type = 22) (hx : a.eval x = xv) (hy : a.eval y = yv)
    (h : wpList Tryd.prog ops Q rest (a.put o.dst v) w') : wpList Tryd.prog ops Q (o :: rest) a w :=
  wpList_exec hgd (exec_append ho (by rw [hty]; exact hr) hx hy) h

/-- A bank in memory that is newer than the world 'w0'. -/
structure NumAt (w0 w : World) (F : Nat → Prop) (b : Nat) (D : List Dev) (v : Value) : Prop where
  k : Bk w F b D pw0
  f : ∀ k, F k → w0.heap.size ≤ k ∧ k < w.heap.size
  bel : Below w0.heap.size w0 w
  row : w.ownsRow w0.heap.size 3 1 v (szs D).length ((szs D).map (Value.int .i64))
  out : ∀ k, v.ownBlock = some k → ¬ F k
  pos : ∀ (i p : Nat) (S : List Sec), D[i]? = some (some (p, S)) → 1 ≤ S.length ∧ S.length ≤ 4096
section
variable {w0 w w1 w2 : World} {F : Nat → Prop} {b : Nat} {D D' : List Dev} {v v' : Value}
theorem NumAt.below (h : NumAt w0 w F b D v) (hb : Below w.heap.size w w1) : NumAt w0 w1 F b D v :=
  ⟨h.k.below hb, fun k hk => ⟨(h.f k hk).1, Nat.lt_of_lt_of_le (h.f k hk).2 hb.size⟩, h.bel.trans (hb.mono h.bel.size), ownsRow_of_block h.row (fun k o _ ho => by rw [hb.block k (heap_lt ho)]; exact ho), h.out, h.pos⟩
/-- A call of the bank that leaves its devices. -/
theorem NumAt.same (h : NumAt w0 w F b D v) (hk : Bk w1 (ext F w w1) b D pw0) (ht : Turn F w w1) : NumAt w0 w1 (ext F w w1) b D v :=
  ⟨hk, fun k hk => by
    have h1 := h.bel.size
    have h2 := ht.size
    rcases hk with hk | hk
    · have := h.f k hk; omega
    · omega, h.bel.trans (ht.below h.bel.size (fun k hk => (h.f k hk).1)), ownsRow_of_block h.row (fun k o hv ho => by rw [ht.block k (heap_lt ho) (h.out k hv)]; exact ho), fun k hv hx => by
    rcases hx with x | x
    · exact h.out k hv x
    · have := (h.row.lt k hv).2; omega, h.pos⟩
/-- A device more, and its number behind the list. -/
theorem NumAt.add (h : NumAt w0 w F b D v) {p n : Nat} (hn : 1 ≤ n ∧ n ≤ 4096) (hk : Bk w1 (ext F w w1) b (D ++ [some (p, fresh n)]) pw0) (ht : Turn F w w1)
    (ht2 : Turn (fun k => v.ownBlock = some k) w1 w2) (hr : w2.ownsRow w0.heap.size 3 1 v' (szs D ++ [(n : Int)]).length ((szs D ++ [(n : Int)]).map (Value.int .i64))) (hv : ∀ k, v'.ownBlock = some k → v.ownBlock = some k ∨ w1.heap.size ≤ k) : NumAt w0 w2 (ext F w w1) b (D ++ [some (p, fresh n)]) v' := by
  have hx : ∀ k, v.ownBlock = some k → ¬ ext F w w1 k := fun k hv hx => by
    rcases hx with x | x
    · exact h.out k hv x
    · have := (h.row.lt k hv).2; omega
  have h1 := h.bel.size
  have h2 := ht.size
  have h3 := ht2.size
  have hb1 := h.bel.trans (ht.below h.bel.size (fun k hk => (h.f k hk).1))
  refine ⟨hk.turn ht2 (fun k hf hv => hx k hv hf), fun k hk => ?_, hb1.trans (ht2.below hb1.size (fun k hv => (h.row.lt k hv).1)), ?_, fun k hv' hf => ?_, fun i p' S hi => ?_⟩
  · rcases hk with hk | hk
    · have := h.f k hk; omega
    · omega
  · have e : szs (D ++ [some (p, fresh n)]) = szs D ++ [(n : Int)] := by simp [szs, sizeOf, fresh]
    rw [e]; exact hr
  · rcases hv k hv' with x | x
    · exact hx k x hf
    · rcases hf with y | y
      · have := (h.f k y).2; omega
      · omega
  · by_cases hl : i < D.length
    · rw [List.getElem?_append_left hl] at hi; exact h.pos i p' S hi
    · rw [List.getElem?_append_right (by omega)] at hi
      cases hk : i - D.length with
      | zero =>
        rw [hk] at hi
        simp only [List.getElem?_cons_zero, Option.some.injEq, Prod.mk.injEq] at hi
        obtain ⟨rfl, rfl⟩ := hi
        simpa [fresh] using hn
      | succ m => rw [hk] at hi; simp at hi
/-- A device less, and a nought in the list. -/
theorem NumAt.gone {g n cap : Nat} (h : NumAt w0 w F b D (.slice (some ⟨g, 0, none⟩) n cap)) (i : Nat) (hk : Bk w1 (ext F w w1) b (D.set i none) pw0) (ht : Turn F w w1) : NumAt w0 (w1.setCell ⟨g, i, none⟩ (.int .i64 0)) (ext F w w1) b (D.set i none) (.slice (some ⟨g, 0, none⟩) n cap) := by
  have hn : n = (szs D).length := by obtain ⟨ao, c, e⟩ := ownsRow_form h.row; cases e; rfl
  have hx : ¬ ext F w w1 g := fun hx => by
    rcases hx with x | x
    · exact h.out g rfl x
    · have := (h.row.lt g rfl).2; omega
  have h1 := h.bel.size
  have h2 := ht.size
  have hb1 := h.bel.trans (ht.below h.bel.size (fun k hk => (h.f k hk).1))
  have hr1 : w1.ownsRow w0.heap.size 3 1 (.slice (some ⟨g, 0, none⟩) n cap) (szs D).length ((szs D).map (Value.int .i64)) := ownsRow_of_block h.row (fun k o hv ho => by rw [ht.block k (heap_lt ho) (h.out k hv)]; exact ho)
  refine ⟨hk.turn (set_turn (F := fun k => k = g) w1 ⟨g, i, none⟩ _ rfl) (fun k hf e => hx (by rw [← e]; exact hf)), fun k hk => ?_, below_set hb1 (h.row.lt g rfl).1 _, ?_, fun k hv hf => ?_, fun j p S hj => ?_⟩
  · rw [set_size]
    rcases hk with hk | hk
    · have := h.f k hk; omega
    · omega
  · have e : szs (D.set i none) = (szs D).set i 0 := by simp [szs, List.map_set, sizeOf]
    subst hn
    rw [e, List.map_set, List.length_set]
    exact ownsRow_set' hr1 i _
  · simp only [Value.ownBlock, Option.some.injEq] at hv
    rw [← hv] at hf
    exact hx hf
  · by_cases e : i = j
    · subst e
      by_cases hl : i < D.length
      · rw [List.getElem?_set_self hl] at hj; cases hj
      · rw [List.getElem?_eq_none (by simpa using hl)] at hj; cases hj
    · rw [List.getElem?_set_ne e] at hj; exact h.pos j p S hj
theorem NumAt.start (h : Bk w1 (fun k => w.heap.size ≤ k ∧ k < w1.heap.size) b [] pw0) (hb : Below w.heap.size w w1) : NumAt w w1 (fun k => w.heap.size ≤ k ∧ k < w1.heap.size) b [] (.slice none 0 0) :=
  ⟨h, fun _ hk => hk, hb, World.ownsRow_nil _ _ _ _, fun k hk => by simp [Value.ownBlock] at hk, fun i p S hi => by simp at hi⟩
end
def Nu (w0 w : World) (b : Nat) (v : Value) : Prop := ∃ F D, NumAt w0 w F b D v
theorem Nu.below {w0 w w1 : World} {b : Nat} {v : Value} (h : Nu w0 w b v) (hb : Below w.heap.size w w1) : Nu w0 w1 b v := by
  obtain ⟨F, D, h⟩ := h; exact ⟨F, D, h.below hb⟩
theorem Nu.bel {w0 w : World} {b : Nat} {v : Value} (h : Nu w0 w b v) : Below w0.heap.size w0 w := by obtain ⟨F, D, h⟩ := h; exact h.bel
theorem Laid.of {w w' : World} (h : Laid w) (hb : Below w.heap.size w w') : Laid w' := h.below hb
end Go.Proofs.YtliboiajhhnajaaDoor
