/- What changed between two lists, as functions of lists; changes in memory. -/
import Derived.Test.YtjopdejgijojmaaVo0
namespace Go.Proofs.Ytjopdejgijojmaa
open Go.RowKit Go.Extern

/-- An owner, what it named, and what it names. -/
abbrev Chg := Own × (Int × Int)
/-- The owners that name something else. -/
def chO (was l : List Ref) : List Own := ((putL (putL [] was) l).map Prod.fst).filter (fun o => decide (ofS was o ≠ ofS l o))
def chS (was l : List Ref) : List Chg := (chO was l).map (fun o => (o, ofS was o, ofS l o))
theorem putA_pos {l : List Ref} {r : Ref} (h : 0 < r.2) : putA l r = putS l r.1 r.2 := by unfold putA; rw [if_neg (by omega)]
theorem putL_keys (o : Own) : ∀ (rs acc : List Ref), (∀ r ∈ rs, 0 < r.2) → ((∃ r ∈ putL acc rs, r.1 = o) ↔ (∃ r ∈ acc, r.1 = o) ∨ ∃ r ∈ rs, r.1 = o)
  | [], acc, _ => by simp [putL]
  | q :: t, acc, h => by
    have e : putL acc (q :: t) = putL (putS acc q.1 q.2) t := by rw [← putA_pos (h q (by simp))]; rfl
    have hq := h q (by simp)
    rw [e, putL_keys o t _ (fun r hr => h r (by simp [hr]))]
    constructor
    · rintro (⟨r, hr, rfl⟩ | ⟨r, hr, rfl⟩)
      · rcases mem_putS.1 hr with ⟨h1, _⟩ | ⟨h1, _⟩
        · exact Or.inl ⟨r, h1, rfl⟩
        · exact Or.inr ⟨q, by simp, by rw [h1]⟩
      · exact Or.inr ⟨r, by simp [hr], rfl⟩
    · rintro (⟨r, hr, rfl⟩ | ⟨r, hr, rfl⟩)
      · by_cases hn : r.1 = q.1
        · exact Or.inl ⟨(q.1, q.2), mem_putS.2 (Or.inr ⟨rfl, by omega⟩), hn.symm⟩
        · exact Or.inl ⟨r, mem_putS.2 (Or.inl ⟨hr, hn⟩), rfl⟩
      · rcases List.mem_cons.1 hr with rfl | hr
        · exact Or.inl ⟨(r.1, r.2), mem_putS.2 (Or.inr ⟨rfl, by omega⟩), rfl⟩
        · exact Or.inr ⟨r, hr, rfl⟩
theorem Okl.refs {l : List Ref} (h : Okl l) : ∀ r ∈ l, OkR r := fun r hr => ⟨h.own r hr, h.rng r hr⟩
theorem allS_ok {was l : List Ref} (hw : Okl was) (hl : Okl l) : Okl (putL (putL [] was) l) := putL_ok (putL_ok Okl.nil hw.refs) hl.refs
theorem mem_chO {was l : List Ref} (hw : Okl was) (hl : Okl l) {o : Own} : o ∈ chO was l ↔ ofS was o ≠ ofS l o := by
  unfold chO
  rw [List.mem_filter, List.mem_map, putL_keys o l _ hl.pos, putL_keys o was _ hw.pos]
  constructor
  · rintro ⟨_, h⟩; simpa using h
  · intro h
    refine ⟨?_, by simpa using h⟩
    rcases ofS_cases hw.srt o with h1 | ⟨_, h1⟩
    · exact Or.inl (Or.inr ⟨_, h1, rfl⟩)
    · rcases ofS_cases hl.srt o with h2 | ⟨_, h2⟩
      · exact Or.inr ⟨_, h2, rfl⟩
      · rw [h1, h2] at h; exact absurd rfl h
theorem srt_chO {was l : List Ref} (hw : Okl was) (hl : Okl l) : SrtO (chO was l) := List.Pairwise.filter _ (allS_ok hw hl).srt.own
theorem chO_unique {was l : List Ref} (hw : Okl was) (hl : Okl l) {ks : List Own} (h1 : SrtO ks) (h2 : ∀ o, o ∈ ks ↔ ofS was o ≠ ofS l o) : ks = chO was l :=
  h1.ext (srt_chO hw hl) (fun o => by rw [h2, mem_chO hw hl])
theorem chO_length {was l : List Ref} (hw : Okl was) (hl : Okl l) : (chO was l).length ≤ was.length + l.length := by
  have h1 := putL_length (putL_ok Okl.nil hw.refs) hl.refs
  have h2 := putL_length Okl.nil hw.refs
  have h3 : (chO was l).length ≤ (putL (putL [] was) l).length := by
    unfold chO
    refine Nat.le_trans (List.length_filter_le _ _) ?_
    rw [List.length_map]; exact Nat.le_refl _
  simp at h2; omega
theorem chS_length {was l : List Ref} : (chS was l).length = (chO was l).length := by simp [chS]
theorem chO_ok {was l : List Ref} (hw : Okl was) (hl : Okl l) : ∀ o ∈ chO was l, OkO o := fun o ho => by
  obtain ⟨r, hr, rfl⟩ := List.mem_map.1 (List.mem_filter.1 ho).1
  exact (allS_ok hw hl).own r hr
theorem chS_self (l : List Ref) : chS l l = [] := by
  unfold chS chO
  rw [List.filter_eq_nil_iff.2 (fun o _ => by simp)]; rfl
theorem chS_at {was l : List Ref} {j : Nat} {o : Own} (h : (chO was l)[j]? = some o) : (chS was l)[j]? = some (o, ofS was o, ofS l o) := by
  unfold chS; rw [List.getElem?_map, h]; rfl
/-- The list behind so many changes. -/
def chL (was : List Ref) (cs : List Chg) : List Ref := cs.foldl (fun a c => putS a c.1 c.2.2) was
theorem chL_snoc {was : List Ref} {cs : List Chg} {j : Nat} {c : Chg} (h : cs[j]? = some c) : chL was (cs.take (j + 1)) = putS (chL was (cs.take j)) c.1 c.2.2 := by
  unfold chL; rw [take_snoc h, List.foldl_append]; rfl
theorem chL_of {was l : List Ref} (hl : Okl l) : ∀ (os : List Own) (a : List Ref), Okl a → (∀ o ∈ os, OkO o) → Okl (chL a (os.map (fun o => (o, ofS was o, ofS l o)))) ∧ ∀ q, ofS (chL a (os.map (fun o => (o, ofS was o, ofS l o)))) q = if q ∈ os then ofS l q else ofS a q
  | [], a, ha, _ => ⟨ha, fun q => by simp [chL]⟩
  | o :: t, a, ha, h => by
    have hp : Okl (putS a o (ofS l o)) := ha.put (h o (by simp)) (hl.of_nonneg o) (hl.of_rng o)
    obtain ⟨i1, i2⟩ := chL_of (was := was) hl t (putS a o (ofS l o)) hp (fun x hx => h x (by simp [hx]))
    have e : chL a ((o :: t).map (fun o => (o, ofS was o, ofS l o))) = chL (putS a o (ofS l o)) (t.map (fun o => (o, ofS was o, ofS l o))) := rfl
    rw [e]
    refine ⟨i1, fun q => ?_⟩
    rw [i2, ofS_putS ha.srt]
    by_cases hq : q = o
    · subst hq; simp
    · simp [hq]
theorem chS_take {was l : List Ref} (j : Nat) : (chS was l).take j = ((chO was l).take j).map (fun o => (o, ofS was o, ofS l o)) := by unfold chS; rw [List.map_take]
theorem chL_take {was l : List Ref} (hw : Okl was) (hl : Okl l) (j : Nat) : Okl (chL was ((chS was l).take j)) ∧ ∀ q, ofS (chL was ((chS was l).take j)) q = if q ∈ (chO was l).take j then ofS l q else ofS was q := by
  rw [chS_take]
  exact chL_of hl _ _ hw (fun o ho => chO_ok hw hl o (List.mem_of_mem_take ho))
theorem chL_all {was l : List Ref} (hw : Okl was) (hl : Okl l) : chL was (chS was l) = l := by
  have := chL_take hw hl (chS was l).length
  rw [List.take_length] at this
  refine this.1.ext hl (fun o => ?_)
  rw [this.2 o, List.take_of_length_le (by rw [chS_length]; exact Nat.le_refl _)]
  split
  · rfl
  · rename_i hn
    rw [mem_chO hw hl] at hn
    exact Classical.byContradiction hn
theorem chL_from {was l : List Ref} (hw : Okl was) (hl : Okl l) {j : Nat} {o : Own} (h : (chO was l)[j]? = some o) : ofS (chL was ((chS was l).take j)) o = ofS was o := by
  rw [(chL_take hw hl j).2 o, if_neg]
  intro hm
  obtain ⟨hj, rfl⟩ := List.getElem?_eq_some_iff.1 h
  obtain ⟨n, hn, e⟩ := List.mem_iff_getElem.1 hm
  rw [List.getElem_take] at e
  have hn1 : n < j := by simp at hn; omega
  have := List.pairwise_iff_getElem.1 (srt_chO hw hl) n j (by omega) hj hn1
  rw [e, ltO_irrefl] at this; cases this

def chgC (c : Chg) : List Value := [.int .i64 c.1.1, .int .i64 c.1.2, .int .i64 c.2.1, .int .i64 c.2.2]
def chgsC (l : List Chg) : List Value := l.flatMap chgC
def encC (c : Chg) : Value := .agg #[.int .i64 c.1.1, .int .i64 c.1.2, .int .i64 c.2.1, .int .i64 c.2.2]
theorem chgsC_cons (q : Chg) (r : List Chg) : chgsC (q :: r) = (Value.int .i64 q.1.1) :: (Value.int .i64 q.1.2) :: (Value.int .i64 q.2.1) :: (Value.int .i64 q.2.2) :: chgsC r := rfl
theorem chgsC_length (l : List Chg) : (chgsC l).length = l.length * 4 := by
  induction l with
  | nil => rfl
  | cons o r ih => rw [chgsC_cons]; simp only [List.length_cons, ih]; omega
theorem chgsC_append (l m : List Chg) : chgsC (l ++ m) = chgsC l ++ chgsC m := by simp [chgsC]
theorem chgsC_at {l : List Chg} {i : Nat} {o : Chg} (h : l[i]? = some o) : (chgsC l)[i * 4]? = some (.int .i64 o.1.1) ∧ (chgsC l)[i * 4 + 1]? = some (.int .i64 o.1.2) ∧ (chgsC l)[i * 4 + 2]? = some (.int .i64 o.2.1) ∧ (chgsC l)[i * 4 + 3]? = some (.int .i64 o.2.2) := by
  induction l generalizing i with
  | nil => simp at h
  | cons q r ih =>
    rw [chgsC_cons]
    cases i with
    | zero => simp at h; subst h; simp
    | succ i =>
      have := ih (i := i) (by simpa using h)
      have e1 : (i + 1) * 4 = i * 4 + 1 + 1 + 1 + 1 := by omega
      rw [e1]
      simp only [List.getElem?_cons_succ]
      exact this
structure ChgsAt (F : Nat → Prop) (w : World) (ao : Option Addr) (g : Nat) (cs : List Chg) : Prop where
  ad : 0 < cs.length → ao = some ⟨g, 0, none⟩
  out : 0 < cs.length → ¬ F g
  cells : ∀ (i : Nat) (c : Chg), cs[i]? = some c → w.cell? ⟨g, i * 4, none⟩ = some (.int .i64 c.1.1) ∧ w.cell? ⟨g, i * 4 + 1, none⟩ = some (.int .i64 c.1.2) ∧ w.cell? ⟨g, i * 4 + 2, none⟩ = some (.int .i64 c.2.1) ∧ w.cell? ⟨g, i * 4 + 3, none⟩ = some (.int .i64 c.2.2)
theorem ChgsAt.below {F : Nat → Prop} {w w' : World} {ao : Option Addr} {g : Nat} {cs : List Chg} (h : ChgsAt F w ao g cs) (hb : Below w.heap.size w w') : ChgsAt F w' ao g cs :=
  ⟨h.ad, h.out, fun i r hr => by
    obtain ⟨h1, h2, h3, h4⟩ := h.cells i r hr
    have hk := hb.block g (cell_lt h1)
    exact ⟨cell_same hk h1, cell_same hk h2, cell_same hk h3, cell_same hk h4⟩⟩
/-- Changes in new memory, by their place. -/
theorem chgs_at {F : Nat → Prop} {w : World} {base : Nat} {t : TypeId} {v : Value} {l : List Chg} (h : w.ownsRow base t 4 v l.length (chgsC l)) (hF : ∀ k, F k → k < base) : ∃ ao cap g, v = .slice ao l.length cap ∧ ChgsAt F w ao g l := by
  rcases h.2 with ⟨rfl, h0⟩ | ⟨g, cap, cur, rfl, hg, hh, hc, hm, hs, ht⟩
  · exact ⟨none, 0, 0, by rw [h0], by omega, by omega, fun i o ho => by rw [List.length_eq_zero_iff.1 h0] at ho; simp at ho⟩
  · refine ⟨_, cap, g, rfl, fun _ => rfl, fun _ hx => by have := hF g hx; omega, fun i o ho => ?_⟩
    obtain ⟨h1, h2, h3, h4⟩ := chgsC_at ho
    have hc : ∀ j u, (chgsC l)[j]? = some u → w.cell? ⟨g, j, none⟩ = some u := fun j u hu => by
      have := World.ownsRow.cells h (g := g) rfl j u hu
      rw [add_plain, Nat.zero_add] at this; exact this
    exact ⟨hc _ _ h1, hc _ _ h2, hc _ _ h3, hc _ _ h4⟩
theorem infoC : (Try.prog.info? 45).map (fun i => (i.zero, i.size, i.bytes)) = some (some (.agg #[.int .i64 0, .int .i64 0, .int .i64 0, .int .i64 0]), 4, 32) := by kernel_rfl
theorem infoD : (Try.prog.info? 47).map (fun i => (i.zero, i.size, i.bytes)) = some (some (.agg #[.int .i64 0, .int .i64 0, .int .i64 0, .int .i64 0]), 4, 32) := by kernel_rfl
theorem append_chg {t ts : TypeId} (hu : Try.prog.underlying ts = some (.slice t)) (hinfo : (Try.prog.info? t).map (fun i => (i.zero, i.size, i.bytes)) = some (some (.agg #[.int .i64 0, .int .i64 0, .int .i64 0, .int .i64 0]), 4, 32))
    {w : World} {base : Nat} {v : Value} {l : List Chg} (h : w.ownsRow base t 4 v l.length (chgsC l)) {T : TypeId} (c : Chg) (hb : base ≤ w.heap.size) (hl : l.length ≤ 1000000) (ty : TypeId) :
    ∃ v' w', (Builtin.append_ #[ts, ts] ty #[v, .slice (some ⟨w.heap.size, 0, none⟩) 1 1]).run Try.prog (w.alloc (.cells #[.int .i64 c.1.1, .int .i64 c.1.2, .int .i64 c.2.1, .int .i64 c.2.2] T)) = .ok v' w' ∧ w'.ownsRow base t 4 v' (l ++ [c]).length (chgsC (l ++ [c])) ∧ (w.alloc (.cells #[.int .i64 c.1.1, .int .i64 c.1.2, .int .i64 c.2.1, .int .i64 c.2.2] T)).grownBy w' v.ownBlock := by
  obtain ⟨i0, hi, hz0, hz1, hz2⟩ := info_parts hinfo
  rw [chgsC_append, List.length_append]
  obtain ⟨v', w', a1, a2, a3, -, -⟩ := run_append_own_at (P := Try.prog) (w.alloc (.cells #[.int .i64 c.1.1, .int .i64 c.1.2, .int .i64 c.2.1, .int .i64 c.2.2] T)) base ts ty t i0 _ 4 32 hu hi hz0 hz1 hz2 rfl (by omega) v l.length (chgsC l) (h.alloc _) ⟨w.heap.size, 0, none⟩ 1 1 (chgsC [c]) (by rw [chgsC_length]; simp) (fun j u hu => by
    rw [add_plain]
    match j, hu with
    | 0, hu => simp [chgsC, chgC] at hu; subst hu; simp
    | 1, hu => simp [chgsC, chgC] at hu; subst hu; simp
    | 2, hu => simp [chgsC, chgC] at hu; subst hu; simp
    | 3, hu => simp [chgsC, chgC] at hu; subst hu; simp
    | j + 4, hu => simp [chgsC, chgC] at hu) (fun u hu => by
    simp [chgsC, chgC] at hu
    rcases hu with rfl | rfl | rfl | rfl <;> rfl) (by unfold maxLen; omega) (by omega) (by simp; omega)
  exact ⟨v', w', a1, a2, a3⟩
theorem buildC (w : World) (o : Own) (a c : Int) : (Instr.build 45 #[(0, encO o), (1, .int .i64 a), (2, .int .i64 c)]).run Try.prog w = .ok (encC (o, a, c)) w := by kernel_rfl
theorem buildD (w : World) (o : Own) (a c : Int) : (Instr.build 47 #[(0, .int .i64 o.1), (1, .int .i64 o.2), (2, .int .i64 a), (3, .int .i64 c)]).run Try.prog w = .ok (encC (o, a, c)) w := by kernel_rfl
theorem sliceC (w : World) (c : Chg) : (Instr.buildSlice 39 1 #[(0, encC c)]).run Try.prog w = .ok (.slice (some ⟨w.heap.size, 0, none⟩) 1 1) (w.alloc (.cells #[.int .i64 c.1.1, .int .i64 c.1.2, .int .i64 c.2.1, .int .i64 c.2.2] 45)) := by kernel_rfl
theorem sliceD (w : World) (c : Chg) : (Instr.buildSlice 42 1 #[(0, encC c)]).run Try.prog w = .ok (.slice (some ⟨w.heap.size, 0, none⟩) 1 1) (w.alloc (.cells #[.int .i64 c.1.1, .int .i64 c.1.2, .int .i64 c.2.1, .int .i64 c.2.2] 47)) := by kernel_rfl
theorem exec_build3 {ρ : Operand → Value} {oo : Oper} {w : World} {t : TypeId} {i j k : Nat} {x y z : Operand} {v xv yv zv : Value} (ho : oo.op = .build t #[(i, x), (j, y), (k, z)]) (hr : (Instr.build t #[(i, xv), (j, yv), (k, zv)]).run Try.prog w = .ok v w) (hx : ρ x = xv) (hy : ρ y = yv) (hz : ρ z = zv) : (execOp ρ oo).run Try.prog w = .ok (.value v) w := by
  unfold execOp; simp [ho, hr, hx, hy, hz]
theorem exec_build4 {ρ : Operand → Value} {oo : Oper} {w : World} {t : TypeId} {i j k m : Nat} {x y z u : Operand} {v xv yv zv uv : Value} (ho : oo.op = .build t #[(i, x), (j, y), (k, z), (m, u)]) (hr : (Instr.build t #[(i, xv), (j, yv), (k, zv), (m, uv)]).run Try.prog w = .ok v w) (hx : ρ x = xv) (hy : ρ y = yv) (hz : ρ z = zv) (hu : ρ u = uv) : (execOp ρ oo).run Try.prog w = .ok (.value v) w := by
  unfold execOp; simp [ho, hr, hx, hy, hz, hu]
theorem RefsAt.free {F : Nat → Prop} {w : World} {ao : Option Addr} {g off : Nat} {l : List Ref} (h : RefsAt F w ao g off l) : RefsAt (fun _ => False) w ao g off l := ⟨h.ad, fun _ h => h, h.cells⟩
theorem ofS_first {l : List Ref} {o : Own} {y : Ref} : ∀ {j : Nat}, l[j]? = some y → (∀ q ∈ l.take j, q.1 ≠ o) → y.1 = o → ofS l o = y.2 := by
  induction l with
  | nil => intro j h; simp at h
  | cons a t ih =>
    intro j h hn he
    cases j with
    | zero =>
      simp at h; subst h
      simp [ofS, he]
    | succ j =>
      have ha : a.1 ≠ o := hn a (by simp)
      have := ih (j := j) (by simpa using h) (fun q hq => hn q (by simp [hq])) he
      rw [← this]
      simp [ofS, ha]
end Go.Proofs.Ytjopdejgijojmaa
