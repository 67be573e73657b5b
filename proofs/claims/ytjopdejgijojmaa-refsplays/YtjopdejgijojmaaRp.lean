/- The document's own list: Less, One, Put. -/
import Derived.Test.YtjopdejgijojmaaOn0
namespace Go.Proofs.Ytjopdejgijojmaa
open Go.RowKit Go.Extern

def encR (r : Ref) : Value := .agg #[.int .i64 r.1.1, .int .i64 r.1.2, .int .i64 r.2]
def refC (r : Ref) : List Value := [.int .i64 r.1.1, .int .i64 r.1.2, .int .i64 r.2]
def refsC (l : List Ref) : List Value := l.flatMap refC
theorem refsC_cons (q : Ref) (r : List Ref) : refsC (q :: r) = (Value.int .i64 q.1.1) :: (Value.int .i64 q.1.2) :: (Value.int .i64 q.2) :: refsC r := rfl
theorem refsC_length (l : List Ref) : (refsC l).length = l.length * 3 := by
  induction l with
  | nil => rfl
  | cons o r ih => rw [refsC_cons]; simp only [List.length_cons, ih]; omega
theorem refsC_append (l m : List Ref) : refsC (l ++ m) = refsC l ++ refsC m := by simp [refsC]
theorem refsC_at {l : List Ref} {i : Nat} {o : Ref} (h : l[i]? = some o) : (refsC l)[i * 3]? = some (.int .i64 o.1.1) ∧ (refsC l)[i * 3 + 1]? = some (.int .i64 o.1.2) ∧ (refsC l)[i * 3 + 2]? = some (.int .i64 o.2) := by
  induction l generalizing i with
  | nil => simp at h
  | cons q r ih =>
    rw [refsC_cons]
    cases i with
    | zero => simp at h; subst h; simp
    | succ i =>
      have := ih (i := i) (by simpa using h)
      have e1 : (i + 1) * 3 = i * 3 + 1 + 1 + 1 := by omega
      rw [e1]
      simp only [List.getElem?_cons_succ]
      exact this
theorem refs_at {F : Nat → Prop} {w : World} {base : Nat} {v : Value} {l : List Ref} (h : w.ownsRow base 28 3 v l.length (refsC l)) (hF : ∀ k, F k → k < base) : ∃ ao cap g, v = .slice ao l.length cap ∧ RefsAt F w ao g 0 l := by
  rcases h.2 with ⟨rfl, h0⟩ | ⟨g, cap, cur, rfl, hg, hh, hc, hm, hs, ht⟩
  · exact ⟨none, 0, 0, by rw [h0], by omega, by omega, fun i o ho => by rw [List.length_eq_zero_iff.1 h0] at ho; simp at ho⟩
  · refine ⟨_, cap, g, rfl, fun _ => rfl, fun _ hx => by have := hF g hx; omega, fun i o ho => ?_⟩
    obtain ⟨h1, h2, h3⟩ := refsC_at ho
    have hc : ∀ j u, (refsC l)[j]? = some u → w.cell? ⟨g, 0 + j, none⟩ = some u := fun j u hu => by
      have := World.ownsRow.cells h (g := g) rfl j u hu
      rw [add_plain] at this; exact this
    exact ⟨hc _ _ h1, hc _ _ h2, hc _ _ h3⟩
theorem infoR : (Try.prog.info? 28).map (fun i => (i.zero, i.size, i.bytes)) = some (some (.agg #[.int .i64 0, .int .i64 0, .int .i64 0]), 3, 24) := by kernel_rfl
theorem append_ref {w : World} {base : Nat} {v : Value} {l : List Ref} (h : w.ownsRow base 28 3 v l.length (refsC l)) {x : Nat} {r : Ref} (h1 : w.cell? ⟨x, 0, none⟩ = some (.int .i64 r.1.1)) (h2 : w.cell? ⟨x, 1, none⟩ = some (.int .i64 r.1.2)) (h3 : w.cell? ⟨x, 2, none⟩ = some (.int .i64 r.2)) (hb : base ≤ w.heap.size) (hl : l.length ≤ 1000000) (ty : TypeId) :
    ∃ v' w', (Builtin.append_ #[26, 26] ty #[v, .slice (some ⟨x, 0, none⟩) 1 1]).run Try.prog w = .ok v' w' ∧ w'.ownsRow base 28 3 v' (l.length + 1) (refsC (l ++ [r])) ∧ w.grownBy w' v.ownBlock := by
  obtain ⟨i0, hi, hz0, hz1, hz2⟩ := info_parts infoR
  rw [refsC_append]
  obtain ⟨v', w', a1, a2, a3, -, -⟩ := run_append_own_at (P := Try.prog) w base 26 ty 28 i0 _ 3 24 Try.underlying26 hi hz0 hz1 hz2 rfl (by omega) v l.length (refsC l) h ⟨x, 0, none⟩ 1 1 (refsC [r]) (by rw [refsC_length]; simp) (fun j u hu => by
    rw [add_plain]
    match j, hu with
    | 0, hu => simp [refsC, refC] at hu; subst hu; exact h1
    | 1, hu => simp [refsC, refC] at hu; subst hu; exact h2
    | 2, hu => simp [refsC, refC] at hu; subst hu; exact h3
    | j + 3, hu => simp [refsC, refC] at hu) (fun u hu => by
    simp [refsC, refC] at hu
    rcases hu with rfl | rfl | rfl <;> rfl) (by unfold maxLen; omega) (by omega) hb
  exact ⟨v', w', a1, a2, a3⟩
theorem ownsRow_len {w : World} {base : Nat} {v : Value} {l : List Ref} {r : Ref} {xs : List Value} (h : w.ownsRow base 28 3 v (l.length + 1) xs) : w.ownsRow base 28 3 v (l ++ [r]).length xs := by
  rw [List.length_append]; exact h
/-- A block that holds a pair. -/
def BoxR (w : World) (x : Nat) (r : Ref) : Prop := w.cell? ⟨x, 0, none⟩ = some (.int .i64 r.1.1) ∧ w.cell? ⟨x, 1, none⟩ = some (.int .i64 r.1.2) ∧ w.cell? ⟨x, 2, none⟩ = some (.int .i64 r.2)
theorem boxR_new (w : World) (r : Ref) (T : TypeId) : BoxR (w.alloc (.cells #[.int .i64 r.1.1, .int .i64 r.1.2, .int .i64 r.2] T)) w.heap.size r := ⟨by simp, by simp, by simp⟩
theorem BoxR.below {w w' : World} {x : Nat} {r : Ref} (h : BoxR w x r) (hb : Below w.heap.size w w') : BoxR w' x r := by
  have hk := hb.block x (cell_lt h.1)
  exact ⟨cell_same hk h.1, cell_same hk h.2.1, cell_same hk h.2.2⟩
theorem BoxR.load {w : World} {x : Nat} {r : Ref} (h : BoxR w x r) : (Instr.loadAt 28 (.pointer (some ⟨x, 0, none⟩))).run Try.prog w = .ok (encR r) w := by
  obtain ⟨h1, h2, h3⟩ := h
  unfold encR; go_simp
theorem load_refAt {w : World} {g i : Nat} {r : Ref} (h : w.cell? ⟨g, i, none⟩ = some (.int .i64 r.1.1) ∧ w.cell? ⟨g, i + 1, none⟩ = some (.int .i64 r.1.2) ∧ w.cell? ⟨g, i + 2, none⟩ = some (.int .i64 r.2)) : (Instr.loadAt 28 (.pointer (some ⟨g, i, none⟩))).run Try.prog w = .ok (encR r) w := by
  obtain ⟨h1, h2, h3⟩ := h
  unfold encR; go_simp
theorem index_refs {w : World} {g off n cap i : Nat} (h : i < n) : (Instr.indexAt 26 (.slice (some ⟨g, off, none⟩) n cap) (.int .i64 (i : Int))).run Try.prog w = .ok (.pointer (some ⟨g, off + i * 3, none⟩)) w := by
  have hlt : (i : Int) < (n : Int) := by omega
  have hge : (0 : Int) ≤ (i : Int) := by omega
  go_simp
theorem below_next {w w1 w2 : World} (h : Below w.heap.size w w1) (k : Below w1.heap.size w1 w2) : Below w.heap.size w w2 := h.trans (k.mono h.size)
theorem Below.later {w w1 w2 : World} (h : Below w.heap.size w w1) (k : Below w1.heap.size w1 w2) : Below w.heap.size w w2 := below_next h k
theorem enterLess (args : Array Value) (w : World) : (callFunc 29 args).run Try.prog w = .ok (.enter 29 args) w := by kernel_rfl
theorem enterOne (args : Array Value) (w : World) : (callFunc 30 args).run Try.prog w = .ok (.enter 30 args) w := by kernel_rfl

set_option maxRecDepth 100000 in
set_option maxHeartbeats 1000000 in
theorem less_any (a c : Ref) (w : World) : Calls Try.prog 29 #[encR a, encR c] w fun e w' => e = .returned (.bool (ltO a.1 c.1)) ∧ Below w.heap.size w w' := by
  have hbb : Below w.heap.size w ((w.alloc (.cells #[.int .i64 a.1.1, .int .i64 a.1.2, .int .i64 a.2] 28)).alloc (.cells #[.int .i64 c.1.1, .int .i64 c.1.2, .int .i64 c.2] 28)) := below_next (below_box _ _) (below_box _ _)
  have HBB := hide hbb
  clear hbb
  have ea : encR a = .agg #[.int .i64 a.1.1, .int .i64 a.1.2, .int .i64 a.2] := rfl
  have ec : encR c = .agg #[.int .i64 c.1.1, .int .i64 c.1.2, .int .i64 c.2] := rfl
  rw [ea, ec]
  by_cases h1 : a.1.1 < c.1.1
  · have e : ltO a.1 c.1 = true := ltO_iff.2 (Or.inl h1)
    rw [e]
    go_enter Try.func29, Try.ntmps29
    go_wp2
    go_ret
    exact ⟨rfl, HBB.out⟩
  · by_cases h2 : a.1.1 = c.1.1
    · have h2b : (a.1.1 == c.1.1) = true := by simpa using h2
      by_cases h3 : a.1.2 < c.1.2
      · have e : ltO a.1 c.1 = true := ltO_iff.2 (Or.inr ⟨h2, h3⟩)
        rw [e]
        clear h2
        go_enter Try.func29, Try.ntmps29
        go_wp2
        go_ret
        exact ⟨by simp, HBB.out⟩
      · have e : ltO a.1 c.1 = false := by
          cases h : ltO a.1 c.1 with
          | false => rfl
          | true => rw [ltO_iff] at h; omega
        rw [e]
        clear h2
        go_enter Try.func29, Try.ntmps29
        go_wp2
        go_ret
        exact ⟨by simp, HBB.out⟩
    · have h2b : (a.1.1 == c.1.1) = false := by simpa using h2
      have e : ltO a.1 c.1 = false := by
        cases h : ltO a.1 c.1 with
        | false => rfl
        | true => rw [ltO_iff] at h; omega
      rw [e]
      go_enter Try.func29, Try.ntmps29
      go_wp2
      go_ret
      exact ⟨by simp, HBB.out⟩
set_option maxRecDepth 100000 in
set_option maxHeartbeats 1000000 in
theorem one_any (a c : Ref) (w : World) : Calls Try.prog 30 #[encR a, encR c] w fun e w' => e = .returned (.bool (decide (a.1 = c.1))) ∧ Below w.heap.size w w' := by
  have hbb : Below w.heap.size w ((w.alloc (.cells #[.int .i64 a.1.1, .int .i64 a.1.2, .int .i64 a.2] 28)).alloc (.cells #[.int .i64 c.1.1, .int .i64 c.1.2, .int .i64 c.2] 28)) := below_next (below_box _ _) (below_box _ _)
  have HBB := hide hbb
  clear hbb
  have ea : encR a = .agg #[.int .i64 a.1.1, .int .i64 a.1.2, .int .i64 a.2] := rfl
  have ec : encR c = .agg #[.int .i64 c.1.1, .int .i64 c.1.2, .int .i64 c.2] := rfl
  rw [ea, ec]
  by_cases h2 : a.1.1 = c.1.1
  · have h2b : (a.1.1 == c.1.1) = true := by simpa using h2
    by_cases h3 : a.1.2 = c.1.2
    · have h3b : (a.1.2 == c.1.2) = true := by simpa using h3
      have e : decide (a.1 = c.1) = true := by simpa using own_ext h2 h3
      rw [e]
      clear h2 h3
      go_enter Try.func30, Try.ntmps30
      go_wp2
      go_ret
      exact ⟨by simp, HBB.out⟩
    · have h3b : (a.1.2 == c.1.2) = false := by simpa using h3
      have e : decide (a.1 = c.1) = false := by simpa using (fun h : a.1 = c.1 => h3 (by rw [h]))
      rw [e]
      clear h2 h3
      go_enter Try.func30, Try.ntmps30
      go_wp2
      go_ret
      exact ⟨by simp, HBB.out⟩
  · have h2b : (a.1.1 == c.1.1) = false := by simpa using h2
    have e : decide (a.1 = c.1) = false := by simpa using (fun h : a.1 = c.1 => h2 (by rw [h]))
    rw [e]
    clear h2
    go_enter Try.func30, Try.ntmps30
    go_wp2
    go_ret
    exact ⟨by simp, HBB.out⟩

/-- One step of the document's Put. -/
def stepP (r : Ref) (s : List Ref × Bool) (y : Ref) : List Ref × Bool :=
  let s1 := if s.2 = false ∧ ltO r.1 y.1 = true then (s.1 ++ [r], true) else s
  (if y.1 = r.1 then s1.1 else s1.1 ++ [y], s1.2)
def endP (r : Ref) (s : List Ref × Bool) : List Ref := if s.2 then s.1 else s.1 ++ [r]
theorem stepP_true (r : Ref) : ∀ (l : List Ref) (out : List Ref), l.foldl (stepP r) (out, true) = (out ++ l.filter (fun y => decide (y.1 ≠ r.1)), true)
  | [], out => by simp
  | y :: t, out => by
    rw [List.foldl_cons]
    have e : stepP r (out, true) y = (if y.1 = r.1 then out else out ++ [y], true) := by simp [stepP]
    rw [e]
    by_cases h : y.1 = r.1
    · rw [if_pos h, stepP_true r t]; simp [h]
    · rw [if_neg h, stepP_true r t]; simp [h]
theorem stepP_false (r : Ref) : ∀ (l : List Ref) (out : List Ref), Srt l → endP r (l.foldl (stepP r) (out, false)) = out ++ (l.filter (fun y => ltO y.1 r.1) ++ ([r] ++ l.filter (fun y => ltO r.1 y.1)))
  | [], out, _ => by simp [endP]
  | y :: t, out, h => by
    obtain ⟨h1, h2⟩ := List.pairwise_cons.1 h
    rw [List.foldl_cons]
    by_cases hl : ltO r.1 y.1 = true
    · have hne : y.1 ≠ r.1 := (ltO_ne hl).symm
      have e : stepP r (out, false) y = (out ++ [r] ++ [y], true) := by simp [stepP, hl, hne]
      rw [e, stepP_true]
      have hall : ∀ z ∈ t, ltO r.1 z.1 = true := fun z hz => ltO_trans hl (h1 z hz)
      have f1 : t.filter (fun z => decide (z.1 ≠ r.1)) = t := List.filter_eq_self.2 (fun z hz => by simpa using (ltO_ne (hall z hz)).symm)
      have f2 : t.filter (fun z => ltO z.1 r.1) = [] := List.filter_eq_nil_iff.2 (fun z hz => by rw [ltO_asym (hall z hz)]; simp)
      have f3 : t.filter (fun z => ltO r.1 z.1) = t := List.filter_eq_self.2 (fun z hz => hall z hz)
      rw [List.filter_cons_of_neg (by rw [ltO_asym hl]; simp), List.filter_cons_of_pos (by exact hl), f1, f2, f3]
      simp [endP]
    · have hl' : ltO r.1 y.1 = false := by simpa using hl
      by_cases hy : y.1 = r.1
      · have e : stepP r (out, false) y = (out, false) := by simp [stepP, hy, ltO_irrefl]
        rw [e, stepP_false r t out h2]
        rw [List.filter_cons_of_neg (by rw [hy, ltO_irrefl]; simp), List.filter_cons_of_neg (by rw [hl']; simp)]
      · have e : stepP r (out, false) y = (out ++ [y], false) := by simp [stepP, hl', hy]
        have hlt : ltO y.1 r.1 = true := ltO_false hl' (Ne.symm hy)
        rw [e, stepP_false r t _ h2]
        rw [List.filter_cons_of_pos (by exact hlt), List.filter_cons_of_neg (by rw [hl']; simp)]
        simp
theorem refPut_eq {l : List Ref} (h : Srt l) (r : Ref) : endP r (l.foldl (stepP r) ([], decide (r.2 = 0))) = putS l r.1 r.2 := by
  by_cases h0 : r.2 = 0
  · rw [h0, decide_eq_true rfl, stepP_true]
    simp only [endP, if_true, List.nil_append]
    refine Srt.ext (List.Pairwise.filter _ h) (srt_putS h _ _) (fun q => ?_)
    rw [mem_putS, List.mem_filter]; simp
  · rw [decide_eq_false h0, stepP_false r l [] h]
    unfold putS
    rw [if_neg h0]; simp
theorem stepP_length (r : Ref) (s : List Ref × Bool) (y : Ref) : (stepP r s y).1.length ≤ s.1.length + 2 := by
  unfold stepP
  simp only
  split <;> split <;> simp
theorem foldP_snoc {l : List Ref} {j : Nat} {y : Ref} {r : Ref} {s : List Ref × Bool} (h : l[j]? = some y) : (l.take (j + 1)).foldl (stepP r) s = stepP r ((l.take j).foldl (stepP r) s) y := by
  rw [take_snoc h, List.foldl_append]; rfl
theorem foldP_length (r : Ref) : ∀ (l : List Ref) (s : List Ref × Bool), (l.foldl (stepP r) s).1.length ≤ s.1.length + 2 * l.length
  | [], s => by simp
  | y :: t, s => by
    have h1 := foldP_length r t (stepP r s y)
    have h2 := stepP_length r s y
    rw [List.foldl_cons]; simp; omega

/-- What Put of the document leaves. -/
def RPutd (w : World) (l : List Ref) (e : Ending) (w' : World) : Prop := ∃ v, e = .returned v ∧ w'.ownsRow w.heap.size 28 3 v l.length (refsC l) ∧ Below w.heap.size w w'
set_option maxRecDepth 100000 in
set_option maxHeartbeats 4000000 in
theorem rput_any {F : Nat → Prop} {w : World} {ao : Option Addr} {g off : Nat} {l : List Ref} (hR : RefsAt F w ao g off l) (hs : Srt l) (hl : l.length ≤ 100000) (cap : Nat) (r : Ref) :
    Calls Try.prog 12 #[.slice ao l.length cap, encR r] w (RPutd w (putS l r.1 r.2)) := by
  have HRA := hide hR
  have HE := hide (refPut_eq hs r)
  obtain ⟨nl, hnl⟩ : ∃ nl, l.length = nl := ⟨_, rfl⟩
  rw [hnl]
  have ea : encR r = .agg #[.int .i64 r.1.1, .int .i64 r.1.2, .int .i64 r.2] := rfl
  rw [ea]
  obtain ⟨x, hx⟩ : ∃ x, w.heap.size = x := ⟨_, rfl⟩
  obtain ⟨w1, hw1⟩ : ∃ w1, w.alloc (.cells #[.int .i64 r.1.1, .int .i64 r.1.2, .int .i64 r.2] 28) = w1 := ⟨_, rfl⟩
  have HX0 : Hid (BoxR w1 x r) := hide (by rw [← hw1, ← hx]; exact boxR_new _ _ _)
  have HB0 : Hid (Below w.heap.size w w1) := hide (by rw [← hw1]; exact below_box _ _)
  obtain ⟨z1, z2, z3⟩ := HX0.out
  obtain ⟨p0, hp0⟩ : ∃ p0, decide (r.2 = 0) = p0 := ⟨_, rfl⟩
  have hp0b : (r.2 == 0) = p0 := by rw [← hp0]; exact Bool.eq_iff_iff.2 (by simp)
  rw [hp0] at HE
  clear hR hs hp0
  go_enter Try.func12, Try.ntmps12
  go_wp2_with fail
  go_loopg [5, 6, 7] nl (fun k ov pv i wr => ∃ (j : Nat) (out : List Ref) (pt : Bool), j + k = nl ∧ i = .int .i64 (j : Int) ∧ pv = .bool pt ∧ Hid ((l.take j).foldl (stepP r) ([], p0) = (out, pt)) ∧ Hid (wr.ownsRow w1.heap.size 28 3 ov out.length (refsC out)) ∧ Hid (Below w1.heap.size w1 wr))
  case atStart => exact ⟨0, [], p0, by omega, rfl, rfl, hide rfl, hide (World.ownsRow_nil _ _ _ _), hide (Below.refl _ _)⟩
  case round =>
    obtain ⟨j, out, pt, hj, rfl, rfl, HFO, HOW, HBw⟩ := hrel
    cases gk with
    | zero =>
      have hje : j = nl := by omega
      subst hje
      have hnlt : ¬ ((j : Nat) : Int) < (j : Int) := by omega
      have hend : endP r (out, pt) = putS l r.1 r.2 := by
        have := HE.out
        have hf := HFO.out
        rw [List.take_of_length_le (by omega)] at hf
        rw [hf] at this; exact this
      obtain ⟨ao5, cap5, rfl⟩ := ownsRow_form HOW.out
      cases pt with
      | true =>
        go_wp2_with fail
        go_ret
        rw [← hend]
        exact ⟨_, rfl, ownsRow_base HOW.out HB0.out.size, below_next HB0.out HBw.out⟩
      | false =>
        obtain ⟨z4, z5, z6⟩ := HX0.out.below HBw.out
        have bN := boxR_new wr r 28
        have hlo : out.length ≤ 1000000 := by
          have := foldP_length r (l.take j) ([], p0)
          rw [HFO.out] at this
          have h2 := List.length_take_le j l
          simp at this; omega
        obtain ⟨v', w5, hap, hown', hgrow⟩ := append_ref (HOW.out.alloc (.cells #[.int .i64 r.1.1, .int .i64 r.1.2, .int .i64 r.2] 28)) bN.1 bN.2.1 bN.2.2 (by have := HBw.out.size; simp; omega) hlo 26
        have HO5 := hide hown'
        have HB5 : Hid (Below w1.heap.size w1 w5) := hide ((HBw.out.alloc HBw.out.size _).grown hgrow (by have := HBw.out.size; simp; omega) (fun k e => (HOW.out.lt k e).1))
        obtain ⟨ao6, cap6, rfl⟩ := ownsRow_form hown'
        clear hown' hgrow bN
        go_wp2_with (at_builtin; refine wpList_append_eq rfl _ _ rfl rfl rfl hap ?_)
        go_ret
        rw [← hend]
        exact ⟨_, rfl, ownsRow_base (ownsRow_len HO5.out) HB0.out.size, below_next HB0.out HB5.out⟩
    | succ m =>
      have hjl : j < nl := by omega
      have hlti : (j : Int) < (nl : Int) := by omega
      have hge : (0 : Int) ≤ (j : Int) := by omega
      obtain ⟨y, hy⟩ : ∃ y, l[j]? = some y := ⟨l[j]'(by omega), by rw [List.getElem?_eq_getElem]⟩
      obtain rfl := HRA.out.ad (by omega)
      have HY := hide hy
      have HSN := hide (foldP_snoc (r := r) (s := ([], p0)) hy)
      rw [HFO.out] at HSN
      have hlo : out.length ≤ 500000 := by
        have := foldP_length r (l.take j) ([], p0)
        rw [HFO.out] at this
        have h2 := List.length_take_le j l
        simp at this; omega
      have e7 : IntKind.i64.wrap ((j : Int) + 1) = (j : Int) + 1 := IntWalk.i64_in _ ⟨by omega, by omega⟩
      clear hy
      obtain ⟨ao5, cap5, rfl⟩ := ownsRow_form HOW.out
      cases pt with
      | true =>
        by_cases hsm0 : y.1 = r.1
        · have hsm : decide (y.1 = r.1) = true := by simpa using hsm0
          have hsm2 := hsm0
          clear hsm0
          have HB1 := HBw
          have HBX : Hid (BoxR wr x r) := hide (HX0.out.below HBw.out)
          have HRW : Hid (RefsAt F wr (some ⟨g, off, none⟩) g off l) := hide (HRA.out.below (below_next HB0.out HBw.out))
          go_wp2_with fail
          refine wp_region_held_drew (S := Below wr.heap.size wr) (by kernel_rfl) (below_drew0 wr) (fun hS => ?_)
          refine take_want 0 (some 17) (.bool true) rfl rfl rfl (by kernel_rfl) (by kernel_rfl) (by kernel_rfl) (fun _ _ _ h => h) (fun wx hx => exec_move rfl rfl) hS ?_
          simp only [Act.put, List.setIfInBounds_toArray, List.set_cons_zero, List.set_cons_succ]
          refine take_want 1 (some 18) (.bool false) rfl rfl rfl (by kernel_rfl) (by kernel_rfl) (by kernel_rfl) (fun _ _ _ h => h) (fun wx hx => exec_not (b := true) rfl rfl) hS ?_
          simp only [Act.put, List.setIfInBounds_toArray, List.set_cons_zero, List.set_cons_succ]
          refine take_want 2 (some 19) (.bool false) rfl rfl rfl (by kernel_rfl) (by kernel_rfl) (by kernel_rfl) (fun _ _ _ h => h) (fun wx hx => exec_move rfl rfl) hS ?_
          simp only [Act.put, List.setIfInBounds_toArray, List.set_cons_zero, List.set_cons_succ]
          refine skip_want 3 (some 20) rfl rfl rfl (by kernel_rfl) (by kernel_rfl) (by kernel_rfl) (fun _ _ _ h => h) hS ?_
          simp only [Act.put, List.setIfInBounds_toArray, List.set_cons_zero, List.set_cons_succ]
          refine skip_want 4 (some 21) rfl rfl rfl (by kernel_rfl) (by kernel_rfl) (by kernel_rfl) (fun _ _ _ h => h) hS ?_
          simp only [Act.put, List.setIfInBounds_toArray, List.set_cons_zero, List.set_cons_succ]
          refine skip_want 5 (some 22) rfl rfl rfl (by kernel_rfl) (by kernel_rfl) (by kernel_rfl) (fun _ _ _ h => h) hS ?_
          simp only [Act.put, List.setIfInBounds_toArray, List.set_cons_zero, List.set_cons_succ]
          refine skip_want 6 (some 23) rfl rfl rfl (by kernel_rfl) (by kernel_rfl) (by kernel_rfl) (fun _ _ _ h => h) hS ?_
          simp only [Act.put, List.setIfInBounds_toArray, List.set_cons_zero, List.set_cons_succ]
          refine skip_want 7 (some 24) rfl rfl rfl (by kernel_rfl) (by kernel_rfl) (by kernel_rfl) (fun _ _ _ h => h) hS ?_
          simp only [Act.put, List.setIfInBounds_toArray, List.set_cons_zero, List.set_cons_succ]
          refine skip_want 8 (some 25) rfl rfl rfl (by kernel_rfl) (by kernel_rfl) (by kernel_rfl) (fun _ _ _ h => h) hS ?_
          simp only [Act.put, List.setIfInBounds_toArray, List.set_cons_zero, List.set_cons_succ]
          refine take_want 9 (some 26) (.bool false) rfl rfl rfl (by kernel_rfl) (by kernel_rfl) (by kernel_rfl) (fun _ _ _ h => h) (fun wx hx => exec_pickF rfl rfl rfl) hS ?_
          simp only [Act.put, List.setIfInBounds_toArray, List.set_cons_zero, List.set_cons_succ]
          refine wpAnyH_done (by kernel_rfl) ?_ _
          have HBa : Hid (Below w1.heap.size w1 wr.drew) := hide (below_next HBw.out hS)
          have HOa := hide (ownsRow_below HOW.out hS)
          go_wp2_with fail
          clear HBX HRW
          have HBX : Hid (BoxR (wr.drew) x r) := hide (HX0.out.below HBa.out)
          have HRW : Hid (RefsAt F (wr.drew) (some ⟨g, off, none⟩) g off l) := hide (HRA.out.below (below_next HB0.out HBa.out))
          refine wp_region_held_drew (S := Below (wr.drew).heap.size (wr.drew)) (by kernel_rfl) (below_drew0 _) (fun hS => ?_)
          refine take_want 0 (some 31) (.slice (some ⟨g, off, none⟩) nl cap) rfl rfl rfl (by kernel_rfl) (by kernel_rfl) (by kernel_rfl) (fun _ _ _ h => h) (fun wx hx => exec_move rfl rfl) hS ?_
          simp only [Act.put, List.setIfInBounds_toArray, List.set_cons_zero, List.set_cons_succ]
          refine take_want 1 (some 32) (.int .i64 (j : Int)) rfl rfl rfl (by kernel_rfl) (by kernel_rfl) (by kernel_rfl) (fun _ _ _ h => h) (fun wx hx => exec_move rfl rfl) hS ?_
          simp only [Act.put, List.setIfInBounds_toArray, List.set_cons_zero, List.set_cons_succ]
          refine take_want 2 (some 33) (.pointer (some ⟨g, off + j * 3, none⟩)) rfl rfl rfl (by kernel_rfl) (by kernel_rfl) (by kernel_rfl) (fun _ _ _ h => h) (fun wx hx => exec_index rfl (index_refs hjl) rfl rfl) hS ?_
          simp only [Act.put, List.setIfInBounds_toArray, List.set_cons_zero, List.set_cons_succ]
          refine take_want 3 (some 34) (encR y) rfl rfl rfl (by kernel_rfl) (by kernel_rfl) (by kernel_rfl) (fun _ _ _ h => h) (fun wx hx => exec_load rfl (load_refAt ((HRW.out.below hx).cells j y HY.out)) rfl) hS ?_
          simp only [Act.put, List.setIfInBounds_toArray, List.set_cons_zero, List.set_cons_succ]
          refine take_want 4 (some 35) (encR r) rfl rfl rfl (by kernel_rfl) (by kernel_rfl) (by kernel_rfl) (fun _ _ _ h => h) (fun wx hx => exec_load rfl (HBX.out.below hx).load rfl) hS ?_
          simp only [Act.put, List.setIfInBounds_toArray, List.set_cons_zero, List.set_cons_succ]
          refine call_want 5 (some 36) rfl rfl rfl (by kernel_rfl) (exec_call2 rfl enterOne rfl rfl rfl) ((one_any y r _).mono ?_)
          rintro e' w9 ⟨rfl, hbw⟩
          have hS9 := below_next hS hbw
          clear hbw
          rw [hsm]
          refine ⟨_, rfl, hS9, ?_⟩
          simp only [Act.put, List.setIfInBounds_toArray, List.set_cons_zero, List.set_cons_succ]
          refine take_want 6 (some 37) (.bool false) rfl rfl rfl (by kernel_rfl) (by kernel_rfl) (by kernel_rfl) (fun _ _ _ h => h) (fun wx hx => exec_not (b := true) rfl rfl) hS9 ?_
          simp only [Act.put, List.setIfInBounds_toArray, List.set_cons_zero, List.set_cons_succ]
          refine wpAnyH_done (by kernel_rfl) ?_ _
          have HBc : Hid (Below w1.heap.size w1 w9) := hide (below_next HBa.out hS9)
          have HOc := hide (ownsRow_below HOa.out hS9)
          go_wp2_with fail
          go_roundg m
          case measure => omega
          case rel => exact ⟨j + 1, out, true, by omega, by go_num, rfl, hide (by rw [HSN.out]; simp [stepP, hsm2]), HOc, HBc⟩
        · have hsm : decide (y.1 = r.1) = false := by simpa using hsm0
          have hsm2 := hsm0
          clear hsm0
          have HB1 := HBw
          have HBX : Hid (BoxR wr x r) := hide (HX0.out.below HBw.out)
          have HRW : Hid (RefsAt F wr (some ⟨g, off, none⟩) g off l) := hide (HRA.out.below (below_next HB0.out HBw.out))
          go_wp2_with fail
          refine wp_region_held_drew (S := Below wr.heap.size wr) (by kernel_rfl) (below_drew0 wr) (fun hS => ?_)
          refine take_want 0 (some 17) (.bool true) rfl rfl rfl (by kernel_rfl) (by kernel_rfl) (by kernel_rfl) (fun _ _ _ h => h) (fun wx hx => exec_move rfl rfl) hS ?_
          simp only [Act.put, List.setIfInBounds_toArray, List.set_cons_zero, List.set_cons_succ]
          refine take_want 1 (some 18) (.bool false) rfl rfl rfl (by kernel_rfl) (by kernel_rfl) (by kernel_rfl) (fun _ _ _ h => h) (fun wx hx => exec_not (b := true) rfl rfl) hS ?_
          simp only [Act.put, List.setIfInBounds_toArray, List.set_cons_zero, List.set_cons_succ]
          refine take_want 2 (some 19) (.bool false) rfl rfl rfl (by kernel_rfl) (by kernel_rfl) (by kernel_rfl) (fun _ _ _ h => h) (fun wx hx => exec_move rfl rfl) hS ?_
          simp only [Act.put, List.setIfInBounds_toArray, List.set_cons_zero, List.set_cons_succ]
          refine skip_want 3 (some 20) rfl rfl rfl (by kernel_rfl) (by kernel_rfl) (by kernel_rfl) (fun _ _ _ h => h) hS ?_
          simp only [Act.put, List.setIfInBounds_toArray, List.set_cons_zero, List.set_cons_succ]
          refine skip_want 4 (some 21) rfl rfl rfl (by kernel_rfl) (by kernel_rfl) (by kernel_rfl) (fun _ _ _ h => h) hS ?_
          simp only [Act.put, List.setIfInBounds_toArray, List.set_cons_zero, List.set_cons_succ]
          refine skip_want 5 (some 22) rfl rfl rfl (by kernel_rfl) (by kernel_rfl) (by kernel_rfl) (fun _ _ _ h => h) hS ?_
          simp only [Act.put, List.setIfInBounds_toArray, List.set_cons_zero, List.set_cons_succ]
          refine skip_want 6 (some 23) rfl rfl rfl (by kernel_rfl) (by kernel_rfl) (by kernel_rfl) (fun _ _ _ h => h) hS ?_
          simp only [Act.put, List.setIfInBounds_toArray, List.set_cons_zero, List.set_cons_succ]
          refine skip_want 7 (some 24) rfl rfl rfl (by kernel_rfl) (by kernel_rfl) (by kernel_rfl) (fun _ _ _ h => h) hS ?_
          simp only [Act.put, List.setIfInBounds_toArray, List.set_cons_zero, List.set_cons_succ]
          refine skip_want 8 (some 25) rfl rfl rfl (by kernel_rfl) (by kernel_rfl) (by kernel_rfl) (fun _ _ _ h => h) hS ?_
          simp only [Act.put, List.setIfInBounds_toArray, List.set_cons_zero, List.set_cons_succ]
          refine take_want 9 (some 26) (.bool false) rfl rfl rfl (by kernel_rfl) (by kernel_rfl) (by kernel_rfl) (fun _ _ _ h => h) (fun wx hx => exec_pickF rfl rfl rfl) hS ?_
          simp only [Act.put, List.setIfInBounds_toArray, List.set_cons_zero, List.set_cons_succ]
          refine wpAnyH_done (by kernel_rfl) ?_ _
          have HBa : Hid (Below w1.heap.size w1 wr.drew) := hide (below_next HBw.out hS)
          have HOa := hide (ownsRow_below HOW.out hS)
          go_wp2_with fail
          clear HBX HRW
          have HBX : Hid (BoxR (wr.drew) x r) := hide (HX0.out.below HBa.out)
          have HRW : Hid (RefsAt F (wr.drew) (some ⟨g, off, none⟩) g off l) := hide (HRA.out.below (below_next HB0.out HBa.out))
          refine wp_region_held_drew (S := Below (wr.drew).heap.size (wr.drew)) (by kernel_rfl) (below_drew0 _) (fun hS => ?_)
          refine take_want 0 (some 31) (.slice (some ⟨g, off, none⟩) nl cap) rfl rfl rfl (by kernel_rfl) (by kernel_rfl) (by kernel_rfl) (fun _ _ _ h => h) (fun wx hx => exec_move rfl rfl) hS ?_
          simp only [Act.put, List.setIfInBounds_toArray, List.set_cons_zero, List.set_cons_succ]
          refine take_want 1 (some 32) (.int .i64 (j : Int)) rfl rfl rfl (by kernel_rfl) (by kernel_rfl) (by kernel_rfl) (fun _ _ _ h => h) (fun wx hx => exec_move rfl rfl) hS ?_
          simp only [Act.put, List.setIfInBounds_toArray, List.set_cons_zero, List.set_cons_succ]
          refine take_want 2 (some 33) (.pointer (some ⟨g, off + j * 3, none⟩)) rfl rfl rfl (by kernel_rfl) (by kernel_rfl) (by kernel_rfl) (fun _ _ _ h => h) (fun wx hx => exec_index rfl (index_refs hjl) rfl rfl) hS ?_
          simp only [Act.put, List.setIfInBounds_toArray, List.set_cons_zero, List.set_cons_succ]
          refine take_want 3 (some 34) (encR y) rfl rfl rfl (by kernel_rfl) (by kernel_rfl) (by kernel_rfl) (fun _ _ _ h => h) (fun wx hx => exec_load rfl (load_refAt ((HRW.out.below hx).cells j y HY.out)) rfl) hS ?_
          simp only [Act.put, List.setIfInBounds_toArray, List.set_cons_zero, List.set_cons_succ]
          refine take_want 4 (some 35) (encR r) rfl rfl rfl (by kernel_rfl) (by kernel_rfl) (by kernel_rfl) (fun _ _ _ h => h) (fun wx hx => exec_load rfl (HBX.out.below hx).load rfl) hS ?_
          simp only [Act.put, List.setIfInBounds_toArray, List.set_cons_zero, List.set_cons_succ]
          refine call_want 5 (some 36) rfl rfl rfl (by kernel_rfl) (exec_call2 rfl enterOne rfl rfl rfl) ((one_any y r _).mono ?_)
          rintro e' w9 ⟨rfl, hbw⟩
          have hS9 := below_next hS hbw
          clear hbw
          rw [hsm]
          refine ⟨_, rfl, hS9, ?_⟩
          simp only [Act.put, List.setIfInBounds_toArray, List.set_cons_zero, List.set_cons_succ]
          refine take_want 6 (some 37) (.bool true) rfl rfl rfl (by kernel_rfl) (by kernel_rfl) (by kernel_rfl) (fun _ _ _ h => h) (fun wx hx => exec_not (b := false) rfl rfl) hS9 ?_
          simp only [Act.put, List.setIfInBounds_toArray, List.set_cons_zero, List.set_cons_succ]
          refine wpAnyH_done (by kernel_rfl) ?_ _
          have HBc : Hid (Below w1.heap.size w1 w9) := hide (below_next HBa.out hS9)
          have HOc := hide (ownsRow_below HOa.out hS9)
          obtain ⟨c1, c2, c3⟩ := (HRA.out.below (below_next HB0.out HBc.out)).cells j y HY.out
          have bNd := boxR_new w9 y 28
          obtain ⟨vd, wd, hapd, hownd, hgrowd⟩ := append_ref (HOc.out.alloc (.cells #[.int .i64 y.1.1, .int .i64 y.1.2, .int .i64 y.2] 28)) bNd.1 bNd.2.1 bNd.2.2 (by have := HBc.out.size; simp only [World.size_alloc]; omega) (by omega) 26
          have HOd := hide (ownsRow_len (r := y) hownd)
          have HBd : Hid (Below w1.heap.size w1 wd) := hide ((HBc.out.alloc HBc.out.size _).grown hgrowd (by have := HBc.out.size; simp only [World.size_alloc]; omega) (fun k e => (HOc.out.lt k e).1))
          obtain ⟨aod, capd, rfl⟩ := ownsRow_form hownd
          clear hownd hgrowd bNd
          go_wp2_with (at_builtin; refine wpList_append_eq rfl _ _ rfl rfl rfl hapd ?_)
          go_roundg m
          case measure => omega
          case rel => exact ⟨j + 1, (out ++ [y]), true, by omega, by go_num, rfl, hide (by rw [HSN.out]; simp [stepP, hsm2]), HOd, HBd⟩
      | false =>
        by_cases hls0 : ltO r.1 y.1 = true
        · have hls := hls0
          have hsm2 : ¬ y.1 = r.1 := (ltO_ne hls0).symm
          have hsm : decide (y.1 = r.1) = false := by simpa using hsm2
          clear hls0
          have HB1 := HBw
          have HBX : Hid (BoxR wr x r) := hide (HX0.out.below HBw.out)
          have HRW : Hid (RefsAt F wr (some ⟨g, off, none⟩) g off l) := hide (HRA.out.below (below_next HB0.out HBw.out))
          go_wp2_with fail
          refine wp_region_held_drew (S := Below wr.heap.size wr) (by kernel_rfl) (below_drew0 wr) (fun hS => ?_)
          refine take_want 0 (some 17) (.bool false) rfl rfl rfl (by kernel_rfl) (by kernel_rfl) (by kernel_rfl) (fun _ _ _ h => h) (fun wx hx => exec_move rfl rfl) hS ?_
          simp only [Act.put, List.setIfInBounds_toArray, List.set_cons_zero, List.set_cons_succ]
          refine take_want 1 (some 18) (.bool true) rfl rfl rfl (by kernel_rfl) (by kernel_rfl) (by kernel_rfl) (fun _ _ _ h => h) (fun wx hx => exec_not (b := false) rfl rfl) hS ?_
          simp only [Act.put, List.setIfInBounds_toArray, List.set_cons_zero, List.set_cons_succ]
          refine take_want 2 (some 19) (.bool true) rfl rfl rfl (by kernel_rfl) (by kernel_rfl) (by kernel_rfl) (fun _ _ _ h => h) (fun wx hx => exec_move rfl rfl) hS ?_
          simp only [Act.put, List.setIfInBounds_toArray, List.set_cons_zero, List.set_cons_succ]
          refine take_want 3 (some 20) (encR r) rfl rfl rfl (by kernel_rfl) (by kernel_rfl) (by kernel_rfl) (fun _ _ _ h => h) (fun wx hx => exec_load rfl (HBX.out.below hx).load rfl) hS ?_
          simp only [Act.put, List.setIfInBounds_toArray, List.set_cons_zero, List.set_cons_succ]
          refine take_want 4 (some 21) (.slice (some ⟨g, off, none⟩) nl cap) rfl rfl rfl (by kernel_rfl) (by kernel_rfl) (by kernel_rfl) (fun _ _ _ h => h) (fun wx hx => exec_move rfl rfl) hS ?_
          simp only [Act.put, List.setIfInBounds_toArray, List.set_cons_zero, List.set_cons_succ]
          refine take_want 5 (some 22) (.int .i64 (j : Int)) rfl rfl rfl (by kernel_rfl) (by kernel_rfl) (by kernel_rfl) (fun _ _ _ h => h) (fun wx hx => exec_move rfl rfl) hS ?_
          simp only [Act.put, List.setIfInBounds_toArray, List.set_cons_zero, List.set_cons_succ]
          refine take_want 6 (some 23) (.pointer (some ⟨g, off + j * 3, none⟩)) rfl rfl rfl (by kernel_rfl) (by kernel_rfl) (by kernel_rfl) (fun _ _ _ h => h) (fun wx hx => exec_index rfl (index_refs hjl) rfl rfl) hS ?_
          simp only [Act.put, List.setIfInBounds_toArray, List.set_cons_zero, List.set_cons_succ]
          refine take_want 7 (some 24) (encR y) rfl rfl rfl (by kernel_rfl) (by kernel_rfl) (by kernel_rfl) (fun _ _ _ h => h) (fun wx hx => exec_load rfl (load_refAt ((HRW.out.below hx).cells j y HY.out)) rfl) hS ?_
          simp only [Act.put, List.setIfInBounds_toArray, List.set_cons_zero, List.set_cons_succ]
          refine call_want 8 (some 25) rfl rfl rfl (by kernel_rfl) (exec_call2 rfl enterLess rfl rfl rfl) ((less_any r y _).mono ?_)
          rintro e' w6 ⟨rfl, hbw⟩
          have hS6 := below_next hS hbw
          clear hbw
          rw [hls]
          refine ⟨_, rfl, hS6, ?_⟩
          simp only [Act.put, List.setIfInBounds_toArray, List.set_cons_zero, List.set_cons_succ]
          refine take_want 9 (some 26) (.bool true) rfl rfl rfl (by kernel_rfl) (by kernel_rfl) (by kernel_rfl) (fun _ _ _ h => h) (fun wx hx => exec_pickT rfl rfl rfl) hS6 ?_
          simp only [Act.put, List.setIfInBounds_toArray, List.set_cons_zero, List.set_cons_succ]
          refine wpAnyH_done (by kernel_rfl) ?_ _
          have HBa : Hid (Below w1.heap.size w1 w6) := hide (below_next HBw.out hS6)
          have HOa := hide (ownsRow_below HOW.out hS6)
          obtain ⟨z4, z5, z6⟩ := HX0.out.below HBa.out
          have bNb := boxR_new w6 r 28
          obtain ⟨vb, wb, hapb, hownb, hgrowb⟩ := append_ref (HOa.out.alloc (.cells #[.int .i64 r.1.1, .int .i64 r.1.2, .int .i64 r.2] 28)) bNb.1 bNb.2.1 bNb.2.2 (by have := HBa.out.size; simp only [World.size_alloc]; omega) (by omega) 26
          have HOb := hide (ownsRow_len (r := r) hownb)
          have HBb : Hid (Below w1.heap.size w1 wb) := hide ((HBa.out.alloc HBa.out.size _).grown hgrowb (by have := HBa.out.size; simp only [World.size_alloc]; omega) (fun k e => (HOa.out.lt k e).1))
          obtain ⟨aob, capb, rfl⟩ := ownsRow_form hownb
          clear hownb hgrowb bNb
          go_wp2_with (at_builtin; refine wpList_append_eq rfl _ _ rfl rfl rfl hapb ?_)
          clear HBX HRW z4 z5 z6
          have HBX : Hid (BoxR (wb) x r) := hide (HX0.out.below HBb.out)
          have HRW : Hid (RefsAt F (wb) (some ⟨g, off, none⟩) g off l) := hide (HRA.out.below (below_next HB0.out HBb.out))
          refine wp_region_held_drew (S := Below (wb).heap.size (wb)) (by kernel_rfl) (below_drew0 _) (fun hS => ?_)
          refine take_want 0 (some 31) (.slice (some ⟨g, off, none⟩) nl cap) rfl rfl rfl (by kernel_rfl) (by kernel_rfl) (by kernel_rfl) (fun _ _ _ h => h) (fun wx hx => exec_move rfl rfl) hS ?_
          simp only [Act.put, List.setIfInBounds_toArray, List.set_cons_zero, List.set_cons_succ]
          refine take_want 1 (some 32) (.int .i64 (j : Int)) rfl rfl rfl (by kernel_rfl) (by kernel_rfl) (by kernel_rfl) (fun _ _ _ h => h) (fun wx hx => exec_move rfl rfl) hS ?_
          simp only [Act.put, List.setIfInBounds_toArray, List.set_cons_zero, List.set_cons_succ]
          refine take_want 2 (some 33) (.pointer (some ⟨g, off + j * 3, none⟩)) rfl rfl rfl (by kernel_rfl) (by kernel_rfl) (by kernel_rfl) (fun _ _ _ h => h) (fun wx hx => exec_index rfl (index_refs hjl) rfl rfl) hS ?_
          simp only [Act.put, List.setIfInBounds_toArray, List.set_cons_zero, List.set_cons_succ]
          refine take_want 3 (some 34) (encR y) rfl rfl rfl (by kernel_rfl) (by kernel_rfl) (by kernel_rfl) (fun _ _ _ h => h) (fun wx hx => exec_load rfl (load_refAt ((HRW.out.below hx).cells j y HY.out)) rfl) hS ?_
          simp only [Act.put, List.setIfInBounds_toArray, List.set_cons_zero, List.set_cons_succ]
          refine take_want 4 (some 35) (encR r) rfl rfl rfl (by kernel_rfl) (by kernel_rfl) (by kernel_rfl) (fun _ _ _ h => h) (fun wx hx => exec_load rfl (HBX.out.below hx).load rfl) hS ?_
          simp only [Act.put, List.setIfInBounds_toArray, List.set_cons_zero, List.set_cons_succ]
          refine call_want 5 (some 36) rfl rfl rfl (by kernel_rfl) (exec_call2 rfl enterOne rfl rfl rfl) ((one_any y r _).mono ?_)
          rintro e' w9 ⟨rfl, hbw⟩
          have hS9 := below_next hS hbw
          clear hbw
          rw [hsm]
          refine ⟨_, rfl, hS9, ?_⟩
          simp only [Act.put, List.setIfInBounds_toArray, List.set_cons_zero, List.set_cons_succ]
          refine take_want 6 (some 37) (.bool true) rfl rfl rfl (by kernel_rfl) (by kernel_rfl) (by kernel_rfl) (fun _ _ _ h => h) (fun wx hx => exec_not (b := false) rfl rfl) hS9 ?_
          simp only [Act.put, List.setIfInBounds_toArray, List.set_cons_zero, List.set_cons_succ]
          refine wpAnyH_done (by kernel_rfl) ?_ _
          have HBc : Hid (Below w1.heap.size w1 w9) := hide (below_next HBb.out hS9)
          have HOc := hide (ownsRow_below HOb.out hS9)
          obtain ⟨c1, c2, c3⟩ := (HRA.out.below (below_next HB0.out HBc.out)).cells j y HY.out
          have bNd := boxR_new w9 y 28
          obtain ⟨vd, wd, hapd, hownd, hgrowd⟩ := append_ref (HOc.out.alloc (.cells #[.int .i64 y.1.1, .int .i64 y.1.2, .int .i64 y.2] 28)) bNd.1 bNd.2.1 bNd.2.2 (by have := HBc.out.size; simp only [World.size_alloc]; omega) (by simp; omega) 26
          have HOd := hide (ownsRow_len (r := y) hownd)
          have HBd : Hid (Below w1.heap.size w1 wd) := hide ((HBc.out.alloc HBc.out.size _).grown hgrowd (by have := HBc.out.size; simp only [World.size_alloc]; omega) (fun k e => (HOc.out.lt k e).1))
          obtain ⟨aod, capd, rfl⟩ := ownsRow_form hownd
          clear hownd hgrowd bNd
          go_wp2_with (at_builtin; refine wpList_append_eq rfl _ _ rfl rfl rfl hapd ?_)
          go_roundg m
          case measure => omega
          case rel => exact ⟨j + 1, ((out ++ [r]) ++ [y]), true, by omega, by go_num, rfl, hide (by rw [HSN.out]; simp [stepP, hls, hsm2]), (hide (by have h := HOd.out; simp only [List.length_append, List.length_cons, List.length_nil, Nat.zero_add] at h ⊢; exact h)), HBd⟩
        · have hls : ltO r.1 y.1 = false := by simpa using hls0
          clear hls0
          by_cases hsm0 : y.1 = r.1
          · have hsm : decide (y.1 = r.1) = true := by simpa using hsm0
            have hsm2 := hsm0
            clear hsm0
            have HB1 := HBw
            have HBX : Hid (BoxR wr x r) := hide (HX0.out.below HBw.out)
            have HRW : Hid (RefsAt F wr (some ⟨g, off, none⟩) g off l) := hide (HRA.out.below (below_next HB0.out HBw.out))
            go_wp2_with fail
            refine wp_region_held_drew (S := Below wr.heap.size wr) (by kernel_rfl) (below_drew0 wr) (fun hS => ?_)
            refine take_want 0 (some 17) (.bool false) rfl rfl rfl (by kernel_rfl) (by kernel_rfl) (by kernel_rfl) (fun _ _ _ h => h) (fun wx hx => exec_move rfl rfl) hS ?_
            simp only [Act.put, List.setIfInBounds_toArray, List.set_cons_zero, List.set_cons_succ]
            refine take_want 1 (some 18) (.bool true) rfl rfl rfl (by kernel_rfl) (by kernel_rfl) (by kernel_rfl) (fun _ _ _ h => h) (fun wx hx => exec_not (b := false) rfl rfl) hS ?_
            simp only [Act.put, List.setIfInBounds_toArray, List.set_cons_zero, List.set_cons_succ]
            refine take_want 2 (some 19) (.bool true) rfl rfl rfl (by kernel_rfl) (by kernel_rfl) (by kernel_rfl) (fun _ _ _ h => h) (fun wx hx => exec_move rfl rfl) hS ?_
            simp only [Act.put, List.setIfInBounds_toArray, List.set_cons_zero, List.set_cons_succ]
            refine take_want 3 (some 20) (encR r) rfl rfl rfl (by kernel_rfl) (by kernel_rfl) (by kernel_rfl) (fun _ _ _ h => h) (fun wx hx => exec_load rfl (HBX.out.below hx).load rfl) hS ?_
            simp only [Act.put, List.setIfInBounds_toArray, List.set_cons_zero, List.set_cons_succ]
            refine take_want 4 (some 21) (.slice (some ⟨g, off, none⟩) nl cap) rfl rfl rfl (by kernel_rfl) (by kernel_rfl) (by kernel_rfl) (fun _ _ _ h => h) (fun wx hx => exec_move rfl rfl) hS ?_
            simp only [Act.put, List.setIfInBounds_toArray, List.set_cons_zero, List.set_cons_succ]
            refine take_want 5 (some 22) (.int .i64 (j : Int)) rfl rfl rfl (by kernel_rfl) (by kernel_rfl) (by kernel_rfl) (fun _ _ _ h => h) (fun wx hx => exec_move rfl rfl) hS ?_
            simp only [Act.put, List.setIfInBounds_toArray, List.set_cons_zero, List.set_cons_succ]
            refine take_want 6 (some 23) (.pointer (some ⟨g, off + j * 3, none⟩)) rfl rfl rfl (by kernel_rfl) (by kernel_rfl) (by kernel_rfl) (fun _ _ _ h => h) (fun wx hx => exec_index rfl (index_refs hjl) rfl rfl) hS ?_
            simp only [Act.put, List.setIfInBounds_toArray, List.set_cons_zero, List.set_cons_succ]
            refine take_want 7 (some 24) (encR y) rfl rfl rfl (by kernel_rfl) (by kernel_rfl) (by kernel_rfl) (fun _ _ _ h => h) (fun wx hx => exec_load rfl (load_refAt ((HRW.out.below hx).cells j y HY.out)) rfl) hS ?_
            simp only [Act.put, List.setIfInBounds_toArray, List.set_cons_zero, List.set_cons_succ]
            refine call_want 8 (some 25) rfl rfl rfl (by kernel_rfl) (exec_call2 rfl enterLess rfl rfl rfl) ((less_any r y _).mono ?_)
            rintro e' w6 ⟨rfl, hbw⟩
            have hS6 := below_next hS hbw
            clear hbw
            rw [hls]
            refine ⟨_, rfl, hS6, ?_⟩
            simp only [Act.put, List.setIfInBounds_toArray, List.set_cons_zero, List.set_cons_succ]
            refine take_want 9 (some 26) (.bool false) rfl rfl rfl (by kernel_rfl) (by kernel_rfl) (by kernel_rfl) (fun _ _ _ h => h) (fun wx hx => exec_pickT rfl rfl rfl) hS6 ?_
            simp only [Act.put, List.setIfInBounds_toArray, List.set_cons_zero, List.set_cons_succ]
            refine wpAnyH_done (by kernel_rfl) ?_ _
            have HBa : Hid (Below w1.heap.size w1 w6) := hide (below_next HBw.out hS6)
            have HOa := hide (ownsRow_below HOW.out hS6)
            go_wp2_with fail
            clear HBX HRW
            have HBX : Hid (BoxR (w6) x r) := hide (HX0.out.below HBa.out)
            have HRW : Hid (RefsAt F (w6) (some ⟨g, off, none⟩) g off l) := hide (HRA.out.below (below_next HB0.out HBa.out))
            refine wp_region_held_drew (S := Below (w6).heap.size (w6)) (by kernel_rfl) (below_drew0 _) (fun hS => ?_)
            refine take_want 0 (some 31) (.slice (some ⟨g, off, none⟩) nl cap) rfl rfl rfl (by kernel_rfl) (by kernel_rfl) (by kernel_rfl) (fun _ _ _ h => h) (fun wx hx => exec_move rfl rfl) hS ?_
            simp only [Act.put, List.setIfInBounds_toArray, List.set_cons_zero, List.set_cons_succ]
            refine take_want 1 (some 32) (.int .i64 (j : Int)) rfl rfl rfl (by kernel_rfl) (by kernel_rfl) (by kernel_rfl) (fun _ _ _ h => h) (fun wx hx => exec_move rfl rfl) hS ?_
            simp only [Act.put, List.setIfInBounds_toArray, List.set_cons_zero, List.set_cons_succ]
            refine take_want 2 (some 33) (.pointer (some ⟨g, off + j * 3, none⟩)) rfl rfl rfl (by kernel_rfl) (by kernel_rfl) (by kernel_rfl) (fun _ _ _ h => h) (fun wx hx => exec_index rfl (index_refs hjl) rfl rfl) hS ?_
            simp only [Act.put, List.setIfInBounds_toArray, List.set_cons_zero, List.set_cons_succ]
            refine take_want 3 (some 34) (encR y) rfl rfl rfl (by kernel_rfl) (by kernel_rfl) (by kernel_rfl) (fun _ _ _ h => h) (fun wx hx => exec_load rfl (load_refAt ((HRW.out.below hx).cells j y HY.out)) rfl) hS ?_
            simp only [Act.put, List.setIfInBounds_toArray, List.set_cons_zero, List.set_cons_succ]
            refine take_want 4 (some 35) (encR r) rfl rfl rfl (by kernel_rfl) (by kernel_rfl) (by kernel_rfl) (fun _ _ _ h => h) (fun wx hx => exec_load rfl (HBX.out.below hx).load rfl) hS ?_
            simp only [Act.put, List.setIfInBounds_toArray, List.set_cons_zero, List.set_cons_succ]
            refine call_want 5 (some 36) rfl rfl rfl (by kernel_rfl) (exec_call2 rfl enterOne rfl rfl rfl) ((one_any y r _).mono ?_)
            rintro e' w9 ⟨rfl, hbw⟩
            have hS9 := below_next hS hbw
            clear hbw
            rw [hsm]
            refine ⟨_, rfl, hS9, ?_⟩
            simp only [Act.put, List.setIfInBounds_toArray, List.set_cons_zero, List.set_cons_succ]
            refine take_want 6 (some 37) (.bool false) rfl rfl rfl (by kernel_rfl) (by kernel_rfl) (by kernel_rfl) (fun _ _ _ h => h) (fun wx hx => exec_not (b := true) rfl rfl) hS9 ?_
            simp only [Act.put, List.setIfInBounds_toArray, List.set_cons_zero, List.set_cons_succ]
            refine wpAnyH_done (by kernel_rfl) ?_ _
            have HBc : Hid (Below w1.heap.size w1 w9) := hide (below_next HBa.out hS9)
            have HOc := hide (ownsRow_below HOa.out hS9)
            go_wp2_with fail
            go_roundg m
            case measure => omega
            case rel => exact ⟨j + 1, out, false, by omega, by go_num, rfl, hide (by rw [HSN.out]; simp [stepP, ltO_irrefl, hsm2]), HOc, HBc⟩
          · have hsm : decide (y.1 = r.1) = false := by simpa using hsm0
            have hsm2 := hsm0
            clear hsm0
            have HB1 := HBw
            have HBX : Hid (BoxR wr x r) := hide (HX0.out.below HBw.out)
            have HRW : Hid (RefsAt F wr (some ⟨g, off, none⟩) g off l) := hide (HRA.out.below (below_next HB0.out HBw.out))
            go_wp2_with fail
            refine wp_region_held_drew (S := Below wr.heap.size wr) (by kernel_rfl) (below_drew0 wr) (fun hS => ?_)
            refine take_want 0 (some 17) (.bool false) rfl rfl rfl (by kernel_rfl) (by kernel_rfl) (by kernel_rfl) (fun _ _ _ h => h) (fun wx hx => exec_move rfl rfl) hS ?_
            simp only [Act.put, List.setIfInBounds_toArray, List.set_cons_zero, List.set_cons_succ]
            refine take_want 1 (some 18) (.bool true) rfl rfl rfl (by kernel_rfl) (by kernel_rfl) (by kernel_rfl) (fun _ _ _ h => h) (fun wx hx => exec_not (b := false) rfl rfl) hS ?_
            simp only [Act.put, List.setIfInBounds_toArray, List.set_cons_zero, List.set_cons_succ]
            refine take_want 2 (some 19) (.bool true) rfl rfl rfl (by kernel_rfl) (by kernel_rfl) (by kernel_rfl) (fun _ _ _ h => h) (fun wx hx => exec_move rfl rfl) hS ?_
            simp only [Act.put, List.setIfInBounds_toArray, List.set_cons_zero, List.set_cons_succ]
            refine take_want 3 (some 20) (encR r) rfl rfl rfl (by kernel_rfl) (by kernel_rfl) (by kernel_rfl) (fun _ _ _ h => h) (fun wx hx => exec_load rfl (HBX.out.below hx).load rfl) hS ?_
            simp only [Act.put, List.setIfInBounds_toArray, List.set_cons_zero, List.set_cons_succ]
            refine take_want 4 (some 21) (.slice (some ⟨g, off, none⟩) nl cap) rfl rfl rfl (by kernel_rfl) (by kernel_rfl) (by kernel_rfl) (fun _ _ _ h => h) (fun wx hx => exec_move rfl rfl) hS ?_
            simp only [Act.put, List.setIfInBounds_toArray, List.set_cons_zero, List.set_cons_succ]
            refine take_want 5 (some 22) (.int .i64 (j : Int)) rfl rfl rfl (by kernel_rfl) (by kernel_rfl) (by kernel_rfl) (fun _ _ _ h => h) (fun wx hx => exec_move rfl rfl) hS ?_
            simp only [Act.put, List.setIfInBounds_toArray, List.set_cons_zero, List.set_cons_succ]
            refine take_want 6 (some 23) (.pointer (some ⟨g, off + j * 3, none⟩)) rfl rfl rfl (by kernel_rfl) (by kernel_rfl) (by kernel_rfl) (fun _ _ _ h => h) (fun wx hx => exec_index rfl (index_refs hjl) rfl rfl) hS ?_
            simp only [Act.put, List.setIfInBounds_toArray, List.set_cons_zero, List.set_cons_succ]
            refine take_want 7 (some 24) (encR y) rfl rfl rfl (by kernel_rfl) (by kernel_rfl) (by kernel_rfl) (fun _ _ _ h => h) (fun wx hx => exec_load rfl (load_refAt ((HRW.out.below hx).cells j y HY.out)) rfl) hS ?_
            simp only [Act.put, List.setIfInBounds_toArray, List.set_cons_zero, List.set_cons_succ]
            refine call_want 8 (some 25) rfl rfl rfl (by kernel_rfl) (exec_call2 rfl enterLess rfl rfl rfl) ((less_any r y _).mono ?_)
            rintro e' w6 ⟨rfl, hbw⟩
            have hS6 := below_next hS hbw
            clear hbw
            rw [hls]
            refine ⟨_, rfl, hS6, ?_⟩
            simp only [Act.put, List.setIfInBounds_toArray, List.set_cons_zero, List.set_cons_succ]
            refine take_want 9 (some 26) (.bool false) rfl rfl rfl (by kernel_rfl) (by kernel_rfl) (by kernel_rfl) (fun _ _ _ h => h) (fun wx hx => exec_pickT rfl rfl rfl) hS6 ?_
            simp only [Act.put, List.setIfInBounds_toArray, List.set_cons_zero, List.set_cons_succ]
            refine wpAnyH_done (by kernel_rfl) ?_ _
            have HBa : Hid (Below w1.heap.size w1 w6) := hide (below_next HBw.out hS6)
            have HOa := hide (ownsRow_below HOW.out hS6)
            go_wp2_with fail
            clear HBX HRW
            have HBX : Hid (BoxR (w6) x r) := hide (HX0.out.below HBa.out)
            have HRW : Hid (RefsAt F (w6) (some ⟨g, off, none⟩) g off l) := hide (HRA.out.below (below_next HB0.out HBa.out))
            refine wp_region_held_drew (S := Below (w6).heap.size (w6)) (by kernel_rfl) (below_drew0 _) (fun hS => ?_)
            refine take_want 0 (some 31) (.slice (some ⟨g, off, none⟩) nl cap) rfl rfl rfl (by kernel_rfl) (by kernel_rfl) (by kernel_rfl) (fun _ _ _ h => h) (fun wx hx => exec_move rfl rfl) hS ?_
            simp only [Act.put, List.setIfInBounds_toArray, List.set_cons_zero, List.set_cons_succ]
            refine take_want 1 (some 32) (.int .i64 (j : Int)) rfl rfl rfl (by kernel_rfl) (by kernel_rfl) (by kernel_rfl) (fun _ _ _ h => h) (fun wx hx => exec_move rfl rfl) hS ?_
            simp only [Act.put, List.setIfInBounds_toArray, List.set_cons_zero, List.set_cons_succ]
            refine take_want 2 (some 33) (.pointer (some ⟨g, off + j * 3, none⟩)) rfl rfl rfl (by kernel_rfl) (by kernel_rfl) (by kernel_rfl) (fun _ _ _ h => h) (fun wx hx => exec_index rfl (index_refs hjl) rfl rfl) hS ?_
            simp only [Act.put, List.setIfInBounds_toArray, List.set_cons_zero, List.set_cons_succ]
            refine take_want 3 (some 34) (encR y) rfl rfl rfl (by kernel_rfl) (by kernel_rfl) (by kernel_rfl) (fun _ _ _ h => h) (fun wx hx => exec_load rfl (load_refAt ((HRW.out.below hx).cells j y HY.out)) rfl) hS ?_
            simp only [Act.put, List.setIfInBounds_toArray, List.set_cons_zero, List.set_cons_succ]
            refine take_want 4 (some 35) (encR r) rfl rfl rfl (by kernel_rfl) (by kernel_rfl) (by kernel_rfl) (fun _ _ _ h => h) (fun wx hx => exec_load rfl (HBX.out.below hx).load rfl) hS ?_
            simp only [Act.put, List.setIfInBounds_toArray, List.set_cons_zero, List.set_cons_succ]
            refine call_want 5 (some 36) rfl rfl rfl (by kernel_rfl) (exec_call2 rfl enterOne rfl rfl rfl) ((one_any y r _).mono ?_)
            rintro e' w9 ⟨rfl, hbw⟩
            have hS9 := below_next hS hbw
            clear hbw
            rw [hsm]
            refine ⟨_, rfl, hS9, ?_⟩
            simp only [Act.put, List.setIfInBounds_toArray, List.set_cons_zero, List.set_cons_succ]
            refine take_want 6 (some 37) (.bool true) rfl rfl rfl (by kernel_rfl) (by kernel_rfl) (by kernel_rfl) (fun _ _ _ h => h) (fun wx hx => exec_not (b := false) rfl rfl) hS9 ?_
            simp only [Act.put, List.setIfInBounds_toArray, List.set_cons_zero, List.set_cons_succ]
            refine wpAnyH_done (by kernel_rfl) ?_ _
            have HBc : Hid (Below w1.heap.size w1 w9) := hide (below_next HBa.out hS9)
            have HOc := hide (ownsRow_below HOa.out hS9)
            obtain ⟨c1, c2, c3⟩ := (HRA.out.below (below_next HB0.out HBc.out)).cells j y HY.out
            have bNd := boxR_new w9 y 28
            obtain ⟨vd, wd, hapd, hownd, hgrowd⟩ := append_ref (HOc.out.alloc (.cells #[.int .i64 y.1.1, .int .i64 y.1.2, .int .i64 y.2] 28)) bNd.1 bNd.2.1 bNd.2.2 (by have := HBc.out.size; simp only [World.size_alloc]; omega) (by omega) 26
            have HOd := hide (ownsRow_len (r := y) hownd)
            have HBd : Hid (Below w1.heap.size w1 wd) := hide ((HBc.out.alloc HBc.out.size _).grown hgrowd (by have := HBc.out.size; simp only [World.size_alloc]; omega) (fun k e => (HOc.out.lt k e).1))
            obtain ⟨aod, capd, rfl⟩ := ownsRow_form hownd
            clear hownd hgrowd bNd
            go_wp2_with (at_builtin; refine wpList_append_eq rfl _ _ rfl rfl rfl hapd ?_)
            go_roundg m
            case measure => omega
            case rel => exact ⟨j + 1, (out ++ [y]), false, by omega, by go_num, rfl, hide (by rw [HSN.out]; simp [stepP, hls, hsm2]), HOd, HBd⟩
end Go.Proofs.Ytjopdejgijojmaa
