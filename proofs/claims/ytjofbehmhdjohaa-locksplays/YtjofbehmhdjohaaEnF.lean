/- In what order entries are done. -/
import Derived.Test.YtjofbehmhdjohaaEt
namespace Go.Proofs.Ytjofbehmhdjohaa
open Go.RowKit Go.Extern

/-- Two lists of entries with the same numbers and spans. -/
def Tied (E A : List En) : Prop := E.map (fun e => (e.num, e.sps)) = A.map (fun e => (e.num, e.sps))
theorem Tied.nil : Tied [] [] := rfl
theorem Tied.len {E A : List En} (h : Tied E A) : E.length = A.length := by simpa using congrArg List.length h
theorem Tied.nums {E A : List En} (h : Tied E A) : E.map En.num = A.map En.num := by
  have := congrArg (List.map Prod.fst) h
  simpa [List.map_map, Function.comp_def] using this
theorem Tied.snoc {E A : List En} (h : Tied E A) {x y : En} (h1 : x.num = y.num) (h2 : x.sps = y.sps) : Tied (E ++ [x]) (A ++ [y]) := by
  unfold Tied at *; simp [h, h1, h2]
theorem Tied.at_ {E A : List En} (h : Tied E A) {i : Nat} {x y : En} (hx : E[i]? = some x) (hy : A[i]? = some y) : x.num = y.num ∧ x.sps = y.sps := by
  have := congrArg (fun l => l[i]?) h
  simp only [List.getElem?_map, hx, hy, Option.map_some] at this
  have := Option.some.inj this
  simpa using this
theorem Tied.mem {E A : List En} (h : Tied E A) {e : En} (he : e ∈ E) : ∃ z ∈ A, z.num = e.num ∧ z.sps = e.sps := by
  obtain ⟨i, hi⟩ := List.mem_iff_getElem?.1 he
  have hl : i < A.length := by have := (List.getElem?_eq_some_iff.1 hi).1; rw [← h.len]; exact this
  have hy : A[i]? = some A[i] := List.getElem?_eq_getElem hl
  have := h.at_ hi hy
  exact ⟨A[i], List.getElem_mem _, this.1.symm, this.2.symm⟩
/-- What was done, and what is left. -/
structure Jv (A E DA : List En) : Prop where
  sub : ∀ e ∈ E, ∃ z ∈ A, z.num = e.num ∧ z.sps = e.sps
  dsub : ∀ y ∈ DA, y ∈ A
  pair : DA.Pairwise (fun y z => z.num < y.num → clE y.sps z.sps = false)
  left : ∀ y ∈ DA, ∀ e ∈ E, e.num < y.num → clE y.sps e.sps = false
  len : DA.length + E.length = A.length
theorem Jv.start {A E : List En} (h : Tied E A) : Jv A E [] := ⟨fun e he => h.mem he, by simp, List.Pairwise.nil, by simp, by simp [h.len]⟩
theorem Jv.step {A E DA : List En} (h : Jv A E DA) (hu : Up (E.map En.num)) {p : Nat} {x : En} (hx : E[p]? = some x) (hf : freeB E x p = true) : ∃ z, z.num = x.num ∧ Jv A (E.take p ++ E.drop (p + 1)) (DA ++ [z]) := by
  obtain ⟨z, hz, e1, e2⟩ := h.sub x (List.mem_of_getElem? hx)
  have hp := (List.getElem?_eq_some_iff.1 hx).1
  refine ⟨z, e1, fun e he => h.sub e (mem_cut he), fun y hy => ?_, ?_, fun y hy e he hlt => ?_, ?_⟩
  · rcases List.mem_append.1 hy with hy | hy
    · exact h.dsub y hy
    · simp at hy; subst hy; exact hz
  · rw [List.pairwise_append]
    refine ⟨h.pair, by simp, fun y hy q hq hlt => ?_⟩
    simp at hq
    subst hq
    rw [e2]
    exact h.left y hy x (List.mem_of_getElem? hx) (by omega)
  · rcases List.mem_append.1 hy with hy | hy
    · exact h.left y hy e (mem_cut he) hlt
    · simp at hy
      subst hy
      obtain ⟨q, hq⟩ := List.mem_iff_getElem?.1 (mem_cut he)
      have hqp : q < p := by
        rcases Nat.lt_trichotomy q p with g | g | g
        · exact g
        · subst g; rw [hx] at hq; cases hq; omega
        · have := hu.lt (num_at hx) (num_at hq) g; omega
      rw [e2]
      have hm : e ∈ E.take p := by
        rw [← List.getElem?_take_of_lt hqp] at hq
        exact List.mem_of_getElem? hq
      unfold freeB at hf
      cases hc : clE x.sps e.sps with
      | false => rfl
      | true => rw [List.any_eq_true.2 ⟨e, hm, hc⟩] at hf; cases hf
  · have := h.len; simp; omega
theorem rdyN_mem {E : List En} {k : Int} : ∀ j, k ∈ rdyN E j → ∃ p x, E[p]? = some x ∧ x.num = k ∧ freeB E x p = true
  | 0, h => by simp [rdyN] at h
  | j + 1, h => by
    unfold rdyN at h
    rcases List.mem_append.1 h with h | h
    · exact rdyN_mem j h
    · cases hq : E[j]? with
      | none => rw [hq] at h; simp at h
      | some q =>
        rw [hq] at h
        simp only at h
        split at h
        · rename_i hf
          simp at h
          exact ⟨j, q, hq, h.symm, hf⟩
        · simp at h
theorem rdyN_head {e : En} {E : List En} : ∀ j, ∃ t, rdyN (e :: E) (j + 1) = e.num :: t
  | 0 => ⟨[], by simp [rdyN, freeB]⟩
  | j + 1 => by
    obtain ⟨t, ht⟩ := rdyN_head (e := e) (E := E) j
    unfold rdyN
    rw [ht]
    exact ⟨_, rfl⟩
/-- Done of one that may go ahead; a list that was told lives on. -/
theorem EnS.done {w wr w2 : World} {b : Nat} {E : List En} {last : Int} {av dv : Value} {A : List En} {D : List Int} (h : EnS w b E last av A dv D wr) (hb : Below wr.heap.size wr w2) {rv : Value} {R : List Int} (ho : OwnI w2 wr.heap.size rv R) {p : Nat} {x : En} (hx : E[p]? = some x) (hf : freeB E x p = true) :
    Calls Try.prog 18 #[.pointer (some ⟨b, 0, none⟩), .int .i64 x.num] w2 (fun e w' => e = .returned .nilIface ∧ EnS w b (E.take p ++ E.drop (p + 1)) last av A dv D w' ∧ OwnI w' wr.heap.size rv R) := by
  have h2 := h.below hb
  have hvlt := fun k hk => ho.lt k hk
  have hst : St w (fun k => (av.ownBlock = some k ∨ dv.ownBlock = some k) ∨ rv.ownBlock = some k) b E last w2 :=
    h.st.mine (Turn.of_below hb) (fun k hk => by
      rcases hk with hk | hk
      · exact (h.al.lt k hk).1
      · exact (h.dn.lt k hk).1) (fun k hk => by
      rcases hk with hk | hk
      · refine ⟨.inl hk, Nat.lt_of_lt_of_le ?_ hb.size⟩
        rcases hk with hk | hk
        · exact (h.al.lt k hk).2
        · exact (h.dn.lt k hk).2
      · exact ⟨.inr (hvlt k hk).1, (hvlt k hk).2⟩)
  refine (hst.done x.num).mono ?_
  rintro e w' (⟨rfl, hno, -⟩ | ⟨q, y, rfl, hy, hyn, hfy, -⟩ | ⟨q, y, rfl, hy, hyn, hfy, hs, hk⟩)
  · exact absurd rfl (hno x (List.mem_of_getElem? hx))
  · obtain ⟨rfl, rfl⟩ := at_num h.st.up hy hx hyn
    rw [hf] at hfy; cases hfy
  · obtain ⟨rfl, rfl⟩ := at_num h.st.up hy hx hyn
    refine ⟨by rw [errV_zero], h2.table (hs.mine (Turn.refl _ _) (fun k hk => ?_) (fun k hk => ⟨.inl (.inl hk), ?_⟩)) (fun k o hk' ho' => hk k o (.inl hk') ho'), ho.same fun k o hk' ho' => hk k o (.inr hk') ho'⟩
    · rcases hk with (hk | hk) | hk
      · exact (h.al.lt k hk).1
      · exact (h.dn.lt k hk).1
      · have := (hvlt k hk).1; have := h.st.size; omega
    · obtain ⟨F, f1, f2, f3, f4, f5⟩ := hs
      exact f4 k (.inl hk)
/-- The pick. -/
theorem pick_in (q : Int) {m : Nat} (hm : 0 < m) : ∃ k : Nat, k < m ∧ (q.tmod (m : Int) + (m : Int)).tmod (m : Int) = (k : Int) := by
  have h1 : -(m : Int) < q.tmod (m : Int) := by
    have := Int.lt_tmod_of_pos q (b := (m : Int)) (by omega); omega
  have h2 : 0 ≤ (q.tmod (m : Int) + (m : Int)).tmod (m : Int) := Int.tmod_nonneg _ (by omega)
  have h3 : (q.tmod (m : Int) + (m : Int)).tmod (m : Int) < (m : Int) := Int.tmod_lt_of_pos _ (by omega)
  exact ⟨((q.tmod (m : Int) + (m : Int)).tmod (m : Int)).toNat, by omega, by omega⟩
theorem tmod_bounds (q : Int) {m : Nat} (hm : 0 < m) : -(m : Int) < q.tmod (m : Int) ∧ q.tmod (m : Int) < (m : Int) :=
  ⟨by have := Int.lt_tmod_of_pos q (b := (m : Int)) (by omega); omega, Int.tmod_lt_of_pos _ (by omega)⟩
end Go.Proofs.Ytjofbehmhdjohaa
