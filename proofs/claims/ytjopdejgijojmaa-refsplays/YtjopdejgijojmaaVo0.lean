/- What the law RefsVolumes leans on. -/
import Derived.Test.YtjopdejgijojmaaRp
namespace Go.Proofs.Ytjopdejgijojmaa
open Go.RowKit Go.Extern

theorem fldQ0 (b i : Nat) (w : World) : (Instr.fieldAt 28 (.pointer (some ⟨b, i, none⟩)) 0).run Try.prog w = .ok (.pointer (some ⟨b, i, none⟩)) w := by kernel_rfl
theorem fldQ1 (b i : Nat) (w : World) : (Instr.fieldAt 28 (.pointer (some ⟨b, i, none⟩)) 1).run Try.prog w = .ok (.pointer (some ⟨b, i + 1, none⟩)) w := by kernel_rfl
theorem fldQ2 (b i : Nat) (w : World) : (Instr.fieldAt 28 (.pointer (some ⟨b, i, none⟩)) 2).run Try.prog w = .ok (.pointer (some ⟨b, i + 2, none⟩)) w := by kernel_rfl
theorem len_refs (w : World) (a : Option Addr) (n c : Nat) : (Builtin.len_ #[26] 3 #[.slice a n c]).run Try.prog w = .ok (.int .i64 (n : Int)) w := by kernel_rfl
/-- How many pairs have a volume that came already. -/
def volCnt (l : List Ref) (i : Nat) : Nat := (l.filter (fun r => (l.take i).any (fun y => y.1.1 == r.1.1))).length
theorem volCnt_zero (l : List Ref) : volCnt l 0 = 0 := by simp [volCnt]
theorem volCnt_all (l : List Ref) {i : Nat} (h : l.length ≤ i) : volCnt l i = l.length := by
  unfold volCnt
  rw [List.take_of_length_le h, List.filter_eq_self.2 (fun r hr => List.any_eq_true.2 ⟨r, hr, by simp⟩)]
theorem volCnt_mid {l : List Ref} {i : Nat} {x : Ref} (hx : l[i]? = some x) (hm : ∃ y ∈ l.take i, y.1.1 = x.1.1) : volCnt l (i + 1) = volCnt l i := by
  unfold volCnt
  have e : l.filter (fun r => (l.take (i + 1)).any (fun y => y.1.1 == r.1.1)) = l.filter (fun r => (l.take i).any (fun y => y.1.1 == r.1.1)) := by
    refine List.filter_congr (fun r _ => ?_)
    rw [take_snoc hx, List.any_append]
    simp only [List.any_cons, List.any_nil, Bool.or_false]
    cases h : (x.1.1 == r.1.1) with
    | false => simp
    | true =>
      obtain ⟨y, hy, e⟩ := hm
      have : (l.take i).any (fun y => y.1.1 == r.1.1) = true := List.any_eq_true.2 ⟨y, hy, by rw [e]; exact h⟩
      rw [this]; rfl
  rw [e]
theorem filter_or_length {α : Type} (p q : α → Bool) : ∀ (l : List α), (∀ x ∈ l, p x = true → q x = false) → (l.filter (fun x => p x || q x)).length = (l.filter p).length + (l.filter q).length
  | [], _ => rfl
  | a :: t, h => by
    have ih := filter_or_length p q t (fun x hx => h x (by simp [hx]))
    have ha := h a (by simp)
    simp only [List.filter_cons]
    cases hp : p a with
    | true => rw [ha hp]; simp [ih]; omega
    | false =>
      cases hq : q a with
      | true => simp [ih]; omega
      | false => simp [ih]
theorem volCnt_new {l : List Ref} {i : Nat} {x : Ref} (hx : l[i]? = some x) (hm : ∀ y ∈ l.take i, y.1.1 ≠ x.1.1) : volCnt l (i + 1) = volCnt l i + (volS l x.1.1).length := by
  unfold volCnt volS
  have e : (l.filter (fun r => (l.take (i + 1)).any (fun y => y.1.1 == r.1.1))) = l.filter (fun r => (l.take i).any (fun y => y.1.1 == r.1.1) || decide (r.1.1 = x.1.1)) := by
    refine List.filter_congr (fun r _ => ?_)
    rw [take_snoc hx, List.any_append]
    simp only [List.any_cons, List.any_nil, Bool.or_false]
    congr 1
    exact Bool.eq_iff_iff.2 (by simp; exact ⟨Eq.symm, Eq.symm⟩)
  rw [e, filter_or_length, List.length_map]
  intro r _ h
  obtain ⟨y, hy, h2⟩ := List.any_eq_true.1 h
  have h3 : y.1.1 = r.1.1 := by simpa using h2
  simpa using (fun h4 : r.1.1 = x.1.1 => hm y hy (by rw [h3, h4]))
/-- Ahead of the first pair of a volume there is none of it. -/
theorem grp_new {l : List Ref} (h : Srt l) {i : Nat} {x : Ref} (hx : l[i]? = some x) (hp : ∀ p, 0 < i → l[i - 1]? = some p → p.1.1 ≠ x.1.1) : ∀ y ∈ l.take i, y.1.1 < x.1.1 := by
  intro y hy
  obtain ⟨n, hn, rfl⟩ := List.mem_iff_getElem.1 hy
  have hn1 : n < i := by simp at hn; omega
  have hn2 : n < l.length := by simp at hn; omega
  rw [List.getElem_take]
  obtain ⟨hi, rfl⟩ := List.getElem?_eq_some_iff.1 hx
  have hq : l[i - 1]? = some (l[i - 1]'(by omega)) := by rw [List.getElem?_eq_getElem]
  have h1 := hp _ (by omega) hq
  have h2 := List.pairwise_iff_getElem.1 h (i - 1) i (by omega) hi (by omega)
  rw [ltO_iff] at h2
  have h3 : (l[i - 1]'(by omega)).1.1 < l[i].1.1 := by omega
  by_cases e : n = i - 1
  · subst e; exact h3
  · have h4 := List.pairwise_iff_getElem.1 h n (i - 1) hn2 (by omega) (by omega)
    rw [ltO_iff] at h4
    omega
theorem grp_at {l : List Ref} (h : Srt l) {i : Nat} {x : Ref} (hx : l[i]? = some x) (hm : ∀ y ∈ l.take i, y.1.1 < x.1.1) {k : Nat} {o : Own} (ho : (volS l x.1.1)[k]? = some o) : l[i + k]? = some (o, ofS l o) := by
  have e0 : l = l.take i ++ l.drop i := (List.take_append_drop i l).symm
  have f1 : (l.take i).filter (fun r => decide (r.1.1 = x.1.1)) = [] := List.filter_eq_nil_iff.2 (fun r hr => by have := hm r hr; simp; omega)
  have e1 : volS l x.1.1 = ((l.drop i).filter (fun r => decide (r.1.1 = x.1.1))).map Prod.fst := by
    unfold volS
    conv => lhs; rw [e0]
    rw [List.filter_append, f1]; rfl
  -- behind the first one those of the volume stand first
  have key : ∀ (m : List Ref), Srt m → (∀ r ∈ m, x.1.1 ≤ r.1.1) → ∀ (k : Nat) (r : Ref), (m.filter (fun r => decide (r.1.1 = x.1.1)))[k]? = some r → m[k]? = some r := by
    intro m
    induction m with
    | nil => intro _ _ k r hk; simp at hk
    | cons a t ih =>
      intro hs hle k r hk
      obtain ⟨h1, h2⟩ := List.pairwise_cons.1 hs
      by_cases ha : a.1.1 = x.1.1
      · rw [List.filter_cons_of_pos (by simpa using ha)] at hk
        cases k with
        | zero => simpa using hk
        | succ k =>
          simp only [List.getElem?_cons_succ] at hk ⊢
          exact ih h2 (fun r hr => hle r (by simp [hr])) k r hk
      · have hall : ∀ r ∈ t, r.1.1 ≠ x.1.1 := fun r hr e => by
          have h3 := h1 r hr
          rw [ltO_iff] at h3
          have h4 := hle a (by simp)
          omega
        rw [List.filter_cons_of_neg (by simpa using ha), List.filter_eq_nil_iff.2 (fun r hr => by simpa using hall r hr)] at hk
        simp at hk
  rw [e1, List.getElem?_map] at ho
  obtain ⟨r, hr, rfl⟩ := Option.map_eq_some_iff.1 ho
  have hle : ∀ r ∈ l.drop i, x.1.1 ≤ r.1.1 := fun r hr => by
    obtain ⟨n, hn, rfl⟩ := List.mem_iff_getElem.1 hr
    rw [List.getElem_drop]
    obtain ⟨hi, rfl⟩ := List.getElem?_eq_some_iff.1 hx
    by_cases e : n = 0
    · subst e; simp
    · have h4 := List.pairwise_iff_getElem.1 h i (i + n) hi (by simp at hn; omega) (by omega)
      rw [ltO_iff] at h4
      omega
  have h5 := key (l.drop i) (List.Pairwise.sublist (List.drop_sublist i l) h) hle k r hr
  rw [List.getElem?_drop] at h5
  rw [h5, ofS_mem h (a := r.2) (List.mem_of_getElem? h5)]
/-- What stands while the owners of a volume are looked through. -/
structure S5 (w : World) (F : Nat → Prop) (b : Nat) (l : List Ref) (ao : Option Addr) (g : Nat) (m : List Own) (aoH : Option Addr) (gH : Nat) (x : Nat) (o : Own) (wx : World) : Prop where
  rf : Rf wx F b l none
  os : OwnsAt F wx ao g m
  hv : RefsAt F wx aoH gH 0 l
  bx : BoxO wx x o
  bel : Below w.heap.size w wx
theorem S5.below {w : World} {F : Nat → Prop} {b : Nat} {l : List Ref} {ao : Option Addr} {g : Nat} {m : List Own} {aoH : Option Addr} {gH : Nat} {x : Nat} {o : Own} {wx wy : World} (h : S5 w F b l ao g m aoH gH x o wx) (hb : Below wx.heap.size wx wy) : S5 w F b l ao g m aoH gH x o wy :=
  ⟨h.rf.below hb, h.os.below hb, h.hv.below hb, h.bx.below hb, h.bel.trans (hb.mono h.bel.size)⟩
end Go.Proofs.Ytjopdejgijojmaa
