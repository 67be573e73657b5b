/- Clone, Sort, 'rising', by their contracts. -/
import Derived.Test.YtnkcebngfnailaaIi
import Derived.Test.YtnkcebngfnailaaSh
import Derived.Sort.OwnSortedInts
namespace Go.Proofs.Ytnkcebngfnailaa
open Go.RowKit Go.Extern Go.Sort

/-- The numbers, sorted. -/
def sortS (l : List Int) : List Int := l.mergeSort fun x y => decide (x ≤ y)
theorem sortS_perm (l : List Int) : (sortS l).Perm l := List.mergeSort_perm _ _
theorem sortS_length (l : List Int) : (sortS l).length = l.length := (sortS_perm l).length_eq
theorem sortS_up (l : List Int) : (sortS l).Pairwise (· ≤ ·) := by
  have := List.pairwise_mergeSort (le := fun x y : Int => decide (x ≤ y)) (fun a b c h1 h2 => by simp only [decide_eq_true_eq] at *; omega) (fun a b => by simp only [Bool.or_eq_true, decide_eq_true_eq]; omega) l
  exact this.imp fun h => by simpa using h
theorem sortS_same {l m : List Int} (h : l.Perm m) : sortS l = sortS m :=
  List.Perm.eq_of_pairwise (le := fun a b : Int => a ≤ b) (fun _ _ _ _ h1 h2 => Int.le_antisymm h1 h2) (sortS_up l) (sortS_up m) (((sortS_perm l).trans h).trans (sortS_perm m).symm)
/-- A list of addresses that is right. -/
def Rt (l : List Int) : Prop := (∀ k ∈ l, 1 ≤ k ∧ k < 32768) ∧ l.Nodup
theorem Rt.perm {l m : List Int} (h : l.Perm m) (hl : Rt l) : Rt m := ⟨fun k hk => hl.1 k (h.mem_iff.2 hk), h.nodup_iff.1 hl.2⟩
theorem Rt.sort {l : List Int} : Rt (sortS l) ↔ Rt l := ⟨Rt.perm (sortS_perm l), Rt.perm (sortS_perm l).symm⟩
/-- What 'rising' has seen so far. -/
def InvR (s : List Int) (j : Nat) (last : Int) : Prop := ((j = 0 ∧ last = 0) ∨ last ∈ s.take j) ∧ (∀ k ∈ s.take j, 1 ≤ k ∧ k < 32768 ∧ k ≤ last) ∧ (s.take j).Nodup
theorem InvR.start (s : List Int) : InvR s 0 0 := ⟨.inl ⟨rfl, rfl⟩, by simp, by simp⟩
theorem InvR.nonneg {s : List Int} {j : Nat} {last : Int} (h : InvR s j last) : 0 ≤ last ∧ last < 32768 := by
  rcases h.1 with h0 | h0
  · omega
  · have := h.2.1 _ h0; omega
theorem InvR.step {s : List Int} {j : Nat} {last p : Int} (h : InvR s j last) (hp : s[j]? = some p) (h1 : last < p) (h2 : p < 32768) : InvR s (j + 1) p := by
  have h0 := h.nonneg
  obtain ⟨-, hb, hc⟩ := h
  rw [InvR, take_snoc hp]
  refine ⟨.inr (by simp), fun k hk => ?_, ?_⟩
  · rcases List.mem_append.1 hk with hk | hk
    · have := hb k hk; omega
    · have := List.mem_singleton.1 hk; omega
  · rw [List.nodup_append]
    refine ⟨hc, by simp, fun a ha b hb2 e => ?_⟩
    have := hb a ha
    have := List.mem_singleton.1 hb2
    omega
theorem InvR.fails {s : List Int} {j : Nat} {last p : Int} (hs : s.Pairwise (· ≤ ·)) (h : InvR s j last) (hp : s[j]? = some p) (h1 : p ≤ last ∨ 32768 ≤ p) : ¬ Rt s := by
  intro hr
  have hpr := hr.1 p (List.mem_of_getElem? hp)
  obtain ⟨ha, hb, hc⟩ := h
  rcases ha with ha | ha
  · omega
  · have ht := take_snoc hp
    have hd : (s.take (j + 1)).Nodup := hr.2.sublist (List.take_sublist _ _)
    have hu : (s.take (j + 1)).Pairwise (· ≤ ·) := hs.sublist (List.take_sublist _ _)
    rw [ht, List.nodup_append] at hd
    rw [ht, List.pairwise_append] at hu
    have e1 := hu.2.2 _ ha p (by simp)
    have : last = p := by omega
    exact hd.2.2 _ ha p (by simp) this
theorem InvR.all {s : List Int} {last : Int} (h : InvR s s.length last) : Rt s := by
  obtain ⟨-, hb, hc⟩ := h
  rw [List.take_length] at hb hc
  exact ⟨fun k hk => by have := hb k hk; omega, hc⟩

/-- What Clone leaves. -/
def Clond (w : World) (l : List Int) (e : Ending) (w' : World) : Prop := ∃ v, e = .returned v ∧ OwnI w' w.heap.size v l ∧ Below w.heap.size w w'
set_option maxRecDepth 100000 in
set_option maxHeartbeats 1000000 in
theorem clone_any {w : World} {v : Value} {l : List Int} (hv : Ints w v l) (hl : l.length ≤ 1000) : Calls Try.prog 23 #[v] w (Clond w l) := by
  have hv' := hv
  obtain ⟨ao, cap, g, off, rfl, h2, h3, h5, h6, h7, h8⟩ := hv.1
  cases ao with
  | none =>
    have hc := h6 rfl
    have hn : l = [] := List.length_eq_zero_iff.1 (by simp at h7; omega)
    subst hn
    subst hc
    have q1 := Lib.run_eql_slice_nil (P := Try.prog) w 22 3 none 0 0 0 0 Try.underlying22
    clear hv hv' h2 h3 h5 h6 h7 h8 hl
    show Calls Try.prog 23 #[.slice none 0 0] w _
    go_enter Try.func23, Try.ntmps23
    go_wp2
    go_ret
    exact ⟨_, rfl, OwnI.nil _ _, Below.refl _ _⟩
  | some ad =>
    have hA := bel_alloc w (.cells #[] 3)
    obtain ⟨v', w', hap, hg⟩ := append_i (w.alloc (.cells #[] 3)) 22 w.heap.size _ _ [] l (OwnI.empty w w.heap.size (Nat.le_refl _)) (hv'.below hA) (by simp; omega) (by simp)
    rw [List.nil_append] at hg
    have HB := hide (hA.trans (hg.below (B := w.heap.size) (by simp) (fun k hk => by simp [Value.ownBlock] at hk; omega)))
    have HG := hide hg
    obtain ⟨a2, n2, c2, rfl, -⟩ := hg.own.form
    rw [List.length_map] at hap ⊢
    obtain ⟨n, hn⟩ : ∃ n, l.length = n := ⟨_, rfl⟩
    rw [hn] at hap ⊢
    have q1 := Lib.run_eql_slice_nil (P := Try.prog) w 22 3 (some ad) n cap 0 0 Try.underlying22
    clear hv hv' hA hg hl hn h2 h3 h5 h6 h7 h8
    go_enter Try.func23, Try.ntmps23
    go_wp2_with (at_builtin; refine wpList_append_eq rfl _ _ rfl rfl rfl hap ?_)
    go_ret
    exact ⟨_, rfl, HG.out.own, HB.out⟩
theorem map_encI (l : List Int) : l.map encI = l.map (Value.int .i64) := rfl
/-- What Sort leaves. -/
def Srtd (w : World) (base : Nat) (v : Value) (l : List Int) (e : Ending) (w' : World) : Prop := e = .returned (.tuple #[]) ∧ OwnI w' base v (sortS l) ∧ w.grownBy w' v.ownBlock
theorem sort_any {w : World} {base : Nat} {v : Value} {l : List Int} (hv : OwnI w base v l) : Calls Try.prog 27 #[v] w (Srtd w base v l) := by
  have hI : ∀ k ∈ sortS l, I64 k := fun k hk => hv.2.1 k ((sortS_perm l).mem_iff.1 hk)
  have hL : (sortS l).length ≤ 10000 := by rw [sortS_length]; exact hv.2.2
  obtain ⟨⟨h1, h2⟩, h3, h4⟩ := hv
  rcases h2 with ⟨rfl, hz⟩ | ⟨g, cap, cur, rfl, hg, hh, hc, hm, hs, ht⟩
  · have e0 : l = [] := List.length_eq_zero_iff.1 hz
    subst e0
    refine (AnyM.slices_Sort_int_none Try.sortA none 0 w).mono ?_
    rintro e w' ⟨rfl, rfl⟩
    exact ⟨rfl, by have : sortS [] = [] := by simp [sortS]
                   rw [this]; exact OwnI.nil _ _, grownBy_refl _ _⟩
  · rw [Nat.mul_one] at ht
    refine (AnyM.slices_Sort_int Try.sortA g 0 cap l w (holds_of_blockI hh ht) (heap_lt hh) (by omega)).mono ?_
    rintro e w' ⟨rfl, n, os, rfl⟩
    refine ⟨rfl, ⟨?_, hI, hL⟩, grownBy_sortedI _⟩
    have := ownsRow_sortedI (n := n) (os := os) (base := base) (ss := l) (ts := sortS l) (sortS_length l) hg hh hc hm hs
    rw [sortS_length]
    exact this
/-- What 'rising' leaves. -/
def Risd (w : World) (l : List Int) (e : Ending) (w' : World) : Prop :=
  ((Rt l ∧ ∃ v, e = .returned (.tuple #[v, .nilIface]) ∧ Ints w' v (sortS l)) ∨ (¬ Rt l ∧ e = .returned (.tuple #[.slice none 0 0, .iface 51 (.int .i64 110)]))) ∧ Below w.heap.size w w'
set_option maxRecDepth 100000 in
set_option maxHeartbeats 2000000 in
theorem rising_any {w : World} {v : Value} {l : List Int} (hv : Ints w v l) (hl : l.length ≤ 1000) : Calls Try.prog 20 #[v] w (Risd w l) := by
  have hC := clone_any hv hl
  have HL := hide hl
  obtain ⟨a0, n0, c0, rfl, -⟩ := hv.form
  clear hv hl
  go_enter Try.func20, Try.ntmps20
  go_wp2_with fail
  refine hC.mono ?_
  rintro e w1 ⟨v1, rfl, ho1, hb1⟩
  have HB1 := hide hb1
  have HO1 := hide ho1
  have hS := sort_any ho1
  obtain ⟨a1, n1, c1, rfl, -⟩ := ho1.form
  clear hb1 ho1 hC
  go_wp2_with fail
  refine hS.mono ?_
  rintro e w2 ⟨rfl, ho2, hg2⟩
  have HB2 := hide (HB1.out.trans ((Below.refl _ w1).grown hg2 HB1.out.size (fun k hk => (HO1.out.lt k hk).1)))
  have hi := ho2.ints
  have HI := hide hi
  have h5 := hi.len
  obtain ⟨s, hs⟩ : ∃ s, sortS l = s := ⟨_, rfl⟩
  have HSL : Hid (sortS l = s) := hs
  rw [hs] at hi HI h5
  obtain ⟨ao, cap, g, off, ev, h2, h3⟩ := hi.at_
  cases ev
  have H2 := hide h2
  have H3 := hide h3
  obtain ⟨n, hn⟩ : ∃ n, s.length = n := ⟨_, rfl⟩
  rw [hn] at h5 HI ⊢
  have HN := hide hn
  clear ho2 hg2 hS HB1 HO1 hi h2 h3 hn hs
  go_wp2_with fail
  go_loopg [5, 14] n (fun k la i wr => ∃ (j : Nat) (last : Int), j + k = n ∧ la = .int .i64 last ∧ i = .int .i64 (j : Int) ∧ Hid (InvR s j last) ∧ wr = w2)
  case atStart => exact ⟨0, 0, by omega, rfl, rfl, hide (InvR.start s), rfl⟩
  case round =>
    obtain ⟨j, last, hj, rfl, rfl, HA, rfl⟩ := hrel
    cases gk with
    | zero =>
      have hnl : ¬ (j : Int) < (n : Int) := by omega
      have hjn : Hid (j = n) := by show _ = _; omega
      go_wp2_with fail
      go_ret2
      refine ⟨.inl ⟨?_, _, rfl, ?_⟩, HB2.out⟩
      · have h := HA.out
        rw [hjn.out, ← HN.out] at h
        have := h.all
        rw [← HSL.out] at this
        exact Rt.sort.1 this
      · rw [HSL.out]; exact HI.out
    | succ m =>
      have hlt : (j : Int) < (n : Int) := by omega
      have hb0 : (0 : Int) ≤ (j : Int) := by omega
      obtain ⟨p, he⟩ : ∃ e, s[j]? = some e := ⟨s[j]'(by rw [HN.out]; omega), by rw [List.getElem?_eq_getElem]⟩
      obtain rfl := H2.out (by rw [HN.out]; omega)
      have k0 := H3.out j p he
      have HE := hide he
      have hj63 : (j : Int) + 1 < 140737488355328 + 1 := by omega
      clear he
      have HBAD : Hid ((p ≤ last ∨ 32768 ≤ p) → ¬ Rt l) := hide (fun h hr => InvR.fails (by rw [← HSL.out]; exact sortS_up l) HA.out HE.out h (by rw [← HSL.out]; exact Rt.sort.2 hr))
      by_cases c1 : p ≤ last
      · go_wp2_with fail
        go_ret2
        exact ⟨.inr ⟨HBAD.out (.inl c1), rfl⟩, HB2.out⟩
      · by_cases c2 : 32768 ≤ p
        · go_wp2_with fail
          go_ret2
          exact ⟨.inr ⟨HBAD.out (.inr c2), rfl⟩, HB2.out⟩
        · go_wp2_with fail
          go_roundg m
          case measure => omega
          case rel => exact ⟨j + 1, p, by omega, rfl, by simp, hide (HA.out.step HE.out (by omega) (by omega)), rfl⟩
end Go.Proofs.Ytnkcebngfnailaa
