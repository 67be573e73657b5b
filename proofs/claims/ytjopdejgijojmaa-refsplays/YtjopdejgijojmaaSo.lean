/- slices.SortFunc and slices.SortedFunc at owners. -/
import Derived.Test.YtjopdejgijojmaaCo
namespace Go.Proofs.Ytjopdejgijojmaa
open Go.RowKit Go.Extern Go.Sort Go.Shelf Go.Lib

theorem swoO : SWO (ltOf cmpO) where
  irrefl x := by unfold ltOf; rw [cmpO_lt]; exact ltO_irrefl x
  trans x y z h1 h2 := by unfold ltOf at *; rw [cmpO_lt] at *; exact ltO_trans h1 h2
  ntrans x y z h1 h2 := by
    unfold ltOf at *
    rw [cmpO_lt] at *
    cases h : ltO x z with
    | false => rfl
    | true =>
      by_cases e : x = y
      · rw [e] at h; rw [h] at h2; cases h2
      · have := ltO_false h1 e
        have := ltO_trans this h
        rw [this] at h2; cases h2
theorem ltOf_cmp (x y : Own) : ltOf cmpO x y = ltO x y := by unfold ltOf; exact cmpO_lt x y
theorem ownsC_get : ∀ (ss : List Own) (t : Nat), t < ss.length * 2 → (ownsC ss)[t]? = some ((ownC ss.toArray[t / 2]!)[t % 2]!)
  | [], t, h => by simp at h
  | o :: r, 0, _ => by simp [ownsC, ownC]
  | o :: r, 1, _ => by simp [ownsC, ownC]
  | o :: r, t + 2, h => by
    have ih := ownsC_get r t (by simp at h; omega)
    have e1 : (t + 2) / 2 = t / 2 + 1 := by omega
    have e2 : (t + 2) % 2 = t % 2 := by omega
    have e3 : ownsC (o :: r) = (Value.int .i64 o.1) :: (Value.int .i64 o.2) :: ownsC r := rfl
    rw [e1, e2, e3]
    simp only [List.getElem?_cons_succ]
    rw [ih]
    simp
theorem flat_eq (ss : List Own) : flatK ownC 2 ss.toArray = (ownsC ss).toArray := by
  apply Array.ext_getElem?
  intro t
  have e : (ownsC ss).toArray[t]? = (ownsC ss)[t]? := by simp
  rw [e]
  by_cases h : t < ss.length * 2
  · rw [ownsC_get ss t h]
    simp [flatK, h]
  · have e2 : (ownsC ss)[t]? = none := List.getElem?_eq_none (by rw [ownsC_length]; omega)
    rw [e2]
    exact Array.getElem?_eq_none (by rw [size_flatK]; simp; omega)
theorem take_putId (cur : Array Value) (ts : List Value) (h : ts.length ≤ cur.size) : (putCells id 0 ts.toArray cur).toList.take ts.length = ts := by
  apply List.ext_getElem?
  intro j
  by_cases hj : j < ts.length
  · rw [List.getElem?_take_of_lt hj, Array.getElem?_toList]
    simp [putCells, hj, show j < cur.size by omega]
  · rw [List.getElem?_take_eq_none (by omega), List.getElem?_eq_none (by omega)]
theorem enterCompare (args : Array Value) (w : World) : (callFunc 33 args).run Try.prog w = .ok (.enter 33 args) w := by kernel_rfl

/-- Owners of one's own are sorted. -/
theorem sortO_any {w : World} {base : Nat} {v : Value} {ss : List Own} (h : w.ownsRow base 35 2 v ss.length (ownsC ss)) (hn : ss.Nodup) (hl : ss.length ≤ 10000000) :
    Calls Try.prog 40 #[v, .func (.func 33) #[] #[]] w fun e w' => e = .returned (.tuple #[]) ∧ ∃ ts, SrtO ts ∧ ts.Perm ss ∧ w'.ownsRow base 35 2 v ts.length (ownsC ts) ∧ w.grownBy w' v.ownBlock := by
  rcases h.2 with ⟨rfl, h0⟩ | ⟨g, cap, cur, rfl, hg, hh, hc, hm, hs, ht⟩
  · have e0 : ss = [] := List.length_eq_zero_iff.1 h0
    subst e0
    have hcon := AnyF.slices_SortFunc_none { Try.sortO with } none 0 (.func (.func 33) #[] #[]) w
    change Calls Try.prog 40 _ _ _ at hcon
    refine hcon.mono ?_
    rintro e w' ⟨rfl, rfl⟩
    exact ⟨rfl, [], List.Pairwise.nil, List.Perm.refl _, h, grownBy_refl _ _⟩
  · have hH : HoldsK ownC 2 w g 0 ss.toArray := by
      unfold HoldsK
      rw [flat_eq]
      intro j hj
      have hj' : j < ss.length * 2 := by rw [← ownsC_length]; simpa using hj
      refine ⟨?_, by simp [World.frozen?, hh]⟩
      have h1 : (cur.toList.take (ss.length * 2))[j]? = (ownsC ss)[j]? := by rw [ht]
      rw [List.getElem?_take_of_lt hj'] at h1
      simp only [World.cell?, hh, Nat.zero_add]
      simp only [Option.isSome_none, Bool.false_eq_true, if_false]
      rw [← Array.getElem?_toList, h1, List.getElem?_eq_getElem (by rw [ownsC_length]; exact hj')]
      simp [hj', ownsC_length]
    have hcon := AnyQ.slices_SortFunc_total Try.sortO 2 Try.isAgg35 Try.sizeOf35 ownC (fun _ => rfl) (fun x u hu => by simp [ownC] at hu; rcases hu with rfl | rfl <;> rfl) cmpO swoO 33 #[] g 0 cap ss.toArray w enterCompare (fun _ _ _ _ x y => compare_any x y _) hH (heap_lt hh) (by simp; omega) (fun x y h1 h2 => by
      rw [ltOf_cmp] at h1 h2
      exact Classical.byContradiction (fun hne => by have := ltO_false h1 hne; rw [this] at h2; cases h2))
    change Calls Try.prog 40 _ _ _ at hcon
    simp only [List.size_toArray] at hcon
    refine hcon.mono ?_
    rintro e w' ⟨rfl, n, os, rfl⟩
    obtain ⟨ts, hts⟩ : ∃ ts, ss.mergeSort (fun x y => !ltOf cmpO y x) = ts := ⟨_, rfl⟩
    rw [hts]
    have hp : ts.Perm ss := by rw [← hts]; exact List.mergeSort_perm _ _
    have hpw : ts.Pairwise (fun x y => (!ltOf cmpO y x) = true) := by
      rw [← hts]
      refine List.pairwise_mergeSort (fun a b c h1 h2 => ?_) (fun a b => ?_) _
      · simp only [ltOf_cmp, Bool.not_eq_true'] at h1 h2 ⊢
        cases h : ltO c a with
        | false => rfl
        | true =>
          by_cases e : c = b
          · rw [e] at h; rw [h] at h1; cases h1
          · have := ltO_trans (ltO_false h2 e) h
            rw [this] at h1; cases h1
      · simp only [ltOf_cmp]
        cases h : ltO b a with
        | false => rfl
        | true => simp [ltO_asym h]
    have hnd : ts.Nodup := hp.nodup_iff.2 hn
    have hsrt : SrtO ts := by
      rw [List.nodup_iff_pairwise_ne] at hnd
      refine (List.Pairwise.and hpw hnd).imp (fun {a b} hab => ?_)
      obtain ⟨h1, h2⟩ := hab
      simp only [ltOf_cmp, Bool.not_eq_true'] at h1
      exact ltO_false h1 (Ne.symm h2)
    have hlen : ts.length = ss.length := hp.length_eq
    refine ⟨rfl, ts, hsrt, hp, ⟨by rw [ownsC_length], .inr ⟨g, cap, putCells id 0 (ownsC ts).toArray cur, by rw [hlen], hg, ?_, by omega, hm, by simp [putCells, hs], ?_⟩⟩, ?_⟩
    · unfold sortWorldK putRowK
      rw [flat_eq, heap_grow_old _ _ (by simpa using heap_lt hh)]
      simp [putRow, mapBlock, Sort.ahead, Array.getElem?_modify, hh, onCells]
    · rw [← ownsC_length]
      exact take_putId cur (ownsC ts) (by rw [ownsC_length, hs, hlen]; omega)
    · unfold sortWorldK putRowK
      refine ⟨rfl, rfl, rfl, by simp, fun k hk hne => ?_⟩
      rw [heap_grow_old _ _ (by simpa using hk)]
      have : g ≠ k := fun e => hne (by rw [← e]; rfl)
      simp [putRow, mapBlock, Sort.ahead, Array.getElem?_modify, this]

set_option maxRecDepth 100000 in
set_option maxHeartbeats 1000000 in
theorem collectO {n gf : Nat} {lb : Array Value} (hn : 3 ≤ n) (eg : ∀ args w, (callFunc gf args).run Try.prog w = .ok (.enter gf args) w) {S : List Own → Prop} {N : Nat} (hN : N ≤ 1000000) {w : World} (hseq : SeqStops Fence.wide (n - 1 - 1) Try.prog gf lb encO S (fun _ => True) N w) :
    CallsIn Fence.wide n Try.prog 44 #[.func (.func gf) #[] lb] w fun e w' => ∃ (v : Value) (ss : List Own), e = .returned v ∧ S ss ∧ w'.ownsRow w.heap.size 35 2 v ss.length (ownsC ss) ∧ (v = .slice none 0 0 ↔ ss = []) ∧ Below w.heap.size w w' := by
  have hA := appendSeqO (n := n - 1) (by omega) eg hN hseq
  have hf : Fence.wide.fn 54 := trivial
  have h1 : 1 ≤ n := by omega
  clear hseq
  refine callsIn_of_wp Try.func44 rfl trivial ?_ rfl
  simp only [Try.ntmps44, List.size_toArray, List.length_cons, List.length_nil, Nat.reduceAdd, Nat.reduceSub, Array.replicate_succ, Array.replicate_zero, List.push_toArray, List.append_toArray, List.nil_append, List.cons_append]
  gi_wp2_with (gi_at_call 54; refine hA.mono ?_; rintro e w' ⟨v, ss, rfl, hS, hrow, hnil, hb⟩)
  go_ret
  exact ⟨v, ss, rfl, hS, hrow, hnil, hb⟩

/-- What an iterator gives, sorted, in new memory. -/
def SortedO (w : World) (l : List Own) (e : Ending) (w' : World) : Prop := ∃ v, e = .returned v ∧ w'.ownsRow w.heap.size 35 2 v l.length (ownsC l) ∧ Below w.heap.size w w'
set_option maxRecDepth 100000 in
set_option maxHeartbeats 1000000 in
theorem sortedO {gf : Nat} {lb : Array Value} (eg : ∀ args w, (callFunc gf args).run Try.prog w = .ok (.enter gf args) w) {l : List Own} (hl : SrtO l) {l' : List Own} (hp : l'.Perm l) {N : Nat} (hN : N ≤ 1000000) (hll : l.length ≤ 1000000) {w : World} (hseq : SeqStops Fence.wide 2 Try.prog gf lb encO (fun ss => ss.Perm l') (fun _ => True) N w) :
    Calls Try.prog 31 #[.func (.func gf) #[] lb, .func (.func 33) #[] #[]] w (SortedO w l) := by
  have hC := callsIn_wide.1 (collectO (n := 4) (by omega) eg hN hseq)
  clear hseq
  go_enter Try.func31, Try.ntmps31
  go_wp2_with (first
    | (go_at_call 44; refine hC.mono ?_; rintro e w1 ⟨v, ss, rfl, hS, hrow, hnil, hb⟩
       have hnd : ss.Nodup := (hS.trans hp).nodup_iff.2 hl.nodup
       have hlen : ss.length ≤ 10000000 := by rw [(hS.trans hp).length_eq]; omega
       have hSo := sortO_any hrow hnd hlen
       obtain ⟨ao, cap, rfl⟩ := ownsRow_form hrow
       have HR := hide hrow
       have HS := hide hS
       clear hrow hS hnil hnd hlen)
    | (go_at_call 40; refine hSo.mono ?_; rintro e w2 ⟨rfl, ts, h1, h2, h3, h4⟩))
  go_ret
  have e : ts = l := h1.ext hl (fun o => by rw [h2.mem_iff, HS.out.mem_iff, hp.mem_iff])
  subst e
  refine ⟨_, rfl, h3, hb.grown h4 hb.size (fun k e => ?_)⟩
  exact (HR.out.lt k e).1
end Go.Proofs.Ytjopdejgijojmaa
