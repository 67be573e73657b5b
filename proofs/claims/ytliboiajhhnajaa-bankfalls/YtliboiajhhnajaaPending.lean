/- Pending by its contract. -/
import Derived.Test.YtliboiajhhnajaaWCore
import Derived.Test.YtliboiajhhnajaaShelf3
namespace Go.Proofs.Ytliboiajhhnajaa
open Go.RowKit Go.Extern Go.Maps Go.Sort Go.Shelf

/-- Sectors' numbers as ints. -/
def pendI (S : List Sec) : List Int := (pend S).map fun i : Nat => (i : Int)
theorem pendI_length (S : List Sec) : (pendI S).length = (pend S).length := by simp [pendI]
theorem pendI_sorted (S : List Sec) : (pendI S).mergeSort leI = pendI S := by
  refine List.mergeSort_of_pairwise ?_
  unfold pendI
  rw [List.pairwise_map]
  refine List.Pairwise.imp (R := fun a b : Nat => a < b) (fun h => by simp only [leI, decide_eq_true_eq]; omega) ?_
  exact List.Pairwise.filter _ List.pairwise_lt_range

theorem sortsA (m : Nat) : AnyZI.SortsIn Try.prog Try.sortedA_ren Fence.wide m :=
  ⟨fun blk off cap ss W hH hblk hsz => callsIn_wide.2 (AnyM.slices_Sort_int Try.sortA blk off cap ss W hH hblk hsz),
   fun p cap W => callsIn_wide.2 (AnyM.slices_Sort_int_none Try.sortA p cap W)⟩

/-- What Pending leaves: the numbers in a new slice. -/
def Pended (S : List Sec) (w : World) (e : Ending) (w' : World) : Prop := ∃ v, e = .returned v ∧ w'.ownsRow w.heap.size 3 1 v (pendI S).length ((pendI S).map (Value.int .i64)) ∧ Below w.heap.size w w'

set_option maxRecDepth 100000 in
set_option maxHeartbeats 1000000 in
theorem pending_any {w : World} {F : Nat → Prop} {b : Nat} {S : List Sec} (h : Dk w F b S) : Calls Try.prog 41 #[.pointer (some ⟨b, 0, none⟩)] w (Pended S w) := by
  obtain ⟨v, mb, D, h⟩ := h
  have c1 := two_cell1 h.blk
  have hown := h.map
  have hbl := hown.lt
  have hsize := map_size h.map h.keys
  have hpl := pend_length S
  have hgl := h.good.1
  have hmax : Maps.size D ≤ maxLen := by rw [hsize]; unfold maxLen; omega
  have hbytes : Maps.size D * 8 ≤ 140737488355328 := by omega
  obtain ⟨es, hes, hperm⟩ := keys_perm h.map h.keys
  have HP : Hid (∀ ss : List Int, ss.Perm (intKeys D) → ss.mergeSort (fun x y => decide (x ≤ y)) = pendI S ∧ ss.length = (pendI S).length) := fun ss hs => by
    have e : intKeys D = es.map fun p => litInt p.1 := by
      rw [hes]
      show es.map (fun p => Go.intOf p.1) = _
      refine List.map_congr_left fun p _ => ?_
      cases p.1 <;> rfl
    rw [e] at hs
    have h2 := hs.trans hperm
    exact ⟨(mergeSort_of_perm_i h2).trans (pendI_sorted S), h2.length_eq⟩
  refine (callsIn_wide (n := 6)).1 ?_
  have hseq : SeqGives Fence.wide 2 Try.prog 52 #[.pointer (some ⟨w.heap.size, 0, none⟩)] encZ (fun ss => ss.Perm (intKeys D)) (Maps.size D) (w.alloc (.cells #[.map (some mb)] 78)) :=
    AnyZI.keys_gives (ρ := Try.keysA_ren) { Try.keysA with } Fence.wide _ trivial rfl (by omega) w.heap.size mb (Maps.size D) D _ (by simp) (by simp) (by
      obtain ⟨es, clock, hb, Ft, hs, hD⟩ := hown
      exact ⟨es, clock, (Below.heap_alloc _ _ mb hbl).trans hb, Ft, hs, hD⟩)
  have cK : ∀ mv W, CallsIn Fence.wide 5 Try.prog 49 #[.map mv] W fun e w' => e = .returned (.func (.func 52) #[] #[.pointer (some ⟨W.heap.size, 0, none⟩)]) ∧ w' = W.alloc (.cells #[.map mv] 78) := fun mv W => AnyZI.keys_in Try.keysA Fence.wide 5 trivial rfl mv W
  have cS := AnyZI.sorted_in Try.sortedA Fence.wide 5 trivial trivial trivial trivial rfl (by omega) (sortsA _) (enters_of Try.func51 (by kernel_rfl) rfl) 52 #[.pointer (some ⟨w.heap.size, 0, none⟩)] trivial (enters_of Try.func52 (by kernel_rfl) rfl) _ _ hmax hbytes _ hseq
  change CallsIn _ _ Try.prog 48 _ _ _ at cS
  have hfK : Fence.wide.fn 49 := trivial
  have hfS : Fence.wide.fn 48 := trivial
  clear h hown hsize hpl hgl hmax hbytes hes hperm hseq hbl
  refine callsIn_of_wp Try.func41 rfl trivial ?_ rfl
  simp only [Try.ntmps41, List.size_toArray, List.length_cons, List.length_nil, Nat.reduceAdd, Nat.reduceSub, Array.replicate_succ, Array.replicate_zero, List.push_toArray, List.append_toArray, List.nil_append, List.cons_append]
  gi_wp2_with (first
    | (gi_at_call 49; refine (cK _ _).mono ?_; rintro e w' ⟨rfl, rfl⟩)
    | (gi_at_call 48; refine cS.mono ?_; rintro e w' ⟨v, ss, rfl, hS, hrow, hnil, hb⟩))
  go_ret
  obtain ⟨e1, e2⟩ := HP.out ss hS
  refine ⟨v, rfl, ?_, ((Below.refl _ w).alloc (Nat.le_refl _) _).trans (hb.mono (by simp))⟩
  rw [e1, e2] at hrow
  exact ownsRow_base_a hrow (by simp)
end Go.Proofs.Ytliboiajhhnajaa
