/- Owners, Addrs, Volume. -/
import Derived.Test.YtjopdejgijojmaaSo
import Derived.Test.YtjopdejgijojmaaPt
namespace Go.Proofs.Ytjopdejgijojmaa
open Go.RowKit Go.Extern Go.Sort Go.Shelf Go.Lib

theorem enterKeysS1 (args : Array Value) (w : World) : (callFunc 51 args).run Try.prog w = .ok (.enter 51 args) w := by kernel_rfl
theorem enterKeysN1 (args : Array Value) (w : World) : (callFunc 45 args).run Try.prog w = .ok (.enter 45 args) w := by kernel_rfl
theorem enterKeysA1 (args : Array Value) (w : World) : (callFunc 50 args).run Try.prog w = .ok (.enter 50 args) w := by kernel_rfl
theorem SortedO.wide {w w1 : World} {l : List Own} {e : Ending} {w' : World} (h : SortedO w1 l e w') (hb : Below w.heap.size w w1) : SortedO w l e w' := by
  obtain ⟨v, rfl, h1, h2⟩ := h
  exact ⟨v, rfl, ownsRow_base h1 hb.size, hb.trans (h2.mono hb.size)⟩
theorem setL_fst (l : List Own) : (setL l).map Prod.fst = l := by simp [setL, Function.comp_def]
theorem byS_length (l : List Ref) (a : Int) : (byS l a).length ≤ l.length := by unfold byS; rw [List.length_map]; exact List.length_filter_le _ _
theorem volS_length (l : List Ref) (a : Int) : (volS l a).length ≤ l.length := by unfold volS; rw [List.length_map]; exact List.length_filter_le _ _

set_option maxRecDepth 100000 in
set_option maxHeartbeats 1000000 in
theorem owners_any {w : World} {F : Nat → Prop} {b : Nat} {l : List Ref} {was : Option (List Ref)} (h : Rf w F b l was) {a : Int} (hI : I64 a) (hl : l.length ≤ 1000000) :
    Calls Try.prog 20 #[.pointer (some ⟨b, 0, none⟩), .int .i64 a] w (SortedO w (byS l a)) := by
  obtain ⟨E, bn, bo, A, sv, h, -⟩ := h
  have c1 := h.c1
  have hlen := byS_length l a
  by_cases hex : ∃ p ∈ A, p.1 = a
  · obtain ⟨⟨a', sb⟩, hp, e⟩ := hex
    simp only at e
    subst e
    have lk := h.ow.look_in (P := Try.prog) KI uA hp false
    simp only [Bool.false_eq_true, if_false, encI, encM] at lk
    have hb1 : Below w.heap.size w (w.alloc (.cells #[.map (some sb)] 83)) := below_box _ _
    have hm : MapIs encO OkO encE (w.alloc (.cells #[.map (some sb)] 83)) sb (setL (byS l a')) := (h.st _ hp).of_block (fun _ ho => by rw [hb1.block _ (h.st _ hp).lt]; exact ho)
    have hseq := keysS_stops (Bm := w.heap.size) 2 (by omega) (by simp) hm
    rw [setL_fst] at hseq
    have hS := sortedO enterKeysS1 (srt_byS h.ok.srt a') (List.Perm.refl _) (by rw [setL_length]; omega) (by omega) hseq
    have hK := keysS_any (some sb) w
    clear h hp hm hseq hlen
    have HB1 := hide hb1
    clear hb1
    go_enter Try.func20, Try.ntmps20
    go_wp2_with (first
      | (go_at_call 39; refine hK.mono ?_; rintro e w' ⟨rfl, rfl⟩)
      | (go_at_call 31; refine hS.mono ?_; intro e w2 hs2; obtain ⟨v, rfl, hv1, hv2⟩ := hs2.wide HB1.out; obtain ⟨ao, cap, rfl⟩ := ownsRow_form hv1))
    go_ret
    exact ⟨_, rfl, hv1, hv2⟩
  · have hna : ∀ p ∈ A, p.1 ≠ a := fun p hp e => hex ⟨p, hp, e⟩
    have lk := h.ow.look_out (P := Try.prog) KI uA (zeroS _) hI hna false
    simp only [Bool.false_eq_true, if_false, encI] at lk
    have e0 : byS l a = [] := Classical.byContradiction (fun hx => hex ((h.all a).1 hx))
    rw [e0]
    have hb1 : Below w.heap.size w (w.alloc (.cells #[.map none] 83)) := below_box _ _
    have hS := sortedO enterKeysS1 (l := []) List.Pairwise.nil (List.Perm.refl _) (by omega) (by simp) (keysS_nil (Bm := w.heap.size) (w := w.alloc (.cells #[.map none] 83)) 2 (by simp))
    have hK := keysS_any none w
    have HB1 := hide hb1
    clear h hna hex e0 hlen hb1
    go_enter Try.func20, Try.ntmps20
    go_wp2_with (first
      | (go_at_call 39; refine hK.mono ?_; rintro e w' ⟨rfl, rfl⟩)
      | (go_at_call 31; refine hS.mono ?_; intro e w2 hs2; obtain ⟨v, rfl, hv1, hv2⟩ := hs2.wide HB1.out; obtain ⟨ao, cap, rfl⟩ := ownsRow_form hv1))
    go_ret
    exact ⟨_, rfl, hv1, hv2⟩

/-- The addresses that are named, rising. -/
def IsAddrs (l : List Ref) (ns : List Int) : Prop := ns.Pairwise (fun a b => a < b) ∧ ∀ x, x ∈ ns ↔ ∃ o, (o, x) ∈ l
theorem IsAddrs.unique {l : List Ref} {ns ms : List Int} (h : IsAddrs l ns) (h' : IsAddrs l ms) : ns = ms := by
  have n1 : ns.Nodup := by rw [List.nodup_iff_pairwise_ne]; exact h.1.imp (fun h => by omega)
  have n2 : ms.Nodup := by rw [List.nodup_iff_pairwise_ne]; exact h'.1.imp (fun h => by omega)
  refine List.Perm.eq_of_pairwise (le := fun a b => a < b) (fun a b _ _ h1 h2 => by omega) h.1 h'.1 ((List.perm_ext_iff_of_nodup n1 n2).2 (fun x => ?_))
  rw [h.2, h'.2]
theorem sortsA (m : Nat) : AnyZI.SortsIn Try.prog Try.sortedA_ren Fence.wide m :=
  ⟨fun blk off cap ss W hH hblk hsz => callsIn_wide.2 (AnyM.slices_Sort_int Try.sortA blk off cap ss W hH hblk hsz),
   fun p cap W => callsIn_wide.2 (AnyM.slices_Sort_int_none Try.sortA p cap W)⟩
/-- What Addrs leaves. -/
def Addrd (w : World) (l : List Ref) (e : Ending) (w' : World) : Prop := ∃ v ns, e = .returned v ∧ IsAddrs l ns ∧ w'.ownsRow w.heap.size 3 1 v ns.length (ns.map encI) ∧ Below w.heap.size w w' ∧ ns.length ≤ l.length
theorem CrAt.addrs {w : World} {E : Nat → Prop} {b bn bo : Nat} {l : List Ref} {A : List (Int × Nat)} {sv : Option Nat} (h : CrAt w E b l bn bo A sv) {ss : List Int} (hp : ss.Perm (A.map Prod.fst)) : IsAddrs l (ss.mergeSort (fun x y => decide (x ≤ y))) := by
  have hp2 : (ss.mergeSort (fun x y => decide (x ≤ y))).Perm ss := List.mergeSort_perm _ _
  have hnd : (ss.mergeSort (fun x y => decide (x ≤ y))).Nodup := (hp2.trans hp).nodup_iff.2 h.ow.nodup
  have hs : (ss.mergeSort (fun x y => decide (x ≤ y))).Pairwise (fun a b => decide (a ≤ b) = true) := List.pairwise_mergeSort (fun a b c h1 h2 => by simp at *; omega) (fun a b => by simp; omega) _
  refine ⟨?_, fun x => ?_⟩
  · rw [List.nodup_iff_pairwise_ne] at hnd
    exact (List.Pairwise.and hs hnd).imp (fun h => by simp at h; omega)
  · rw [hp2.mem_iff, hp.mem_iff]
    have h1 := h.all x
    constructor
    · intro hx
      obtain ⟨p, hp1, e⟩ := List.mem_map.1 hx
      obtain ⟨o, ho⟩ := List.exists_mem_of_ne_nil _ (h1.2 ⟨p, hp1, e⟩)
      exact ⟨o, mem_byS.1 ho⟩
    · rintro ⟨o, ho⟩
      obtain ⟨p, hp1, e⟩ := h1.1 (fun e => by have := mem_byS.2 ho; rw [e] at this; simp at this)
      exact List.mem_map.2 ⟨p, hp1, e⟩
theorem CrAt.fewer {w : World} {E : Nat → Prop} {b bn bo : Nat} {l : List Ref} {A : List (Int × Nat)} {sv : Option Nat} (h : CrAt w E b l bn bo A sv) : A.length ≤ l.length := by
  have hsub : ∀ x ∈ A.map Prod.fst, x ∈ l.map Prod.snd := fun x hx => by
    obtain ⟨p, hp1, e⟩ := List.mem_map.1 hx
    obtain ⟨o, ho⟩ := List.exists_mem_of_ne_nil _ ((h.all x).2 ⟨p, hp1, e⟩)
    exact List.mem_map.2 ⟨_, mem_byS.1 ho, rfl⟩
  have := List.Nodup.length_le_of_subset h.ow.nodup hsub
  simpa using this

set_option maxRecDepth 100000 in
set_option maxHeartbeats 1000000 in
theorem addrs_any {w : World} {F : Nat → Prop} {b : Nat} {l : List Ref} {was : Option (List Ref)} (h : Rf w F b l was) (hl : l.length ≤ 1000000) :
    Calls Try.prog 18 #[.pointer (some ⟨b, 0, none⟩)] w (Addrd w l) := by
  obtain ⟨E, bn, bo, A, sv, h, -⟩ := h
  have c1 := h.c1
  have hfew := h.fewer
  have HA : Hid (∀ ss : List Int, ss.Perm (A.map Prod.fst) → IsAddrs l (ss.mergeSort (fun x y => decide (x ≤ y)))) := hide (fun ss hs => h.addrs hs)
  have hb1 : Below w.heap.size w (w.alloc (.cells #[.map (some bo)] 63)) := below_box _ _
  have hm : MapIs encI I64 encM (w.alloc (.cells #[.map (some bo)] 63)) bo A := h.ow.of_block (fun _ ho => by rw [hb1.block _ h.ow.lt]; exact ho)
  have hseq := (keysA_stops (Bm := w.heap.size) 2 (by omega) (by simp) hm).gives
  have cS := callsIn_wide.1 (AnyZI.sorted_in Try.sortedA Fence.wide 5 trivial trivial trivial trivial rfl (by omega) (sortsA _) (enters_of Try.func49 (by kernel_rfl) rfl) 50 #[.pointer (some ⟨w.heap.size, 0, none⟩)] trivial enterKeysA1 _ _ (by unfold maxLen; omega) (by omega) _ hseq)
  change Calls Try.prog 37 _ _ _ at cS
  have hK := keysA_any (some bo) w
  have HB1 := hide hb1
  have HF := hide hfew
  clear h hm hseq hb1 hfew
  go_enter Try.func18, Try.ntmps18
  go_wp2_with (first
    | (go_at_call 38; refine hK.mono ?_; rintro e w' ⟨rfl, rfl⟩)
    | (go_at_call 37; refine cS.mono ?_; rintro e w2 ⟨v, ss, rfl, hp, hrow, hnil, hb⟩; have HP := hide hp; have HR := hide hrow; obtain ⟨ao, cap, rfl⟩ := ownsRow_form hrow; clear hp hrow hnil))
  go_ret
  refine ⟨_, ss.mergeSort (fun x y => decide (x ≤ y)), rfl, HA.out ss HP.out, ?_, HB1.out.trans (hb.mono HB1.out.size), ?_⟩
  · rw [List.length_mergeSort]
    exact ownsRow_base HR.out HB1.out.size
  · rw [List.length_mergeSort, HP.out.length_eq, List.length_map]; exact HF.out

theorem KeepsWalks.drew0 (w : World) : KeepsWalks w w.drew := ⟨Nat.le_refl _, fun _ _ h _ => h⟩
theorem ownsRow_next {w w2 : World} {base : Nat} {t : TypeId} {k n r : Nat} {v : Value} {xs : List Value} (h : w.ownsRow base t k v n xs) (hg : w.grownBy w2 (some r)) (hr : ∃ m s se c, w.heap[r]? = some (.mapIter m s se c)) : w2.ownsRow base t k v n xs := by
  refine h.kept hg ?_
  rcases h.2 with ⟨rfl, -⟩ | ⟨g, cap, cur, rfl, -, hh, -⟩
  · exact .inl rfl
  · refine .inr (fun e => ?_)
    obtain ⟨m, s, se, c, hi⟩ := hr
    have : g = r := by simpa [Value.ownBlock] using e
    rw [this, hi] at hh; cases hh
theorem walks_append {w w2 : World} {base : Nat} {t : TypeId} {k n : Nat} {v : Value} {xs : List Value} (h : w.ownsRow base t k v n xs) (hg : w.grownBy w2 v.ownBlock) : KeepsWalks w w2 :=
  KeepsWalks.of_grownBy hg (fun j o ej hj => by
    rcases h.2 with ⟨rfl, -⟩ | ⟨g, cap, cur, rfl, -, hh, -⟩
    · simp [Value.ownBlock] at ej
    · obtain rfl : g = j := by simpa [Value.ownBlock] using ej
      rw [hh] at hj; cases hj; rfl)

set_option maxRecDepth 100000 in
set_option maxHeartbeats 2000000 in
theorem volume_any {w : World} {F : Nat → Prop} {b : Nat} {l : List Ref} {was : Option (List Ref)} (h : Rf w F b l was) {vol : Int} (hl : l.length ≤ 1000000) :
    Calls Try.prog 25 #[.pointer (some ⟨b, 0, none⟩), .int .i64 vol] w (SortedO w (volS l vol)) := by
  obtain ⟨E, bn, bo, A, sv, h, -⟩ := h
  have c0 := h.c0
  obtain ⟨oi, hrun, hrg0, hwk⟩ := h.nm.range (P := Try.prog) uN
  have HR0 := hide hrg0
  have HOK := hide h.ok
  clear h hrg0
  go_enter Try.func25, Try.ntmps25
  go_wp2_with fail
  have HB0 : Hid (Below w.heap.size w (w.alloc oi)) := hide (below_box _ _)
  go_loopg [5] l.length (fun k v wr => ∃ (todo : List Ref) (don : List Own), todo.length = k ∧ Hid (RangeIs encO OkO encI wr bn w.heap.size l todo) ∧ Hid ((don ++ todo.map Prod.fst).Perm (l.map Prod.fst)) ∧ Hid (Below w.heap.size w wr) ∧ Hid (wr.ownsRow w.heap.size 35 2 v (don.filter (fun o => decide (o.1 = vol))).length (ownsC (don.filter (fun o => decide (o.1 = vol))))))
  case atStart => exact ⟨l, [], rfl, HR0, hide (by simp), HB0, hide (World.ownsRow_nil _ _ _ _)⟩
  case round =>
    obtain ⟨todo, don, hk, HR, HP, HB, HO⟩ := hrel
    rcases HR.out.next (P := Try.prog) 0 with ⟨rfl, hnx⟩ | ⟨p, todo', w2, hperm, hnx, hr2, hg2, hs2, hen⟩
    · have hp : (don.filter (fun o => decide (o.1 = vol))).Perm (volS l vol) := by
        have h1 := HP.out
        simp only [List.map_nil, List.append_nil] at h1
        have h2 := h1.filter (fun o => decide (o.1 = vol))
        rw [List.filter_map] at h2
        exact h2
      have hnd : (don.filter (fun o => decide (o.1 = vol))).Nodup := hp.nodup_iff.2 (srt_volS HOK.out.srt vol).nodup
      have hlen : (don.filter (fun o => decide (o.1 = vol))).length ≤ 10000000 := by rw [hp.length_eq]; have := volS_length l vol; omega
      have hSo := sortO_any HO.out hnd hlen
      obtain ⟨ao, cap, rfl⟩ := ownsRow_form HO.out
      have HPP := hide hp
      clear hp hnd hlen
      go_wp2_with (go_at_call 40; refine hSo.mono ?_; rintro e w3 ⟨rfl, ts, h1, h2, h3, h4⟩)
      go_ret
      have e : ts = volS l vol := h1.ext (srt_volS HOK.out.srt vol) (fun o => by rw [h2.mem_iff, HPP.out.mem_iff])
      subst e
      exact ⟨_, rfl, h3, HB.out.grown h4 HB.out.size (fun k e => (HO.out.lt k e).1)⟩
    · obtain ⟨ao, cap, rfl⟩ := ownsRow_form HO.out
      have HO2 := hide (ownsRow_next HO.out hg2 HR.out.iter)
      have HB2 : Hid (Below w.heap.size w w2) := hide (HB.out.grown hg2 HB.out.size (fun k e => by cases e; exact Nat.le_refl _))
      have HQ := hide hperm
      obtain ⟨x, hx⟩ : ∃ x, w2.heap.size = x := ⟨_, rfl⟩
      obtain ⟨W4, hW4⟩ : ∃ W4, w2.alloc (.cells #[.int .i64 p.1.1, .int .i64 p.1.2] 35) = W4 := ⟨_, rfl⟩
      have hb4 : BoxO W4 x p.1 := by rw [← hW4, ← hx]; exact boxO_new w2 p.1 _
      obtain ⟨x1, x2⟩ := hb4
      have HR4 : Hid (RangeIs encO OkO encI W4 bn w.heap.size l todo') := hide (hr2.of_walks (by rw [← hW4]; exact KeepsWalks.alloc _ _))
      have HO4 : Hid (W4.ownsRow w.heap.size 35 2 (.slice ao (don.filter (fun o => decide (o.1 = vol))).length cap) (don.filter (fun o => decide (o.1 = vol))).length (ownsC (don.filter (fun o => decide (o.1 = vol))))) := hide (by rw [← hW4]; exact HO2.out.alloc _)
      have HB4 : Hid (Below w.heap.size w W4) := hide (by rw [← hW4]; exact HB2.out.alloc HB2.out.size _)
      unfold encO at hnx hen
      have hlt : don.length + todo'.length < l.length := by
        have h1 := HP.out.length_eq
        have h2 := HQ.out.length_eq
        simp at h1 h2; omega
      have hk2 : todo'.length < gk := by have h2 := HQ.out.length_eq; simp at h2; omega
      have HPN : Hid (((don ++ [p.1]) ++ todo'.map Prod.fst).Perm (l.map Prod.fst)) := hide (by
        have h2 := (HQ.out.map Prod.fst).append_left don
        rw [List.append_assoc]
        exact h2.symm.trans HP.out)
      clear hr2 hg2 hs2 hperm
      obtain ⟨q, hq⟩ : ∃ q, don.filter (fun o => decide (o.1 = vol)) = q := ⟨_, rfl⟩
      rw [hq] at HO4
      have hql : q.length ≤ don.length := by rw [← hq]; exact List.length_filter_le _ _
      by_cases hv : p.1.1 = vol
      · have hvb : (p.1.1 == vol) = true := by simpa using hv
        have hfn : (don ++ [p.1]).filter (fun o => decide (o.1 = vol)) = q ++ [p.1] := by rw [List.filter_append, hq]; simp [hv]
        have bN := boxO_new W4 p.1 35
        obtain ⟨v', w5, hap, hown', hgrow, -, -⟩ := append_own (HO4.out.alloc (.cells #[.int .i64 p.1.1, .int .i64 p.1.2] 35)) (x := W4.heap.size) (m := 1) (cap := 1) (l' := [p.1]) (fun j u hu => by
          match j, hu with
          | 0, hu => simp [ownsC, ownC] at hu; subst hu; exact bN.1
          | 1, hu => simp [ownsC, ownC] at hu; subst hu; exact bN.2
          | j + 2, hu => simp [ownsC, ownC] at hu) rfl (by have := HB4.out.size; simp; omega) (by omega) 53
        have HW5 : Hid (KeepsWalks W4 w5) := hide ((KeepsWalks.alloc _ _).trans (walks_append (HO4.out.alloc _) hgrow))
        have HB5 : Hid (Below w.heap.size w w5) := hide ((HB4.out.alloc HB4.out.size _).grown hgrow (by have := HB4.out.size; simp; omega) (fun k e => (HO4.out.lt k e).1))
        have HO5 := hide hown'
        obtain ⟨g', cap', rfl⟩ := ownsRow_succ hown'
        rw [hq] at *
        clear hown' hgrow bN hv
        go_wp2_with (at_builtin; refine wpList_append_eq rfl _ _ rfl rfl rfl hap ?_)
        go_roundg todo'.length
        case measure => exact hk2
        case rel => exact ⟨todo', don ++ [p.1], rfl, hide (HR4.out.of_walks HW5.out), HPN, HB5, hide (by rw [hfn]; simpa using HO5.out)⟩
      · have hvb : (p.1.1 == vol) = false := by simpa using hv
        have hfn : (don ++ [p.1]).filter (fun o => decide (o.1 = vol)) = q := by rw [List.filter_append, hq]; simp [hv]
        rw [hq] at *
        clear hv
        go_wp2_with fail
        go_roundg todo'.length
        case measure => exact hk2
        case rel => exact ⟨todo', don ++ [p.1], rfl, HR4, HPN, HB4, hide (by rw [hfn]; exact HO4.out)⟩
end Go.Proofs.Ytjopdejgijojmaa
