import Derived.Test.YtliboiajhhnajaaGreatDoorM05
import Derived.Test.YtliboiajhhnajaaGreatDoorM12
import Derived.Test.YtliboiajhhnajaaGreatDoorM07
/- Pending by its contract. -/
namespace Go.Proofs.YtliboiajhhnajaaGreatDoor
open Go.RowKit Go.Extern Go.Maps Go.Sort Go.Shelf

/-- Sectors' numbers as ints. -/
def pendI (S : List Sec) : List Int := (pend S).map fun i : Nat => (i : Int)
theorem pendI_length (S : List Sec) : (pendI S).length = (pend S).length := by simp [pendI]
theorem pendI_sorted (S : List Sec) : (pendI S).mergeSort leI = pendI S := by
  refine List.mergeSort_of_pairwise ?_
  unfold pendI
  rw [List.pairwise_map]
  refine List.Pairwise.imp (R := fun a b : Nat => a < b) (fun h => by simp only [leI, decide_eq_true_eq]; omega) ?_
  exact List.Pairwise.filter _ List.pairwise_lt_range

theorem sortsA (m : Nat) : AnyZI.SortsIn Tryz.prog Tryz.sortedA_ren Fence.wide m :=
  ⟨fun blk off cap ss W hH hblk hsz => callsIn_wide.2 (AnyM.slices_Sort_int Tryz.sortA blk off cap ss W hH hblk hsz),
   fun p cap W => callsIn_wide.2 (AnyM.slices_Sort_int_none Tryz.sortA p cap W)⟩

/-- What Pending leaves: the numbers in a new slice. -/
def Pended (S : List Sec) (w : World) (e : Ending) (w' : World) : Prop := ∃ v, e = .returned v ∧ w'.ownsRow w.heap.size 3 1 v (pendI S).length ((pendI S).map (Value.int .i64)) ∧ Below w.heap.size w w'

set_option maxRecDepth 100000 in
set_option maxHeartbeats 1000000 in
theorem pending_any {w : World} {F : Nat → Prop} {b : Nat} {S : List Sec} (h : Dk w F b S) : Calls Tryz.prog 77 #[.pointer (some ⟨b, 0, none⟩)] w (Pended S w) := by
  obtain ⟨v, mb, D, h⟩ := h
  have c1 := two_cell1 h.blk
  have hown := h.map
  have hbl := hown.lt
  have hsize := map_size h.map h.keys
  have hpl := pend_length S
  have hgl := h.good.1
  have hmax : Maps.size D ≤ maxLen := by rw [hsize]; unfold maxLen; omega
  have hbytes : Maps.size D * 8 ≤ 140737488355328 := by omega
  obtain ⟨es, hes, hperm⟩ := keys_perm h.map h.keys
  have HP : Hid (∀ ss : List Int, ss.Perm (intKeys D) → ss.mergeSort (fun x y => decide (x ≤ y)) = pendI S ∧ ss.length = (pendI S).length) := fun ss hs => by
    have e : intKeys D = es.map fun p => litInt p.1 := by
      rw [hes]
      show es.map (fun p => Go.intOf p.1) = _
      refine List.map_congr_left fun p _ => ?_
      cases p.1 <;> rfl
    rw [e] at hs
    have h2 := hs.trans hperm
    exact ⟨(mergeSort_of_perm_i h2).trans (pendI_sorted S), h2.length_eq⟩
  refine (callsIn_wide (n := 6)).1 ?_
  have hseq : SeqGives Fence.wide 2 Tryz.prog 89 #[.pointer (some ⟨w.heap.size, 0, none⟩)] encZ (fun ss => ss.Perm (intKeys D)) (Maps.size D) (w.alloc (.cells #[.map (some mb)] 102)) :=
    AnyZI.keys_gives (ρ := Tryz.keysA_ren) { Tryz.keysA with } Fence.wide _ trivial rfl (by omega) w.heap.size mb (Maps.size D) D _ (by simp) (by simp) (by
      obtain ⟨es, clock, hb, Ft, hs, hD⟩ := hown
      exact ⟨es, clock, (Below.heap_alloc _ _ mb hbl).trans hb, Ft, hs, hD⟩)
  have cK : ∀ mv W, CallsIn Fence.wide 5 Tryz.prog 82 #[.map mv] W fun e w' => e = .returned (.func (.func 89) #[] #[.pointer (some ⟨W.heap.size, 0, none⟩)]) ∧ w' = W.alloc (.cells #[.map mv] 102) := fun mv W => AnyZI.keys_in Tryz.keysA Fence.wide 5 trivial rfl mv W
  have cS := AnyZI.sorted_in Tryz.sortedA Fence.wide 5 trivial trivial trivial trivial rfl (by omega) (sortsA _) (enters_of Tryz.func88 (by kernel_rfl) rfl) 89 #[.pointer (some ⟨w.heap.size, 0, none⟩)] trivial (enters_of Tryz.func89 (by kernel_rfl) rfl) _ _ hmax hbytes _ hseq
  change CallsIn _ _ Tryz.prog 81 _ _ _ at cS
  have hfK : Fence.wide.fn 82 := trivial
  have hfS : Fence.wide.fn 81 := trivial
  clear h hown hsize hpl hgl hmax hbytes hes hperm hseq hbl
  refine callsIn_of_wp Tryz.func77 rfl trivial ?_ rfl
  simp only [Tryz.ntmps77, List.size_toArray, List.length_cons, List.length_nil, Nat.reduceAdd, Nat.reduceSub, Array.replicate_succ, Array.replicate_zero, List.push_toArray, List.append_toArray, List.nil_append, List.cons_append]
  gi_wp2_with (first
    | (gi_at_call 82; refine (cK _ _).mono ?_; rintro e w' ⟨rfl, rfl⟩)
    | (gi_at_call 81; refine cS.mono ?_; rintro e w' ⟨v, ss, rfl, hS, hrow, hnil, hb⟩))
  go_ret
  obtain ⟨e1, e2⟩ := HP.out ss hS
  refine ⟨v, rfl, ?_, ((Below.refl _ w).alloc (Nat.le_refl _) _).trans (hb.mono (by simp))⟩
  rw [e1, e2] at hrow
  exact ownsRow_base_a hrow (by simp)
end Go.Proofs.YtliboiajhhnajaaGreatDoor

/- Crash by its contract. -/
namespace Go.Proofs.YtliboiajhhnajaaGreatDoor
open Go.RowKit Go.Extern

/-- At which place a number stands first. -/
def placeOf : List Nat → Nat → Option Nat
  | [], _ => none
  | a :: l, i => if a = i then some 0 else (placeOf l i).map (· + 1)
theorem placeOf_none {i : Nat} : ∀ {l : List Nat}, i ∉ l → placeOf l i = none
  | [], _ => rfl
  | a :: l, h => by
    simp only [List.mem_cons, not_or] at h
    have ha : ¬ a = i := fun e => h.1 e.symm
    simp [placeOf, placeOf_none h.2, ha]
theorem placeOf_snoc_self {i : Nat} : ∀ {l : List Nat}, i ∉ l → placeOf (l ++ [i]) i = some l.length
  | [], _ => by simp [placeOf]
  | a :: l, h => by
    simp only [List.mem_cons, not_or] at h
    have ha : ¬ a = i := fun e => h.1 e.symm
    simp [placeOf, placeOf_snoc_self h.2, ha]
theorem placeOf_snoc_other {i j : Nat} (h : j ≠ i) : ∀ {l : List Nat}, placeOf (l ++ [i]) j = placeOf l j
  | [] => by
    have ha : ¬ i = j := fun e => h e.symm
    simp [placeOf, ha]
  | a :: l => by simp [placeOf, placeOf_snoc_other h (l := l)]
/-- Crashed, as far as the loop has come. -/
def crF (L : List Nat) (ps : List Int) (i : Nat) (s : Sec) : Sec := match placeOf L i with | some p => { s with dur := s.pick (ps.getD p 0) } | none => s
/-- What a crash leaves. -/
def crS (S : List Sec) (ps : List Int) : List Sec := (partS S (crF (pend S) ps)).map Sec.let
theorem crF_nil (ps : List Int) (S : List Sec) : partS S (crF [] ps) = S := by
  apply List.ext_getElem?
  intro i
  rw [partS_get]
  cases S[i]? <;> rfl
theorem crF_wait (L : List Nat) (ps : List Int) (i : Nat) (s : Sec) : (crF L ps i s).wait = s.wait := by unfold crF; split <;> rfl
theorem crF_step {S : List Sec} {L : List Nat} {ps : List Int} {i : Nat} {s : Sec} (hs : S[i]? = some s) (hi : i ∉ L) : (partS S (crF L ps)).set i { s with dur := s.pick (ps.getD L.length 0) } = partS S (crF (L ++ [i]) ps) := by
  refine partS_set hs ?_ (fun j t hj => ?_)
  · simp [crF, placeOf_snoc_self hi]
  · simp [crF, placeOf_snoc_other hj]
theorem crF_fresh {L : List Nat} {ps : List Int} {i : Nat} (s : Sec) (hi : i ∉ L) : crF L ps i s = s := by
  unfold crF; rw [placeOf_none hi]
theorem take_notin {l : List Nat} (h : l.Nodup) {q i : Nat} (hq : l[q]? = some i) : i ∉ l.take q := by
  intro hm
  obtain ⟨j, hj⟩ := List.getElem?_of_mem hm
  have hjq : j < q := by
    have := (List.getElem?_eq_some_iff.1 hj).1
    rw [List.length_take] at this; omega
  rw [List.getElem?_take_of_lt hjq] at hj
  obtain ⟨h1, e1⟩ := List.getElem?_eq_some_iff.1 hj
  obtain ⟨h2, e2⟩ := List.getElem?_eq_some_iff.1 hq
  have := (List.pairwise_iff_getElem.1 h) j q h1 h2 hjq
  exact this (by rw [e1, e2])
theorem ints_cell {w : World} {v : Value} {n : Nat} {L : List Int} {base : Nat} (h : w.ownsRow base 3 1 v n (L.map (Value.int .i64))) (hn : n = L.length) : ∃ ao cap g, v = .slice ao L.length cap ∧ (0 < L.length → ao = some ⟨g, 0, none⟩ ∧ ∃ cur, w.heap[g]? = some (.cells cur 3 (0, 0)) ∧ base ≤ g) ∧ ∀ (j : Nat) z, L[j]? = some z → w.cell? ⟨g, j, none⟩ = some (.int .i64 z) := by
  subst hn
  rcases Nat.eq_zero_or_pos L.length with h0 | h0
  · obtain ⟨ao, cap, rfl⟩ := ownsRow_form h
    refine ⟨ao, cap, 0, rfl, fun hx => by omega, fun j z hz => ?_⟩
    rw [List.length_eq_zero_iff.1 h0] at hz; simp at hz
  · obtain ⟨g, cap, cur, rfl, hg, -, -, -, -, hb⟩ := ownsRow_pos h h0
    refine ⟨_, cap, g, rfl, fun _ => ⟨rfl, cur, hg, hb⟩, fun j z hz => ?_⟩
    exact row_cell h (by rw [List.getElem?_map, hz]; rfl)

/-- What Crash leaves. -/
def Crashed (F : Nat → Prop) (b : Nat) (S : List Sec) (ps : List Int) (w : World) (e : Ending) (w' : World) : Prop := e = .returned (.tuple #[]) ∧ Dk w' (ext F w w') b (crS S ps) ∧ Turn F w w'

set_option maxRecDepth 100000 in
set_option maxHeartbeats 2000000 in
theorem crash_any {w : World} {F : Nat → Prop} {b : Nat} {S : List Sec} (h : Dk w F b S) (hww : ∀ s ∈ S, s.wait.length ≤ 1000000) (pv : Value) (ps : List Int) (hps : Ints w pv ps) (hout : ∀ k, pv.ownBlock = some k → ¬ F k) :
    Calls Tryz.prog 61 #[.pointer (some ⟨b, 0, none⟩), pv] w (Crashed F b S ps w) := by
  have HP := hide (pending_any h)
  obtain ⟨v, mb, D, h⟩ := h
  have HD := hide h
  have HWW := hide hww
  obtain ⟨aop, capp, gp, offp, rfl, p2, p3, p4, p5, -⟩ := hps
  have P2 := hide p2
  have P3 := hide p3
  have P4 := hide p4
  have P5 := hide p5
  have HO := hide hout
  clear h hww p2 p3 p4 p5 hout
  have hmm := @run_makeMap Tryz.prog
  go_enter Tryz.func61, Tryz.ntmps61
  go_wp2_with (go_at_call 77; refine HP.out.mono ?_; rintro e w0 ⟨lv, rfl, hrow, hb0⟩; obtain ⟨aol, capl, gl, rfl, l2, l3⟩ := ints_cell hrow rfl)
  have L2 := hide l2
  have L3 := hide l3
  have HB0 := hide hb0
  have HLL : Hid ((pendI S).length ≤ 4096) := by show _ ≤ _; rw [pendI_length]; have := pend_length S; have := HD.out.good.1; omega
  clear hrow l2 l3 hb0 HP
  go_loopg [10] (pendI S).length (fun gk i wr => ∃ q, q + gk = (pendI S).length ∧ i = .int .i64 (q : Int) ∧ DkAt wr (ext F w wr) b (partS S (crF ((pend S).take q) ps)) v mb D ∧ Turn F w wr ∧ (0 < (pendI S).length → wr.heap[gl]? = w0.heap[gl]?))
  case atStart => exact ⟨0, by omega, rfl, by rw [List.take_zero, crF_nil]; exact (HD.out.below HB0.out).mono (fun _ hk => .inl hk), Turn.of_below HB0.out, fun _ => rfl⟩
  case round =>
    obtain ⟨q, hq, rfl, hdk, htn, hcl⟩ := hrel
    have HDK := hide hdk
    have HTN := hide htn
    have HCL := hide hcl
    have hbs := heap_lt hdk.blk
    have c1 := two_cell1 hdk.blk
    have fr1 := row_frozen hdk.blk 1
    clear hdk htn hcl
    cases gk with
    | zero =>
      have hend : ¬ (q : Int) < ((pendI S).length : Int) := by omega
      have HFIN := hide (reset_core HDK.out)
      rw [show (pend S).take q = pend S from List.take_of_length_le (by rw [← pendI_length]; omega), set_alloc wr hbs] at HFIN
      clear hq
      go_wp2_with fail
      go_end0
      refine ⟨rfl, HFIN.out.1.mono (fun k hk => ext_ext HTN.out.size HFIN.out.2.size k hk), HTN.out.trans HFIN.out.2 (fun k hk h => ?_)⟩
      rcases h with h | h
      · exact h
      · omega
    | succ m =>
      have hql : q < (pendI S).length := by omega
      have hlt : (q : Int) < ((pendI S).length : Int) := by omega
      have hb0 : (0 : Int) ≤ (q : Int) := by omega
      obtain ⟨i, hpq⟩ : ∃ i, (pend S)[q]? = some i := ⟨(pend S)[q]'(by rw [← pendI_length]; exact hql), by simp⟩
      have hiq : (pendI S)[q]? = some (i : Int) := by unfold pendI; rw [List.getElem?_map, hpq]; rfl
      have hgl := HCL.out (by omega)
      have kq : wr.cell? ⟨gl, q, none⟩ = some (.int .i64 (i : Int)) := by rw [World.cell?_of_block (w := w0) hgl]; exact L3.out q _ hiq
      obtain ⟨rfl, curl, hcurl, -⟩ := L2.out (by omega)
      rw [← hgl] at hcurl
      have HCU := hide hcurl
      have HGL := hide hgl
      obtain ⟨s, hs, hw⟩ := mem_pend.1 (List.mem_of_getElem? hpq)
      have hni := take_notin (pend_nodup S) hpq
      have hsP : (partS S (crF ((pend S).take q) ps))[i]? = some s := by rw [partS_get, hs, Option.map_some, crF_fresh s hni]
      have hgood := HDK.out.good
      obtain ⟨g, cap, cur, hvv, hgc, hcap, hmm2, hsz, htk, -⟩ := ownsRow_pos HDK.out.secs (by rw [partS_length]; exact len_pos hs)
      subst hvv
      have hgs := HD.out.good.2 s (List.mem_of_getElem? hs)
      have HGC := hide hgc
      have HSP := hide hsP
      have HS := hide hs
      have HNI := hide hni
      have HPQ := hide hpq
      have HGK : Hid (gl ≠ g) := fun e => by have h1 := hcurl; rw [e, hgc] at h1; simp at h1
      have HSW : Hid (s.wait.length ≤ 1000000) := HWW.out s (List.mem_of_getElem? hs)
      have hil : i < (partS S (crF ((pend S).take q) ps)).length := (List.getElem?_eq_some_iff.1 hsP).1
      have HLQ : Hid (((pend S).take q).length = q) := by show _ = _; rw [List.length_take]; have := (List.getElem?_eq_some_iff.1 hpq).1; omega
      obtain ⟨z, HZ, hcase⟩ : ∃ z : Int, Hid (z = ps.getD ((pend S).take q).length 0) ∧ ((q < ps.length ∧ ps[q]? = some z) ∨ (¬ q < ps.length ∧ z = 0)) := by
        rw [HLQ.out]
        by_cases h : q < ps.length
        · exact ⟨ps[q], by show _ = _; simp [h], .inl ⟨h, by simp [h]⟩⟩
        · exact ⟨0, by show _ = _; simp [h], .inr ⟨h, rfl⟩⟩
      have HZI : Hid (I64 z) := by
        rcases hcase with ⟨h1, h2⟩ | ⟨h1, rfl⟩
        · exact P4.out z (List.mem_of_getElem? h2)
        · exact ⟨by omega, by omega⟩
      have HTC : Hid (Con (s.pick z)) := s.pick_con hgs z
      have HCH := hide (choose_any (⟨_, mb, D, HDK.out.below (Below.refl _ _).drew⟩ : Dk wr.drew (ext F w wr) b (partS S (crF ((pend S).take q) ps))) hsP z HZI.out HSW.out)
      clear hgl hcurl hpq hiq hs hw hni hsP hgs hgc hgood hcap hmm2 hsz htk hql
      rcases hcase with ⟨h1, h2⟩ | ⟨h1, rfl⟩
      · have hlt2 : (q : Int) < (ps.length : Int) := by omega
        obtain rfl := P2.out (by omega)
        have kp : wr.cell? ⟨gp, offp + q, none⟩ = some (.int .i64 z) := by
          have h3 := P3.out q z h2
          rw [World.cell?_of_block (w := w) (HTN.out.block gp (cell_lt h3) (HO.out gp rfl))]; exact h3
        clear h1 h2
        go_wp2_with fail
        refine wp_region_held_drew (S := fun wx => wx.cell? ⟨b, 0, none⟩ = some (.slice (some ⟨g, 0, none⟩) (partS S (crF ((pend S).take q) ps)).length cap)) (by kernel_rfl) (two_cell0 HDK.out.blk) (fun hS => ?_)
        refine take_run 0 (some 23) (.pointer (some ⟨b, 0, none⟩)) rfl rfl rfl (by kernel_rfl) (by kernel_rfl) (by kernel_rfl) (fun _ _ _ h => h) (fun wx hx => exec_move rfl rfl) hS ?_
        simp only [Act.put, List.setIfInBounds_toArray, List.set_cons_zero, List.set_cons_succ]
        refine take_run 1 (some 24) (.pointer (some ⟨b, 0, none⟩)) rfl rfl rfl (by kernel_rfl) (by kernel_rfl) (by kernel_rfl) (fun _ _ _ h => h) (fun wx hx => exec_nilCheck rfl rfl) hS ?_
        simp only [Act.put, List.setIfInBounds_toArray, List.set_cons_zero, List.set_cons_succ]
        refine take_run 2 (some 25) (.pointer (some ⟨b, 0, none⟩)) rfl rfl rfl (by kernel_rfl) (by kernel_rfl) (by kernel_rfl) (fun _ _ _ h => h) (fun wx hx => exec_field rfl (field0 b wx) rfl) hS ?_
        simp only [Act.put, List.setIfInBounds_toArray, List.set_cons_zero, List.set_cons_succ]
        refine take_run 3 (some 26) (.slice (some ⟨g, 0, none⟩) (partS S (crF ((pend S).take q) ps)).length cap) rfl rfl rfl (by kernel_rfl) (by kernel_rfl) (by kernel_rfl) (fun _ _ _ h => h) (fun wx hx => exec_load rfl (load_secs hx) rfl) hS ?_
        simp only [Act.put, List.setIfInBounds_toArray, List.set_cons_zero, List.set_cons_succ]
        refine take_run 4 (some 27) (.int .i64 (i : Int)) rfl rfl rfl (by kernel_rfl) (by kernel_rfl) (by kernel_rfl) (fun _ _ _ h => h) (fun wx hx => exec_move rfl rfl) hS ?_
        simp only [Act.put, List.setIfInBounds_toArray, List.set_cons_zero, List.set_cons_succ]
        refine take_run 5 (some 28) (.pointer (some ⟨b, 0, none⟩)) rfl rfl rfl (by kernel_rfl) (by kernel_rfl) (by kernel_rfl) (fun _ _ _ h => h) (fun wx hx => exec_move rfl rfl) hS ?_
        simp only [Act.put, List.setIfInBounds_toArray, List.set_cons_zero, List.set_cons_succ]
        refine take_run 6 (some 29) (.int .i64 (i : Int)) rfl rfl rfl (by kernel_rfl) (by kernel_rfl) (by kernel_rfl) (fun _ _ _ h => h) (fun wx hx => exec_move rfl rfl) hS ?_
        simp only [Act.put, List.setIfInBounds_toArray, List.set_cons_zero, List.set_cons_succ]
        refine take_run 7 (some 30) (.int .i64 z) rfl rfl rfl (by kernel_rfl) (by kernel_rfl) (by kernel_rfl) (fun _ _ _ h => h) (fun wx hx => exec_move rfl rfl) hS ?_
        simp only [Act.put, List.setIfInBounds_toArray, List.set_cons_zero, List.set_cons_succ]
        refine only_call 8 (some 31) rfl rfl rfl (by kernel_rfl) (exec_call3 rfl enterChoose rfl rfl rfl rfl) (HCH.out.mono ?_)
        rintro e w2 ⟨rfl, hb2⟩
        have hdk2 := (HDK.out.below (Below.refl _ _).drew).below hb2
        refine ⟨_, rfl, two_cell0 hdk2.blk, ?_⟩
        simp only [Act.put, List.setIfInBounds_toArray, List.set_cons_zero, List.set_cons_succ]
        obtain ⟨w3, hr3, hdk3, hg3, hsz3⟩ := store_dur hdk2 HSP.out HTC.out
        have hgb : g ≠ b := fun e => by have h1 := HGC.out; have h2 := HDK.out.blk; rw [e] at h1; rw [h1] at h2; simp at h2
        have h02 := two_cell0 hdk2.blk
        refine only_value 9 (some 32) (v := .pointer (some ⟨g, i * 129, none⟩)) rfl rfl rfl (by kernel_rfl) (exec_index rfl (index_sec hil) rfl rfl) h02 ?_
        simp only [Act.put, List.setIfInBounds_toArray, List.set_cons_zero, List.set_cons_succ]
        refine only_value 10 (some 33) (v := .pointer (some ⟨g, i * 129, none⟩)) rfl rfl rfl (by kernel_rfl) (exec_field rfl (secField0 g _ _) rfl) h02 ?_
        simp only [Act.put, List.setIfInBounds_toArray, List.set_cons_zero, List.set_cons_succ]
        refine only_skip 11 none rfl rfl rfl (by kernel_rfl) (exec_store rfl hr3 rfl rfl) (by rw [hg3.cell h02 (by simpa using hgb.symm)]) ?_
        refine wpAnyH_done (by kernel_rfl) ?_ _
        have HEND : Hid (DkAt w3 (ext F w w3) b (partS S (crF ((pend S).take (q + 1)) ps)) (.slice (some ⟨g, 0, none⟩) (partS S (crF ((pend S).take q) ps)).length cap) mb D ∧ Turn F w w3 ∧ w3.heap[gl]? = w0.heap[gl]?) := by
          have hz1 : wr.heap.size ≤ w2.heap.size := hb2.size
          have hgin := HDK.out.inS g rfl
          have hzz := hb2.size
          refine ⟨?_, ?_, ?_⟩
          · have hz2 : ({ s with dur := s.pick z } : Sec) = { s with dur := s.pick (ps.getD ((pend S).take q).length 0) } := congrArg (fun y => ({ s with dur := s.pick y } : Sec)) HZ.out
            rw [hz2, crF_step HS.out HNI.out, ← take_snoc HPQ.out] at hdk3
            exact hdk3.mono (fun k hk => ext_mono (by rw [hsz3]; exact hb2.size) k hk)
          · refine HTN.out.trans (F1 := ext F w wr) ((Turn.of_below (w := wr) ⟨hb2.os, hb2.tape, hb2.output, hb2.size, hb2.block⟩).trans (F1 := ext F w wr) (Turn.of_grown hg3 (fun k hk => by rw [← Option.some.inj hk]; exact hgin)) (fun _ _ h => h)) (fun k hk h => ?_)
            rcases h with h | h
            · exact h
            · omega
          · have h2 : w2.heap[gl]? = some (.cells curl 3 (0, 0)) := by rw [hb2.block gl (heap_lt (w := wr) HCU.out)]; exact HCU.out
            rw [hg3.block gl (heap_lt h2) (fun e => HGK.out (Option.some.inj e)), h2, ← HCU.out, HGL.out]
        clear hr3 hdk3 hg3 hsz3 hgb h02 hdk2 hb2 hS HCH HGC hil
        have hqq : (q : Int) + 1 < 4098 := by have := HLL.out; omega
        go_wp2_with fail
        go_roundg m
        case measure => omega
        case rel => exact ⟨q + 1, by omega, by go_num, HEND.out.1, HEND.out.2.1, fun _ => HEND.out.2.2⟩
      · have hlt2 : ¬ (q : Int) < (ps.length : Int) := by omega
        clear h1
        go_wp2_with fail
        refine wp_region_held_drew (S := fun wx => wx.cell? ⟨b, 0, none⟩ = some (.slice (some ⟨g, 0, none⟩) (partS S (crF ((pend S).take q) ps)).length cap)) (by kernel_rfl) (two_cell0 HDK.out.blk) (fun hS => ?_)
        refine take_run 0 (some 23) (.pointer (some ⟨b, 0, none⟩)) rfl rfl rfl (by kernel_rfl) (by kernel_rfl) (by kernel_rfl) (fun _ _ _ h => h) (fun wx hx => exec_move rfl rfl) hS ?_
        simp only [Act.put, List.setIfInBounds_toArray, List.set_cons_zero, List.set_cons_succ]
        refine take_run 1 (some 24) (.pointer (some ⟨b, 0, none⟩)) rfl rfl rfl (by kernel_rfl) (by kernel_rfl) (by kernel_rfl) (fun _ _ _ h => h) (fun wx hx => exec_nilCheck rfl rfl) hS ?_
        simp only [Act.put, List.setIfInBounds_toArray, List.set_cons_zero, List.set_cons_succ]
        refine take_run 2 (some 25) (.pointer (some ⟨b, 0, none⟩)) rfl rfl rfl (by kernel_rfl) (by kernel_rfl) (by kernel_rfl) (fun _ _ _ h => h) (fun wx hx => exec_field rfl (field0 b wx) rfl) hS ?_
        simp only [Act.put, List.setIfInBounds_toArray, List.set_cons_zero, List.set_cons_succ]
        refine take_run 3 (some 26) (.slice (some ⟨g, 0, none⟩) (partS S (crF ((pend S).take q) ps)).length cap) rfl rfl rfl (by kernel_rfl) (by kernel_rfl) (by kernel_rfl) (fun _ _ _ h => h) (fun wx hx => exec_load rfl (load_secs hx) rfl) hS ?_
        simp only [Act.put, List.setIfInBounds_toArray, List.set_cons_zero, List.set_cons_succ]
        refine take_run 4 (some 27) (.int .i64 (i : Int)) rfl rfl rfl (by kernel_rfl) (by kernel_rfl) (by kernel_rfl) (fun _ _ _ h => h) (fun wx hx => exec_move rfl rfl) hS ?_
        simp only [Act.put, List.setIfInBounds_toArray, List.set_cons_zero, List.set_cons_succ]
        refine take_run 5 (some 28) (.pointer (some ⟨b, 0, none⟩)) rfl rfl rfl (by kernel_rfl) (by kernel_rfl) (by kernel_rfl) (fun _ _ _ h => h) (fun wx hx => exec_move rfl rfl) hS ?_
        simp only [Act.put, List.setIfInBounds_toArray, List.set_cons_zero, List.set_cons_succ]
        refine take_run 6 (some 29) (.int .i64 (i : Int)) rfl rfl rfl (by kernel_rfl) (by kernel_rfl) (by kernel_rfl) (fun _ _ _ h => h) (fun wx hx => exec_move rfl rfl) hS ?_
        simp only [Act.put, List.setIfInBounds_toArray, List.set_cons_zero, List.set_cons_succ]
        refine take_run 7 (some 30) (.int .i64 0) rfl rfl rfl (by kernel_rfl) (by kernel_rfl) (by kernel_rfl) (fun _ _ _ h => h) (fun wx hx => exec_move rfl rfl) hS ?_
        simp only [Act.put, List.setIfInBounds_toArray, List.set_cons_zero, List.set_cons_succ]
        refine only_call 8 (some 31) rfl rfl rfl (by kernel_rfl) (exec_call3 rfl enterChoose rfl rfl rfl rfl) (HCH.out.mono ?_)
        rintro e w2 ⟨rfl, hb2⟩
        have hdk2 := (HDK.out.below (Below.refl _ _).drew).below hb2
        refine ⟨_, rfl, two_cell0 hdk2.blk, ?_⟩
        simp only [Act.put, List.setIfInBounds_toArray, List.set_cons_zero, List.set_cons_succ]
        obtain ⟨w3, hr3, hdk3, hg3, hsz3⟩ := store_dur hdk2 HSP.out HTC.out
        have hgb : g ≠ b := fun e => by have h1 := HGC.out; have h2 := HDK.out.blk; rw [e] at h1; rw [h1] at h2; simp at h2
        have h02 := two_cell0 hdk2.blk
        refine only_value 9 (some 32) (v := .pointer (some ⟨g, i * 129, none⟩)) rfl rfl rfl (by kernel_rfl) (exec_index rfl (index_sec hil) rfl rfl) h02 ?_
        simp only [Act.put, List.setIfInBounds_toArray, List.set_cons_zero, List.set_cons_succ]
        refine only_value 10 (some 33) (v := .pointer (some ⟨g, i * 129, none⟩)) rfl rfl rfl (by kernel_rfl) (exec_field rfl (secField0 g _ _) rfl) h02 ?_
        simp only [Act.put, List.setIfInBounds_toArray, List.set_cons_zero, List.set_cons_succ]
        refine only_skip 11 none rfl rfl rfl (by kernel_rfl) (exec_store rfl hr3 rfl rfl) (by rw [hg3.cell h02 (by simpa using hgb.symm)]) ?_
        refine wpAnyH_done (by kernel_rfl) ?_ _
        have HEND : Hid (DkAt w3 (ext F w w3) b (partS S (crF ((pend S).take (q + 1)) ps)) (.slice (some ⟨g, 0, none⟩) (partS S (crF ((pend S).take q) ps)).length cap) mb D ∧ Turn F w w3 ∧ w3.heap[gl]? = w0.heap[gl]?) := by
          have hz1 : wr.heap.size ≤ w2.heap.size := hb2.size
          have hgin := HDK.out.inS g rfl
          have hzz := hb2.size
          refine ⟨?_, ?_, ?_⟩
          · have hz2 : ({ s with dur := s.pick 0 } : Sec) = { s with dur := s.pick (ps.getD ((pend S).take q).length 0) } := congrArg (fun y => ({ s with dur := s.pick y } : Sec)) HZ.out
            rw [hz2, crF_step HS.out HNI.out, ← take_snoc HPQ.out] at hdk3
            exact hdk3.mono (fun k hk => ext_mono (by rw [hsz3]; exact hb2.size) k hk)
          · refine HTN.out.trans (F1 := ext F w wr) ((Turn.of_below (w := wr) ⟨hb2.os, hb2.tape, hb2.output, hb2.size, hb2.block⟩).trans (F1 := ext F w wr) (Turn.of_grown hg3 (fun k hk => by rw [← Option.some.inj hk]; exact hgin)) (fun _ _ h => h)) (fun k hk h => ?_)
            rcases h with h | h
            · exact h
            · omega
          · have h2 : w2.heap[gl]? = some (.cells curl 3 (0, 0)) := by rw [hb2.block gl (heap_lt (w := wr) HCU.out)]; exact HCU.out
            rw [hg3.block gl (heap_lt h2) (fun e => HGK.out (Option.some.inj e)), h2, ← HCU.out, HGL.out]
        clear hr3 hdk3 hg3 hsz3 hgb h02 hdk2 hb2 hS HCH HGC hil
        have hqq : (q : Int) + 1 < 4098 := by have := HLL.out; omega
        go_wp2_with fail
        go_roundg m
        case measure => omega
        case rel => exact ⟨q + 1, by omega, by go_num, HEND.out.1, HEND.out.2.1, fun _ => HEND.out.2.2⟩
end Go.Proofs.YtliboiajhhnajaaGreatDoor
