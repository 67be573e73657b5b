import Derived.Test.YtliboiajhhnajaaGreatDoorM11
import Derived.Test.YtliboiajhhnajaaGreatDoorM03
import Derived.Shelf.SlIterI.Nil
import Derived.Shelf.SortM.Plain
import Derived.Shelf.SortM.SortNone
import Derived.Test.YtliboiajhhnajaaGreatDoorProg
/- Flush by its contract. -/
namespace Go.Proofs.YtliboiajhhnajaaGreatDoor
open Go.RowKit Go.Extern

/-- Sectors of which some have been flushed. -/
def partS (S : List Sec) (f : Nat → Sec → Sec) : List Sec := S.mapIdx f
theorem partS_get (S : List Sec) (f : Nat → Sec → Sec) (i : Nat) : (partS S f)[i]? = S[i]?.map (f i) := by simp [partS]
theorem partS_length (S : List Sec) (f : Nat → Sec → Sec) : (partS S f).length = S.length := by simp [partS]
theorem partS_set {S : List Sec} {f f' : Nat → Sec → Sec} {k : Nat} {s s' : Sec} (hs : S[k]? = some s) (hk : f' k s = s') (ho : ∀ i t, i ≠ k → f' i t = f i t) : (partS S f).set k s' = partS S f' := by
  apply List.ext_getElem?
  intro i
  rw [partS_get]
  by_cases e : k = i
  · subst e
    rw [List.getElem?_set_self (by rw [partS_length]; exact (List.getElem?_eq_some_iff.1 hs).1), hs, Option.map_some, hk]
  · rw [List.getElem?_set_ne e, partS_get]
    cases S[i]? with
    | none => rfl
    | some t => rw [Option.map_some, Option.map_some, ho i t (fun h => e h.symm)]
theorem Sec.top_none {s : Sec} (h : s.wait = []) : s.top = s.dur := by unfold Sec.top Sec.pick; simp [h]
def Sec.fl (s : Sec) : Sec := { s with dur := s.top }
/-- Flushed, as far as the range has come. -/
def flF (left : Lit → Bool) (i : Nat) (s : Sec) : Sec := if !s.wait.isEmpty && !left (.int .i64 (i : Int)) then s.fl else s
/-- A flushed sector. -/
def Sec.flushed (s : Sec) : Sec := ⟨s.top, s.bad, []⟩
theorem flF_end (left : Lit → Bool) (h : ∀ kl, left kl = false) (S : List Sec) : (partS S (flF left)).map Sec.let = S.map Sec.flushed := by
  apply List.ext_getElem?
  intro i
  rw [List.getElem?_map, partS_get, List.getElem?_map]
  cases S[i]? with
  | none => rfl
  | some s =>
    simp only [Option.map_some, flF, h, Bool.not_false, Bool.and_true]
    cases hw : s.wait with
    | nil => simp [Sec.let, Sec.flushed, Sec.top_none hw]
    | cons a t => simp [Sec.let, Sec.flushed, Sec.fl]
theorem flF_start (left : Lit → Bool) (S : List Sec) (h : ∀ (i : Nat) (s : Sec), S[i]? = some s → s.wait ≠ [] → left (.int .i64 (i : Int)) = true) : partS S (flF left) = S := by
  apply List.ext_getElem?
  intro i
  rw [partS_get]
  cases hs : S[i]? with
  | none => rfl
  | some s =>
    simp only [Option.map_some, flF]
    cases hw : s.wait with
    | nil => simp
    | cons a t => rw [h i s hs (by simp [hw])]; simp
theorem flF_wait (left : Lit → Bool) (i : Nat) (s : Sec) : (flF left i s).wait = s.wait := by unfold flF; split <;> rfl
theorem DkAt.mono {w : World} {F F' : Nat → Prop} {b mb : Nat} {S : List Sec} {v : Value} {D : DataW Value} (h : DkAt w F b S v mb D) (hF : ∀ k, F k → F' k) : DkAt w F' b S v mb D :=
  ⟨h.blk, h.secs, h.map, h.rows, h.keys, h.apart, hF _ h.inB, hF _ h.inM, fun g hg => hF _ (h.inS g hg), fun k g hk hg => hF _ (h.inV k g hk hg), h.good⟩
theorem ext_mono {F : Nat → Prop} {w w1 w2 : World} (h : w1.heap.size ≤ w2.heap.size) (k : Nat) (hk : ext F w w1 k) : ext F w w2 k := by
  rcases hk with hk | hk
  · exact .inl hk
  · exact .inr ⟨hk.1, by omega⟩
theorem ranges_kept {w w' : World} {mb r n : Nat} {D : DataW Value} {left : Lit → Bool} {cnt : Nat} (h : w.ranges Tryz.prog 3 rawE mb r n D left cnt) (hm : ∀ o, w.heap[mb]? = some o → w'.heap[mb]? = some o) (hr : ∀ o, w.heap[r]? = some o → w'.heap[r]? = some o) : w'.ranges Tryz.prog 3 rawE mb r n D left cnt := by
  obtain ⟨es, clock, since, seen, c0, hb, F, hs, hD, hrr, rest⟩ := h
  exact ⟨es, clock, since, seen, c0, hm _ hb, F, hs, hD, hr _ hrr, rest⟩
theorem ranges_iter {w : World} {mb r n : Nat} {D : DataW Value} {left : Lit → Bool} {cnt : Nat} (h : w.ranges Tryz.prog 3 rawE mb r n D left cnt) : ∃ a b c d, w.heap[r]? = some (.mapIter a b c d) := by
  obtain ⟨es, clock, since, seen, c0, hb, F, hs, hD, hrr, rest⟩ := h
  exact ⟨_, _, _, _, hrr⟩
theorem set_alloc (w : World) {b j : Nat} (hb : b < w.heap.size) (o : Obj) (x : Value) : (w.alloc o).setCell ⟨b, j, none⟩ x = (w.setCell ⟨b, j, none⟩ x).alloc o := by go_simp
/-- A disk stays what it is while iterators turn and blocks are made. -/
theorem DkAt.kept {w w' : World} {F : Nat → Prop} {b mb : Nat} {S : List Sec} {v : Value} {D : DataW Value} (h : DkAt w F b S v mb D) (hk : ∀ (k : Nat) (o : Obj), w.heap[k]? = some o → (∀ x y z t, o ≠ .mapIter x y z t) → w'.heap[k]? = some o) : DkAt w' F b S v mb D := by
  obtain ⟨es, clock, hm⟩ := map_block h.map
  refine ⟨hk _ _ h.blk (by simp), ownsRow_of_block h.secs (fun k o hv ho => ?_), ownsMap_of_block h.map (fun o ho => hk _ _ ho (by rw [hm] at ho; rw [← Option.some.inj ho]; simp)), fun k hi => ownsRow_of_block (h.rows k hi) (fun j o hv ho => ?_), h.keys, h.apart, h.inB, h.inM, h.inS, h.inV, h.good⟩
  · obtain ⟨cur, hh⟩ := row_block h.secs hv
    exact hk k o ho (by rw [hh] at ho; rw [← Option.some.inj ho]; simp)
  · obtain ⟨cur, hh⟩ := row_block (h.rows k hi) hv
    exact hk j o ho (by rw [hh] at ho; rw [← Option.some.inj ho]; simp)
theorem sameKey_int (i j : Int) : (Lit.int .i64 i).sameKey (.int .i64 j) = decide (i = j) := by
  by_cases h : i = j
  · subst h; rw [WideAt.sameKey_self (by trivial)]; simp
  · rw [Maps.sameKey_ne (lit_ne h)]; simp [h]
theorem flF_step {S : List Sec} {left : Lit → Bool} {i : Nat} {s : Sec} (hs : S[i]? = some s) (hw : s.wait ≠ []) : (partS S (flF left)).set i s.fl = partS S (flF (fun z => left z && !z.sameKey (.int .i64 (i : Int)))) := by
  refine partS_set hs ?_ (fun j t hj => ?_)
  · simp only [flF, sameKey_int]
    cases hq : s.wait with
    | nil => exact absurd hq hw
    | cons a t => simp
  · have : ¬ (j : Int) = (i : Int) := by omega
    simp [flF, sameKey_int, this]
/-- A slice's value out of its parts. -/
def mkS (t : Option Addr × Nat × Nat) : Value := .slice t.1 t.2.1 t.2.2

/-- What Flush leaves. -/
def Flushed (F : Nat → Prop) (b : Nat) (S : List Sec) (w : World) (e : Ending) (w' : World) : Prop := e = .returned (.int .i64 ((pend S).length : Int)) ∧ Dk w' (ext F w w') b (S.map Sec.flushed) ∧ Turn F w w'

set_option maxRecDepth 100000 in
set_option maxHeartbeats 2000000 in
theorem flush_any {w : World} {F : Nat → Prop} {b : Nat} {S : List Sec} (h : Dk w F b S) (hww : ∀ s ∈ S, s.wait.length ≤ 1000000) :
    Calls Tryz.prog 76 #[.pointer (some ⟨b, 0, none⟩)] w (Flushed F b S w) := by
  obtain ⟨v, mb, D, h⟩ := h
  have c1 := two_cell1 h.blk
  have hlen := h.map.len (t := 102) Tryz.underlying102 3
  rw [map_size h.map h.keys] at hlen
  have HD := hide h
  have HWW := hide hww
  have HC1 := hide c1
  clear h hww
  have hmm := @run_makeMap Tryz.prog
  go_enter Tryz.func76, Tryz.ntmps76
  go_wp2_with (first | (at_range; refine wpList_range_own _ rfl _ _ rfl 3 116 lawK Tryz.underlying102 rawE mb (Maps.size D) D rfl HD.out.map ?_))
  intro w0 hrg0 hg0 hs0
  have hb0 : Below w.heap.size w w0 := ⟨hg0.os, hg0.tape, hg0.output, hg0.size, fun k hk => hg0.block k hk (by simp)⟩
  have HST : Hid (∃ left, w0.ranges Tryz.prog 3 rawE mb w.heap.size (Maps.size D) D left (Maps.size D) ∧ DkAt w0 (ext F w w0) b (partS S (flF left)) v mb D ∧ Turn F w w0) := by
    refine ⟨_, hrg0, ?_, Turn.of_below hb0⟩
    rw [flF_start _ _ (fun i s hs hw => (HD.out.keys _).2 ⟨i, s, rfl, hs, hw⟩)]
    exact (HD.out.below hb0).mono (fun _ hk => .inl hk)
  clear hrg0 hg0 hs0 hb0 c1 hlen
  go_wp2_with fail
  go_loopg [4] (Maps.size D) (fun cnt _ wr => ∃ left, wr.ranges Tryz.prog 3 rawE mb w.heap.size (Maps.size D) D left cnt ∧ DkAt wr (ext F w wr) b (partS S (flF left)) v mb D ∧ Turn F w wr)
  case atStart => exact HST.out
  case round =>
    clear HST
    obtain ⟨left, hrg, hdk, htn⟩ := hrel
    have HRG := hide hrg
    have HDK := hide hdk
    have HTN := hide htn
    have c1 := two_cell1 hdk.blk
    have hbs := heap_lt hdk.blk
    clear hdk htn hrg
    go_wp2_with (at_next; refine wpList_next_ranges _ rfl _ rfl 3 lawK rawE (Value.int .i64) mkS (fun key kl hkey => by obtain ⟨x, rfl, _⟩ := Maps.keyOf_int_inv Tryz.underlying3 hkey; exact ⟨x, rfl⟩) (fun vv y hv => by obtain ⟨⟨a, n, c, rfl⟩, -⟩ := rawE_inv hv; exact ⟨(a, n, c), rfl⟩) mb w.heap.size (Maps.size D) D left gk rfl HRG.out ?_ ?_)
    · intro hc0 hl0
      have HFIN := hide (reset_core HDK.out)
      rw [flF_end left hl0, set_alloc wr hbs] at HFIN
      have fr1 := row_frozen HDK.out.blk 1
      have HSZ := hide HTN.out.size
      clear hl0 hc0
      go_wp2
      go_ret
      refine ⟨rfl, HFIN.out.1.mono (fun k hk => ext_ext HSZ.out HFIN.out.2.size k hk), HTN.out.trans HFIN.out.2 (fun k hk h => ?_)⟩
      rcases h with h | h
      · exact h
      · omega
    · intro x ca cn cc kl yd yp w1 cnt1 hkey hlk hv hat hrg1 hlt hg1 hs1 hen
      obtain ⟨x', ex, rfl, hwx⟩ := Maps.keyOf_int_inv Tryz.underlying3 hkey
      cases ex
      have hI := I64.of_wf hwx
      obtain ⟨i, s1, e1, hs1', hw1⟩ := (HDK.out.keys _).1 (Maps.has_true_of_atKey hat)
      obtain rfl : x = (i : Int) := by injection e1
      rw [partS_get] at hs1'
      obtain ⟨s, hs, rfl⟩ := Option.map_eq_some_iff.1 hs1'
      rw [flF_wait] at hw1
      have hfs : flF left i s = s := by unfold flF; rw [hlk]; simp
      have hsP : (partS S (flF left))[i]? = some s := by rw [partS_get, hs, Option.map_some, hfs]
      have hyd : yd = .held (.slice ca cn cc) := by
        have := (rawE_inv hv).2
        simpa [mkS] using congrArg Prod.fst this
      have hval : valAt D (i : Int) = .slice ca cn cc := by unfold valAt; rw [hat, hyd]
      have hcn : cn = s.wait.length := by
        have hr := HDK.out.rows _ hI
        rw [hval, wt_at hsP] at hr
        obtain ⟨ao', cap', e⟩ := ownsRow_form hr
        injection e
      subst hcn
      rw [show mkS (ca, s.wait.length, cc) = .slice ca s.wait.length cc from rfl] at hen ⊢
      have hrit := ranges_iter HRG.out
      have hdk1 : DkAt w1.drew (ext F w wr) b (partS S (flF left)) v mb D := HDK.out.kept (fun k o ho hno => by
        obtain ⟨q1, q2, q3, q4, hq⟩ := hrit
        show w1.heap[k]? = some o
        rw [hg1.block k (heap_lt ho) (fun e => ?_)]
        · exact ho
        · have e := Option.some.inj e
          rw [e, hq] at ho
          exact hno _ _ _ _ (Option.some.inj ho).symm)
      obtain ⟨g, cap, cur, hvv, hgc, -⟩ := ownsRow_pos hdk1.secs (by rw [partS_length]; exact len_pos hs)
      subst hvv
      have HDK1 := hide hdk1
      have HG1 := hide hg1
      have HRG1 := hide hrg1
      have HSW : Hid (s.wait.length ≤ 1000000) := HWW.out s (List.mem_of_getElem? hs)
      have HCH := hide (choose_any (⟨_, mb, D, hdk1⟩ : Dk w1.drew (ext F w wr) b (partS S (flF left))) hsP (s.wait.length : Int) (by have := HSW.out; unfold I64; omega) HSW.out)
      have HTC : Hid (Con s.top) := s.top_con (HD.out.good.2 s (List.mem_of_getElem? hs))
      have HSP := hide hsP
      have HS := hide hs
      have HW1 := hide hw1
      have HLT := hide hlt
      have hil : i < (partS S (flF left)).length := (List.getElem?_eq_some_iff.1 hsP).1
      have HGC := hide hgc
      clear hkey hlk hv hat hrg1 hlt hg1 hwx hI hs1' hs hw1 hfs hsP hyd hval hrit hdk1 hgc
      go_wp2_with fail
      refine wp_region_held_drew (S := fun wx => wx.cell? ⟨b, 0, none⟩ = some (.slice (some ⟨g, 0, none⟩) (partS S (flF left)).length cap)) (by kernel_rfl) (two_cell0 HDK1.out.blk) (fun hS => ?_)
      refine take_run 0 (some 21) (.pointer (some ⟨b, 0, none⟩)) rfl rfl rfl (by kernel_rfl) (by kernel_rfl) (by kernel_rfl) (fun _ _ _ h => h) (fun wx hx => exec_move rfl rfl) hS ?_
      simp only [Act.put, List.setIfInBounds_toArray, List.set_cons_zero, List.set_cons_succ]
      refine take_run 1 (some 22) (.pointer (some ⟨b, 0, none⟩)) rfl rfl rfl (by kernel_rfl) (by kernel_rfl) (by kernel_rfl) (fun _ _ _ h => h) (fun wx hx => exec_nilCheck rfl rfl) hS ?_
      simp only [Act.put, List.setIfInBounds_toArray, List.set_cons_zero, List.set_cons_succ]
      refine take_run 2 (some 23) (.pointer (some ⟨b, 0, none⟩)) rfl rfl rfl (by kernel_rfl) (by kernel_rfl) (by kernel_rfl) (fun _ _ _ h => h) (fun wx hx => exec_field rfl (field0 b wx) rfl) hS ?_
      simp only [Act.put, List.setIfInBounds_toArray, List.set_cons_zero, List.set_cons_succ]
      refine take_run 3 (some 24) (.slice (some ⟨g, 0, none⟩) (partS S (flF left)).length cap) rfl rfl rfl (by kernel_rfl) (by kernel_rfl) (by kernel_rfl) (fun _ _ _ h => h) (fun wx hx => exec_load rfl (load_secs hx) rfl) hS ?_
      simp only [Act.put, List.setIfInBounds_toArray, List.set_cons_zero, List.set_cons_succ]
      refine take_run 4 (some 25) (.int .i64 (i : Int)) rfl rfl rfl (by kernel_rfl) (by kernel_rfl) (by kernel_rfl) (fun _ _ _ h => h) (fun wx hx => exec_move rfl rfl) hS ?_
      simp only [Act.put, List.setIfInBounds_toArray, List.set_cons_zero, List.set_cons_succ]
      refine take_run 5 (some 26) (.pointer (some ⟨b, 0, none⟩)) rfl rfl rfl (by kernel_rfl) (by kernel_rfl) (by kernel_rfl) (fun _ _ _ h => h) (fun wx hx => exec_move rfl rfl) hS ?_
      simp only [Act.put, List.setIfInBounds_toArray, List.set_cons_zero, List.set_cons_succ]
      refine take_run 6 (some 27) (.int .i64 (i : Int)) rfl rfl rfl (by kernel_rfl) (by kernel_rfl) (by kernel_rfl) (fun _ _ _ h => h) (fun wx hx => exec_move rfl rfl) hS ?_
      simp only [Act.put, List.setIfInBounds_toArray, List.set_cons_zero, List.set_cons_succ]
      refine take_run 7 (some 28) (.slice ca s.wait.length cc) rfl rfl rfl (by kernel_rfl) (by kernel_rfl) (by kernel_rfl) (fun _ _ _ h => h) (fun wx hx => exec_move rfl rfl) hS ?_
      simp only [Act.put, List.setIfInBounds_toArray, List.set_cons_zero, List.set_cons_succ]
      refine take_run 8 (some 29) (.int .i64 (s.wait.length : Int)) rfl rfl rfl (by kernel_rfl) (by kernel_rfl) (by kernel_rfl) (fun _ _ _ h => h) (fun wx hx => exec_len rfl (len_con wx ca _ cc) rfl) hS ?_
      simp only [Act.put, List.setIfInBounds_toArray, List.set_cons_zero, List.set_cons_succ]
      refine only_call 9 (some 30) rfl rfl rfl (by kernel_rfl) (exec_call3 rfl enterChoose rfl rfl rfl rfl) (HCH.out.mono ?_)
      rintro e w2 ⟨rfl, hb2⟩
      have hdk2 := HDK1.out.below hb2
      refine ⟨_, rfl, two_cell0 hdk2.blk, ?_⟩
      simp only [Act.put, List.setIfInBounds_toArray, List.set_cons_zero, List.set_cons_succ]
      obtain ⟨w3, hr3, hdk3, hg3, hsz3⟩ := store_dur hdk2 HSP.out HTC.out
      have hgb : g ≠ b := fun e => by have h1 := HGC.out; have h2 := HDK1.out.blk; rw [e] at h1; rw [h1] at h2; simp at h2
      have h02 := two_cell0 hdk2.blk
      refine only_value 10 (some 31) (v := .pointer (some ⟨g, i * 129, none⟩)) rfl rfl rfl (by kernel_rfl) (exec_index rfl (index_sec hil) rfl rfl) h02 ?_
      simp only [Act.put, List.setIfInBounds_toArray, List.set_cons_zero, List.set_cons_succ]
      refine only_value 11 (some 32) (v := .pointer (some ⟨g, i * 129, none⟩)) rfl rfl rfl (by kernel_rfl) (exec_field rfl (secField0 g _ _) rfl) h02 ?_
      simp only [Act.put, List.setIfInBounds_toArray, List.set_cons_zero, List.set_cons_succ]
      refine only_skip 12 none rfl rfl rfl (by kernel_rfl) (exec_store rfl hr3 rfl rfl) (by rw [hg3.cell h02 (by simpa using hgb.symm)]) ?_
      refine wpAnyH_done (by kernel_rfl) ?_ _
      have HEND : Hid (∃ left', w3.ranges Tryz.prog 3 rawE mb w.heap.size (Maps.size D) D left' cnt1 ∧ DkAt w3 (ext F w w3) b (partS S (flF left')) (.slice (some ⟨g, 0, none⟩) (partS S (flF left)).length cap) mb D ∧ Turn F w w3) := by
        have hz1 : w1.heap.size ≤ w2.heap.size := hb2.size
        have hzr := HTN.out.size
        have hg1s := HG1.out.size
        have hgin := HDK1.out.inS g rfl
        have hgmb : g ≠ mb := fun e => by
          obtain ⟨es, clock, hm⟩ := map_block HDK1.out.map
          have h1 := HGC.out
          rw [e, hm] at h1; cases h1
        have hgr : g ≠ w.heap.size := fun e => by
          obtain ⟨q1, q2, q3, q4, hq⟩ := ranges_iter HRG1.out
          have h1 := HGC.out
          rw [e] at h1
          have h1' : w1.heap[w.heap.size]? = _ := h1
          rw [hq] at h1'; cases h1'
        have hkeep : ∀ k o, k ≠ g → w1.heap[k]? = some o → w3.heap[k]? = some o := fun k o hk ho => by
          have h2 : w2.heap[k]? = some o := by rw [hb2.block k (heap_lt ho)]; exact ho
          rw [hg3.block k (heap_lt h2) (by simpa using hk)]; exact h2
        refine ⟨_, ranges_kept HRG1.out (fun o ho => hkeep mb o hgmb.symm ho) (fun o ho => hkeep _ o hgr.symm ho), ?_, ?_⟩
        · rw [← flF_step HS.out HW1.out]
          have : ({ s with dur := s.top } : Sec) = s.fl := rfl
          rw [this] at hdk3
          exact hdk3.mono (fun k hk => ext_mono (by omega) k hk)
        · refine HTN.out.trans (F1 := fun k => k = w.heap.size) (Turn.of_grown HG1.out (fun k hk => (Option.some.inj hk).symm)) (fun k hk h => by omega) |>.trans (F1 := ext F w wr) ((Turn.of_below (w := w1) ⟨hb2.os, hb2.tape, hb2.output, hb2.size, hb2.block⟩).trans (F1 := ext F w wr) (Turn.of_grown hg3 (fun k hk => by rw [← Option.some.inj hk]; exact hgin)) (fun _ _ h => h)) (fun k hk h => ?_)
          rcases h with h | h
          · exact h
          · omega
      clear hr3 hdk3 hg3 hsz3 hgb h02 hdk2 hb2 hS HCH HGC HDK1 hil
      go_wp2_with fail
      go_roundg cnt1
      case measure => exact HLT.out
      case rel => exact HEND.out
end Go.Proofs.YtliboiajhhnajaaGreatDoor

/- The contracts of the library for maps.Keys, slices.Sorted and slices.Sort, laid at this program by the numbers of its functions and types. -/
namespace Go.Proofs.YtliboiajhhnajaaGreatDoor
open Go.RowKit Go.Maps Go.Sort Go.Shelf
def Tryz.keysA_ren : Go.Shelf.Ren := ⟨fun | 7 => 82 | 10 => 89 | n => n, fun | 23 => 102 | 26 => 3 | 3 => 116 | 28 => 133 | 0 => 0 | 27 => 132 | 33 => 91 | 4 => 4 | n => n, fun | n => n⟩
theorem Tryz.keysA : Go.Proofs.SlLaysZI.n7 Tryz.prog Tryz.keysA_ren := {
  mixed := by kernel_rfl
  f7 := ⟨Tryz.f82.name, by decide, Tryz.func82.trans (congrArg some (by kernel_rfl))⟩
  f10 := ⟨Tryz.f89.name, by decide, Tryz.func89.trans (congrArg some (by kernel_rfl))⟩
  t0 := Tryz.underlying0
  a0 := Tryz.isAgg0
  z0 := Tryz.sizeOf0
  v0 := Tryz.zeroValue0
  t4 := Tryz.underlying4
  a4 := Tryz.isAgg4
  z4 := Tryz.sizeOf4
  v4 := Tryz.zeroValue4
  t23 := Tryz.underlying102
  a23 := Tryz.isAgg102
  z23 := Tryz.sizeOf102
  v23 := Tryz.zeroValue102
  t26 := Tryz.underlying3
  a26 := Tryz.isAgg3
  z26 := Tryz.sizeOf3
  v26 := Tryz.zeroValue3
  t27 := Tryz.underlying132
  a27 := Tryz.isAgg132
  z27 := Tryz.sizeOf132
  v27 := Tryz.zeroValue132
  t28 := Tryz.underlying133
  a28 := Tryz.isAgg133
  z28 := Tryz.sizeOf133
  v28 := Tryz.zeroValue133
  t33 := Tryz.underlying91
  a33 := Tryz.isAgg91
  z33 := Tryz.sizeOf91
  v33 := Tryz.zeroValue91 }
def Tryz.sortedA_ren : Go.Shelf.Ren := ⟨fun | 6 => 81 | 8 => 87 | 9 => 88 | 11 => 92 | 13 => 94 | 12 => 93 | 23 => 104 | 24 => 105 | 14 => 95 | 15 => 96 | 16 => 97 | 17 => 98 | 18 => 99 | 19 => 100 | 20 => 101 | 21 => 102 | 22 => 103 | 25 => 106 | 26 => 107 | 27 => 108 | 28 => 109 | 29 => 110 | 30 => 111 | 31 => 112 | n => n, fun | 26 => 3 | 28 => 133 | 24 => 29 | 0 => 0 | 3 => 3 | 37 => 153 | 48 => 164 | 50 => 166 | 4 => 4 | 40 => 156 | 39 => 155 | 45 => 161 | 5 => 5 | 9 => 9 | 51 => 167 | 55 => 171 | 57 => 173 | 58 => 51 | 33 => 91 | n => n, fun | n => n⟩
theorem Tryz.sortedA : Go.Proofs.SlLaysZI.n6 Tryz.prog Tryz.sortedA_ren := {
  mixed := by kernel_rfl
  f6 := ⟨Tryz.f81.name, by decide, Tryz.func81.trans (congrArg some (by kernel_rfl))⟩
  f8 := ⟨Tryz.f87.name, by decide, Tryz.func87.trans (congrArg some (by kernel_rfl))⟩
  f11 := ⟨Tryz.f92.name, by decide, Tryz.func92.trans (congrArg some (by kernel_rfl))⟩
  t0 := Tryz.underlying0
  a0 := Tryz.isAgg0
  z0 := Tryz.sizeOf0
  v0 := Tryz.zeroValue0
  t24 := Tryz.underlying29
  a24 := Tryz.isAgg29
  z24 := Tryz.sizeOf29
  v24 := Tryz.zeroValue29
  t26 := Tryz.underlying3
  a26 := Tryz.isAgg3
  z26 := Tryz.sizeOf3
  v26 := Tryz.zeroValue3
  t28 := Tryz.underlying133
  a28 := Tryz.isAgg133
  z28 := Tryz.sizeOf133
  v28 := Tryz.zeroValue133
  i26 := by kernel_rfl }
def Tryz.sortA_ren : Go.Shelf.Ren := ⟨fun | 5 => 88 | 8 => 94 | 7 => 93 | 19 => 104 | 20 => 105 | 10 => 95 | 11 => 96 | 12 => 97 | 13 => 98 | 14 => 99 | 15 => 100 | 16 => 101 | 17 => 102 | 18 => 103 | 30 => 106 | 31 => 107 | 32 => 108 | 33 => 109 | 34 => 110 | 35 => 111 | 40 => 112 | n => n, fun | 23 => 29 | 25 => 3 | 3 => 3 | 32 => 153 | 22 => 29 | 0 => 0 | 44 => 164 | 46 => 166 | 4 => 4 | 36 => 156 | 35 => 155 | 41 => 161 | 5 => 5 | 9 => 9 | 53 => 167 | 57 => 171 | 63 => 173 | 64 => 51 | n => n, fun | n => n⟩
theorem Tryz.sortA : Go.Proofs.SlLaysM.n5 Tryz.prog Tryz.sortA_ren := {
  mixed := by kernel_rfl
  f5 := ⟨Tryz.f88.name, by decide, Tryz.func88.trans (congrArg some (by kernel_rfl))⟩
  f7 := ⟨Tryz.f93.name, by decide, Tryz.func93.trans (congrArg some (by kernel_rfl))⟩
  f8 := Tryz.func94.trans (congrArg some (by kernel_rfl))
  f10 := ⟨Tryz.f95.name, by decide, Tryz.func95.trans (congrArg some (by kernel_rfl))⟩
  f11 := ⟨Tryz.f96.name, by decide, Tryz.func96.trans (congrArg some (by kernel_rfl))⟩
  f12 := ⟨Tryz.f97.name, by decide, Tryz.func97.trans (congrArg some (by kernel_rfl))⟩
  f13 := ⟨Tryz.f98.name, by decide, Tryz.func98.trans (congrArg some (by kernel_rfl))⟩
  f14 := ⟨Tryz.f99.name, by decide, Tryz.func99.trans (congrArg some (by kernel_rfl))⟩
  f15 := ⟨Tryz.f100.name, by decide, Tryz.func100.trans (congrArg some (by kernel_rfl))⟩
  f16 := ⟨Tryz.f101.name, by decide, Tryz.func101.trans (congrArg some (by kernel_rfl))⟩
  f17 := ⟨Tryz.f102.name, by decide, Tryz.func102.trans (congrArg some (by kernel_rfl))⟩
  f18 := ⟨Tryz.f103.name, by decide, Tryz.func103.trans (congrArg some (by kernel_rfl))⟩
  f19 := Tryz.func104.trans (congrArg some (by kernel_rfl))
  f20 := Tryz.func105.trans (congrArg some (by kernel_rfl))
  f30 := ⟨Tryz.f106.name, by decide, Tryz.func106.trans (congrArg some (by kernel_rfl))⟩
  f31 := Tryz.func107.trans (congrArg some (by kernel_rfl))
  f32 := Tryz.func108.trans (congrArg some (by kernel_rfl))
  f33 := ⟨Tryz.f109.name, by decide, Tryz.func109.trans (congrArg some (by kernel_rfl))⟩
  f34 := ⟨Tryz.f110.name, by decide, Tryz.func110.trans (congrArg some (by kernel_rfl))⟩
  f35 := ⟨Tryz.f111.name, by decide, Tryz.func111.trans (congrArg some (by kernel_rfl))⟩
  f40 := ⟨Tryz.f112.name, by decide, Tryz.func112.trans (congrArg some (by kernel_rfl))⟩
  t0 := Tryz.underlying0
  a0 := Tryz.isAgg0
  z0 := Tryz.sizeOf0
  v0 := Tryz.zeroValue0
  t3 := Tryz.underlying3
  a3 := Tryz.isAgg3
  z3 := Tryz.sizeOf3
  v3 := Tryz.zeroValue3
  t4 := Tryz.underlying4
  a4 := Tryz.isAgg4
  z4 := Tryz.sizeOf4
  v4 := Tryz.zeroValue4
  t5 := Tryz.underlying5
  a5 := Tryz.isAgg5
  z5 := Tryz.sizeOf5
  v5 := Tryz.zeroValue5
  t9 := Tryz.underlying9
  a9 := Tryz.isAgg9
  z9 := Tryz.sizeOf9
  v9 := Tryz.zeroValue9
  t22 := Tryz.underlying29
  a22 := Tryz.isAgg29
  z22 := Tryz.sizeOf29
  v22 := Tryz.zeroValue29
  t23 := Tryz.underlying29
  a23 := Tryz.isAgg29
  z23 := Tryz.sizeOf29
  v23 := Tryz.zeroValue29
  t25 := Tryz.underlying3
  a25 := Tryz.isAgg3
  z25 := Tryz.sizeOf3
  v25 := Tryz.zeroValue3
  t32 := Tryz.underlying153
  a32 := Tryz.isAgg153
  z32 := Tryz.sizeOf153
  v32 := Tryz.zeroValue153
  t35 := Tryz.underlying155
  a35 := Tryz.isAgg155
  z35 := Tryz.sizeOf155
  v35 := Tryz.zeroValue155
  t36 := Tryz.underlying156
  a36 := Tryz.isAgg156
  z36 := Tryz.sizeOf156
  v36 := Tryz.zeroValue156
  t41 := Tryz.underlying161
  a41 := Tryz.isAgg161
  z41 := Tryz.sizeOf161
  v41 := Tryz.zeroValue161
  t44 := Tryz.underlying164
  a44 := Tryz.isAgg164
  z44 := Tryz.sizeOf164
  v44 := Tryz.zeroValue164
  t46 := Tryz.underlying166
  a46 := Tryz.isAgg166
  z46 := Tryz.sizeOf166
  v46 := Tryz.zeroValue166
  t53 := Tryz.underlying167
  a53 := Tryz.isAgg167
  z53 := Tryz.sizeOf167
  v53 := Tryz.zeroValue167
  t57 := Tryz.underlying171
  a57 := Tryz.isAgg171
  z57 := Tryz.sizeOf171
  v57 := Tryz.zeroValue171
  t63 := Tryz.underlying173
  a63 := Tryz.isAgg173
  z63 := Tryz.sizeOf173
  v63 := Tryz.zeroValue173
  t64 := Tryz.underlying51
  a64 := Tryz.isAgg51
  z64 := Tryz.sizeOf51
  v64 := Tryz.zeroValue51 }
end Go.Proofs.YtliboiajhhnajaaGreatDoor
