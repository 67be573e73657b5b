/- The document's own By; the law's owners. -/
import Derived.Test.YtjopdejgijojmaaCg
namespace Go.Proofs.Ytjopdejgijojmaa
open Go.RowKit Go.Extern

/-- The pairs of an address. -/
def byR (l : List Ref) (a : Int) : List Ref := l.filter (fun r => decide (r.2 = a))
theorem byR_snoc {l : List Ref} {j : Nat} {y : Ref} (h : l[j]? = some y) (a : Int) : byR (l.take (j + 1)) a = byR (l.take j) a ++ (if y.2 = a then [y] else []) := by
  unfold byR
  rw [take_snoc h, List.filter_append]
  by_cases e : y.2 = a
  · simp [e]
  · simp [e]
theorem byR_length (l : List Ref) (a : Int) : (byR l a).length ≤ l.length := List.length_filter_le _ _
theorem byR_own (l : List Ref) (a : Int) : (byR l a).map Prod.fst = byS l a := rfl
set_option maxRecDepth 100000 in
set_option maxHeartbeats 2000000 in
theorem rby_any {F : Nat → Prop} {w : World} {ao : Option Addr} {g off : Nat} {l : List Ref} (hR : RefsAt F w ao g off l) (hl : l.length ≤ 100000) (cap : Nat) (a : Int) :
    Calls Try.prog 35 #[.slice ao l.length cap, .int .i64 a] w (RPutd w (byR l a)) := by
  have HRA := hide hR
  obtain ⟨nl, hnl⟩ : ∃ nl, l.length = nl := ⟨_, rfl⟩
  rw [hnl]
  clear hR
  go_enter Try.func35, Try.ntmps35
  go_wp2_with fail
  go_loopg [5, 6] nl (fun k ov i wr => ∃ (j : Nat), j + k = nl ∧ i = .int .i64 (j : Int) ∧ Hid (wr.ownsRow w.heap.size 28 3 ov (byR (l.take j) a).length (refsC (byR (l.take j) a))) ∧ Hid (Below w.heap.size w wr))
  case atStart => exact ⟨0, by omega, rfl, hide (World.ownsRow_nil _ _ _ _), hide (Below.refl _ _)⟩
  case round =>
    obtain ⟨j, hj, rfl, HOW, HBw⟩ := hrel
    cases gk with
    | zero =>
      have hnlt : ¬ ((j : Nat) : Int) < (nl : Int) := by omega
      rw [List.take_of_length_le (by omega)] at HOW
      obtain ⟨ao5, cap5, hv5⟩ := ownsRow_form HOW.out
      subst hv5
      go_wp2_with fail
      go_ret
      exact ⟨_, rfl, HOW.out, HBw.out⟩
    | succ m =>
      have hlti : (j : Int) < (nl : Int) := by omega
      have hge : (0 : Int) ≤ (j : Int) := by omega
      obtain ⟨y, hy⟩ : ∃ y, l[j]? = some y := ⟨l[j]'(by omega), by rw [List.getElem?_eq_getElem]⟩
      obtain rfl := HRA.out.ad (by omega)
      obtain ⟨c1, c2, c3⟩ := (HRA.out.below HBw.out).cells j y hy
      have HSN := hide (byR_snoc hy a)
      have e7 : IntKind.i64.wrap ((j : Int) + 1) = (j : Int) + 1 := IntWalk.i64_in _ ⟨by omega, by omega⟩
      obtain ⟨out, hout⟩ : ∃ out, byR (l.take j) a = out := ⟨_, rfl⟩
      rw [hout] at HSN HOW
      have hlo : out.length ≤ 500000 := by
        have h1 := byR_length (l.take j) a
        have h2 := List.length_take_le j l
        rw [hout] at h1; omega
      obtain ⟨ao5, cap5, hv5⟩ := ownsRow_form HOW.out
      subst hv5
      clear hy
      by_cases hya : y.2 = a
      · have hyab : (y.2 == a) = true := by simpa using hya
        rw [if_pos hya] at HSN
        have bN := boxR_new wr y 28
        obtain ⟨v', w5, hap, hown', hgrow⟩ := append_ref (HOW.out.alloc (.cells #[.int .i64 y.1.1, .int .i64 y.1.2, .int .i64 y.2] 28)) bN.1 bN.2.1 bN.2.2 (by have := HBw.out.size; simp; omega) (by omega) 26
        have HO5 := hide (ownsRow_len (r := y) hown')
        have HB5 : Hid (Below w.heap.size w w5) := hide ((HBw.out.alloc HBw.out.size _).grown hgrow (by have := HBw.out.size; simp; omega) (fun k e => (HOW.out.lt k e).1))
        obtain ⟨ao6, cap6, hv6⟩ := ownsRow_form hown'
        subst hv6
        clear hown' hgrow bN hya
        go_wp2_with (at_builtin; refine wpList_append_eq rfl _ _ rfl rfl rfl hap ?_)
        go_roundg m
        case measure => omega
        case rel => exact ⟨j + 1, by omega, by go_num, hide (by rw [HSN.out]; exact HO5.out), HB5⟩
      · have hyab : (y.2 == a) = false := by simpa using hya
        rw [if_neg hya, List.append_nil] at HSN
        clear hya
        go_wp2_with fail
        go_roundg m
        case measure => omega
        case rel => exact ⟨j + 1, by omega, by go_num, hide (by rw [HSN.out]; exact HOW.out), HBw⟩
set_option maxRecDepth 100000 in
set_option maxHeartbeats 2000000 in
theorem ownersEq_any {F F' : Nat → Prop} {w : World} {aoA aoB : Option Addr} {gA gB offB : Nat} {os : List Own} {rs : List Ref} (hA : OwnsAt F w aoA gA os) (hB : RefsAt F' w aoB gB offB rs) (he : rs.map Prod.fst = os) {n : Nat} (hn : os.length = n) (hl : n ≤ 100000) (capA capB : Nat) :
    Calls Try.prog 36 #[.slice aoA n capA, .slice aoB n capB] w fun e w' => e = .returned (.bool true) ∧ Below w.heap.size w w' := by
  have HA := hide hA
  have HR := hide hB
  have HE := hide he
  have HNR : Hid (rs.length = n) := hide (by rw [← hn, ← he]; simp)
  clear hA hB he
  go_enter Try.func36, Try.ntmps36
  go_wp2_with fail
  go_loopg [13] n (fun k i wr => ∃ (j : Nat), j + k = n ∧ i = .int .i64 (j : Int) ∧ Hid (Below w.heap.size w wr))
  case atStart => exact ⟨0, by omega, rfl, hide (Below.refl _ _)⟩
  case round =>
    obtain ⟨j, hj, rfl, HBw⟩ := hrel
    cases gk with
    | zero =>
      have hnlt : ¬ ((j : Nat) : Int) < (n : Int) := by omega
      go_wp2_with fail
      go_ret
      exact ⟨rfl, HBw.out⟩
    | succ m =>
      have hjn : j < n := by omega
      have hlti : (j : Int) < (n : Int) := by omega
      have hge : (0 : Int) ≤ (j : Int) := by omega
      obtain ⟨r, hr⟩ : ∃ r, rs[j]? = some r := ⟨rs[j]'(by have := HNR.out; omega), by rw [List.getElem?_eq_getElem]⟩
      obtain ⟨o, c⟩ := r
      have HRO := hide hr
      have HO : Hid (os[j]? = some o) := hide (by rw [← HE.out, List.getElem?_map, hr]; rfl)
      obtain rfl := HA.out.ad (by omega)
      obtain rfl := HR.out.ad (by have := HNR.out; omega)
      have e7 : IntKind.i64.wrap ((j : Int) + 1) = (j : Int) + 1 := IntWalk.i64_in _ ⟨by omega, by omega⟩
      clear hr
      go_wp2_with fail
      refine wp_region_held_drew (S := Below wr.heap.size wr) (by kernel_rfl) (below_drew0 wr) (fun hS => ?_)
      refine take_want 0 (some 16) (.slice (some ⟨gA, 0, none⟩) n capA) rfl rfl rfl (by kernel_rfl) (by kernel_rfl) (by kernel_rfl) (fun _ _ _ h => h) (fun wx hx => exec_move rfl rfl) hS ?_
      simp only [Act.put, List.setIfInBounds_toArray, List.set_cons_zero, List.set_cons_succ]
      refine take_want 1 (some 17) (.int .i64 (j : Int)) rfl rfl rfl (by kernel_rfl) (by kernel_rfl) (by kernel_rfl) (fun _ _ _ h => h) (fun wx hx => exec_move rfl rfl) hS ?_
      simp only [Act.put, List.setIfInBounds_toArray, List.set_cons_zero, List.set_cons_succ]
      refine take_want 2 (some 18) (.pointer (some ⟨gA, j * 2, none⟩)) rfl rfl rfl (by kernel_rfl) (by kernel_rfl) (by kernel_rfl) (fun _ _ _ h => h) (fun wx hx => exec_index rfl (index_owners hjn) rfl rfl) hS ?_
      simp only [Act.put, List.setIfInBounds_toArray, List.set_cons_zero, List.set_cons_succ]
      refine take_want 3 (some 19) (.pointer (some ⟨gA, j * 2, none⟩)) rfl rfl rfl (by kernel_rfl) (by kernel_rfl) (by kernel_rfl) (fun _ _ _ h => h) (fun wx hx => exec_field rfl (fldP0 _ _ wx) rfl) hS ?_
      simp only [Act.put, List.setIfInBounds_toArray, List.set_cons_zero, List.set_cons_succ]
      refine take_want 4 (some 20) (.int .i64 o.1) rfl rfl rfl (by kernel_rfl) (by kernel_rfl) (by kernel_rfl) (fun _ _ _ h => h) (fun wx hx => exec_load rfl (load_intV ((HA.out.below (below_next HBw.out hx)).cells j o HO.out).1) rfl) hS ?_
      simp only [Act.put, List.setIfInBounds_toArray, List.set_cons_zero, List.set_cons_succ]
      refine take_want 5 (some 21) (.slice (some ⟨gB, offB, none⟩) n capB) rfl rfl rfl (by kernel_rfl) (by kernel_rfl) (by kernel_rfl) (fun _ _ _ h => h) (fun wx hx => exec_move rfl rfl) hS ?_
      simp only [Act.put, List.setIfInBounds_toArray, List.set_cons_zero, List.set_cons_succ]
      refine take_want 6 (some 22) (.int .i64 (j : Int)) rfl rfl rfl (by kernel_rfl) (by kernel_rfl) (by kernel_rfl) (fun _ _ _ h => h) (fun wx hx => exec_move rfl rfl) hS ?_
      simp only [Act.put, List.setIfInBounds_toArray, List.set_cons_zero, List.set_cons_succ]
      refine take_want 7 (some 23) (.pointer (some ⟨gB, offB + j * 3, none⟩)) rfl rfl rfl (by kernel_rfl) (by kernel_rfl) (by kernel_rfl) (fun _ _ _ h => h) (fun wx hx => exec_index rfl (index_refs hjn) rfl rfl) hS ?_
      simp only [Act.put, List.setIfInBounds_toArray, List.set_cons_zero, List.set_cons_succ]
      refine take_want 8 (some 24) (.pointer (some ⟨gB, offB + j * 3, none⟩)) rfl rfl rfl (by kernel_rfl) (by kernel_rfl) (by kernel_rfl) (fun _ _ _ h => h) (fun wx hx => exec_field rfl (fldQ0 _ _ wx) rfl) hS ?_
      simp only [Act.put, List.setIfInBounds_toArray, List.set_cons_zero, List.set_cons_succ]
      refine take_want 9 (some 25) (.int .i64 o.1) rfl rfl rfl (by kernel_rfl) (by kernel_rfl) (by kernel_rfl) (fun _ _ _ h => h) (fun wx hx => exec_load rfl (load_intV ((HR.out.below (below_next HBw.out hx)).cells j (o, c) HRO.out).1) rfl) hS ?_
      simp only [Act.put, List.setIfInBounds_toArray, List.set_cons_zero, List.set_cons_succ]
      refine take_want 10 (some 26) (.bool false) rfl rfl rfl (by kernel_rfl) (by kernel_rfl) (by kernel_rfl) (fun _ _ _ h => h) (fun wx hx => exec_neqN rfl rfl rfl rfl) hS ?_
      simp only [Act.put, List.setIfInBounds_toArray, List.set_cons_zero, List.set_cons_succ]
      refine take_want 11 (some 27) (.bool false) rfl rfl rfl (by kernel_rfl) (by kernel_rfl) (by kernel_rfl) (fun _ _ _ h => h) (fun wx hx => exec_move rfl rfl) hS ?_
      simp only [Act.put, List.setIfInBounds_toArray, List.set_cons_zero, List.set_cons_succ]
      refine take_want 12 (some 28) (.slice (some ⟨gA, 0, none⟩) n capA) rfl rfl rfl (by kernel_rfl) (by kernel_rfl) (by kernel_rfl) (fun _ _ _ h => h) (fun wx hx => exec_move rfl rfl) hS ?_
      simp only [Act.put, List.setIfInBounds_toArray, List.set_cons_zero, List.set_cons_succ]
      refine take_want 13 (some 29) (.int .i64 (j : Int)) rfl rfl rfl (by kernel_rfl) (by kernel_rfl) (by kernel_rfl) (fun _ _ _ h => h) (fun wx hx => exec_move rfl rfl) hS ?_
      simp only [Act.put, List.setIfInBounds_toArray, List.set_cons_zero, List.set_cons_succ]
      refine take_want 14 (some 30) (.pointer (some ⟨gA, j * 2, none⟩)) rfl rfl rfl (by kernel_rfl) (by kernel_rfl) (by kernel_rfl) (fun _ _ _ h => h) (fun wx hx => exec_index rfl (index_owners hjn) rfl rfl) hS ?_
      simp only [Act.put, List.setIfInBounds_toArray, List.set_cons_zero, List.set_cons_succ]
      refine take_want 15 (some 31) (.pointer (some ⟨gA, j * 2 + 1, none⟩)) rfl rfl rfl (by kernel_rfl) (by kernel_rfl) (by kernel_rfl) (fun _ _ _ h => h) (fun wx hx => exec_field rfl (fldP1 _ _ wx) rfl) hS ?_
      simp only [Act.put, List.setIfInBounds_toArray, List.set_cons_zero, List.set_cons_succ]
      refine take_want 16 (some 32) (.int .i64 o.2) rfl rfl rfl (by kernel_rfl) (by kernel_rfl) (by kernel_rfl) (fun _ _ _ h => h) (fun wx hx => exec_load rfl (load_intV ((HA.out.below (below_next HBw.out hx)).cells j o HO.out).2) rfl) hS ?_
      simp only [Act.put, List.setIfInBounds_toArray, List.set_cons_zero, List.set_cons_succ]
      refine take_want 17 (some 33) (.slice (some ⟨gB, offB, none⟩) n capB) rfl rfl rfl (by kernel_rfl) (by kernel_rfl) (by kernel_rfl) (fun _ _ _ h => h) (fun wx hx => exec_move rfl rfl) hS ?_
      simp only [Act.put, List.setIfInBounds_toArray, List.set_cons_zero, List.set_cons_succ]
      refine take_want 18 (some 34) (.int .i64 (j : Int)) rfl rfl rfl (by kernel_rfl) (by kernel_rfl) (by kernel_rfl) (fun _ _ _ h => h) (fun wx hx => exec_move rfl rfl) hS ?_
      simp only [Act.put, List.setIfInBounds_toArray, List.set_cons_zero, List.set_cons_succ]
      refine take_want 19 (some 35) (.pointer (some ⟨gB, offB + j * 3, none⟩)) rfl rfl rfl (by kernel_rfl) (by kernel_rfl) (by kernel_rfl) (fun _ _ _ h => h) (fun wx hx => exec_index rfl (index_refs hjn) rfl rfl) hS ?_
      simp only [Act.put, List.setIfInBounds_toArray, List.set_cons_zero, List.set_cons_succ]
      refine take_want 20 (some 36) (.pointer (some ⟨gB, offB + j * 3 + 1, none⟩)) rfl rfl rfl (by kernel_rfl) (by kernel_rfl) (by kernel_rfl) (fun _ _ _ h => h) (fun wx hx => exec_field rfl (fldQ1 _ _ wx) rfl) hS ?_
      simp only [Act.put, List.setIfInBounds_toArray, List.set_cons_zero, List.set_cons_succ]
      refine take_want 21 (some 37) (.int .i64 o.2) rfl rfl rfl (by kernel_rfl) (by kernel_rfl) (by kernel_rfl) (fun _ _ _ h => h) (fun wx hx => exec_load rfl (load_intV ((HR.out.below (below_next HBw.out hx)).cells j (o, c) HRO.out).2.1) rfl) hS ?_
      simp only [Act.put, List.setIfInBounds_toArray, List.set_cons_zero, List.set_cons_succ]
      refine take_want 22 (some 38) (.bool false) rfl rfl rfl (by kernel_rfl) (by kernel_rfl) (by kernel_rfl) (fun _ _ _ h => h) (fun wx hx => exec_neqN rfl rfl rfl rfl) hS ?_
      simp only [Act.put, List.setIfInBounds_toArray, List.set_cons_zero, List.set_cons_succ]
      refine take_want 23 (some 39) (.bool false) rfl rfl rfl (by kernel_rfl) (by kernel_rfl) (by kernel_rfl) (fun _ _ _ h => h) (fun wx hx => exec_pickF rfl rfl rfl) hS ?_
      simp only [Act.put, List.setIfInBounds_toArray, List.set_cons_zero, List.set_cons_succ]
      refine wpAnyH_done (by kernel_rfl) ?_ _
      have HB2 : Hid (Below w.heap.size w wr.drew) := hide (below_next HBw.out hS)
      clear hS
      go_wp2_with fail
      go_roundg m
      case measure => omega
      case rel => exact ⟨j + 1, by omega, by go_num, HB2⟩
end Go.Proofs.Ytjopdejgijojmaa
