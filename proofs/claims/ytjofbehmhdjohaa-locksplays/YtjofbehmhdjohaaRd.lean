/- isReady, May, Waiting, Ready, Ahead. -/
import Derived.Test.YtjofbehmhdjohaaTx
import Derived.Test.YtjofbehmhdjohaaIi
namespace Go.Proofs.Ytjofbehmhdjohaa
open Go.RowKit Go.Extern

/-- The entry at a place clashes with none ahead of it. -/
def freeB (E : List En) (x : En) (p : Nat) : Bool := !((E.take p).any fun s => clE x.sps s.sps)
set_option maxRecDepth 100000 in
set_option maxHeartbeats 2000000 in
theorem isReady_any {w : World} {F : Nat → Prop} {b : Nat} {E : List En} {last : Int} (h : Tb w F b E last) {p : Nat} {x : En} (hx : E[p]? = some x) :
    Calls Try.prog 35 #[.pointer (some ⟨b, 0, none⟩), .int .i64 (p : Int)] w (Clc w (freeB E x p)) := by
  obtain ⟨v, h⟩ := h
  obtain ⟨g, off, n, cap, rfl, hn, hp, hc, h1, k0, k1⟩ := h.ens.at_ hx
  have hC := fun wx (hb : Below w.heap.size w wx) => contE_any ((h.ens.below hb).take (m := p) (by omega)) ((h.ens.sps (List.mem_of_getElem? hx)).below hb)
  have c0 := h.c0
  unfold freeB
  obtain ⟨P, hP⟩ : ∃ P, ((E.take p).any fun s => clE x.sps s.sps) = P := ⟨_, rfl⟩
  rw [hP] at hC ⊢
  have hpc : p ≤ cap := by omega
  have HN := hide hn
  clear h hx hP hn
  go_enter Try.func35, Try.ntmps35
  go_wp2_with fail
  refine wp_region_held_drew (S := fun wx => Below w.heap.size w wx) (by kernel_rfl) (below_drew0 w) (fun hS => ?_)
  refine take_want 0 (some 5) (.pointer (some ⟨b, 0, none⟩)) rfl rfl rfl (by kernel_rfl) (by kernel_rfl) (by kernel_rfl) (fun _ _ _ h => h) (fun wx hx => exec_move rfl rfl) hS ?_
  simp only [Act.put, List.setIfInBounds_toArray, List.set_cons_zero, List.set_cons_succ]
  refine take_want 1 (some 6) (.pointer (some ⟨b, 0, none⟩)) rfl rfl rfl (by kernel_rfl) (by kernel_rfl) (by kernel_rfl) (fun _ _ _ h => h) (fun wx hx => exec_nilCheck rfl rfl) hS ?_
  simp only [Act.put, List.setIfInBounds_toArray, List.set_cons_zero, List.set_cons_succ]
  refine take_want 2 (some 7) (.pointer (some ⟨b, 0, none⟩)) rfl rfl rfl (by kernel_rfl) (by kernel_rfl) (by kernel_rfl) (fun _ _ _ h => h) (fun wx hx => exec_field rfl (fldT0 _ _ wx) rfl) hS ?_
  simp only [Act.put, List.setIfInBounds_toArray, List.set_cons_zero, List.set_cons_succ]
  refine take_want 3 (some 8) (.slice (some ⟨g, off, none⟩) n cap) rfl rfl rfl (by kernel_rfl) (by kernel_rfl) (by kernel_rfl) (fun _ _ _ h => h) (fun wx hx => exec_load rfl (load_entries (cell_bel hx c0)) rfl) hS ?_
  simp only [Act.put, List.setIfInBounds_toArray, List.set_cons_zero, List.set_cons_succ]
  refine take_want 4 (some 9) (.int .i64 (p : Int)) rfl rfl rfl (by kernel_rfl) (by kernel_rfl) (by kernel_rfl) (fun _ _ _ h => h) (fun wx hx => exec_move rfl rfl) hS ?_
  simp only [Act.put, List.setIfInBounds_toArray, List.set_cons_zero, List.set_cons_succ]
  refine take_want 5 (some 10) (.slice (some ⟨g, off, none⟩) p cap) rfl rfl rfl (by kernel_rfl) (by kernel_rfl) (by kernel_rfl) (fun _ _ _ h => h) (fun wx hx => exec_slice_h rfl ((run_sliceAt_slice wx _ _ _ _ _ underEn).trans (slice_to hpc wx)) rfl rfl) hS ?_
  simp only [Act.put, List.setIfInBounds_toArray, List.set_cons_zero, List.set_cons_succ]
  refine take_want 6 (some 11) (.pointer (some ⟨b, 0, none⟩)) rfl rfl rfl (by kernel_rfl) (by kernel_rfl) (by kernel_rfl) (fun _ _ _ h => h) (fun wx hx => exec_move rfl rfl) hS ?_
  simp only [Act.put, List.setIfInBounds_toArray, List.set_cons_zero, List.set_cons_succ]
  refine take_want 7 (some 12) (.pointer (some ⟨b, 0, none⟩)) rfl rfl rfl (by kernel_rfl) (by kernel_rfl) (by kernel_rfl) (fun _ _ _ h => h) (fun wx hx => exec_nilCheck rfl rfl) hS ?_
  simp only [Act.put, List.setIfInBounds_toArray, List.set_cons_zero, List.set_cons_succ]
  refine take_want 8 (some 13) (.pointer (some ⟨b, 0, none⟩)) rfl rfl rfl (by kernel_rfl) (by kernel_rfl) (by kernel_rfl) (fun _ _ _ h => h) (fun wx hx => exec_field rfl (fldT0 _ _ wx) rfl) hS ?_
  simp only [Act.put, List.setIfInBounds_toArray, List.set_cons_zero, List.set_cons_succ]
  refine take_want 9 (some 14) (.slice (some ⟨g, off, none⟩) n cap) rfl rfl rfl (by kernel_rfl) (by kernel_rfl) (by kernel_rfl) (fun _ _ _ h => h) (fun wx hx => exec_load rfl (load_entries (cell_bel hx c0)) rfl) hS ?_
  simp only [Act.put, List.setIfInBounds_toArray, List.set_cons_zero, List.set_cons_succ]
  refine take_want 10 (some 15) (.int .i64 (p : Int)) rfl rfl rfl (by kernel_rfl) (by kernel_rfl) (by kernel_rfl) (fun _ _ _ h => h) (fun wx hx => exec_move rfl rfl) hS ?_
  simp only [Act.put, List.setIfInBounds_toArray, List.set_cons_zero, List.set_cons_succ]
  refine take_want 11 (some 16) (.pointer (some ⟨g, off + p * 2, none⟩)) rfl rfl rfl (by kernel_rfl) (by kernel_rfl) (by kernel_rfl) (fun _ _ _ h => h) (fun wx hx => exec_index rfl (index_entries hp) rfl rfl) hS ?_
  simp only [Act.put, List.setIfInBounds_toArray, List.set_cons_zero, List.set_cons_succ]
  refine take_want 12 (some 17) (.agg #[.int .i64 x.num, .slice x.ao x.n x.cap]) rfl rfl rfl (by kernel_rfl) (by kernel_rfl) (by kernel_rfl) (fun _ _ _ h => h) (fun wx hx => exec_load rfl (load_entry (cell_bel hx k0) (cell_bel hx k1)) rfl) hS ?_
  simp only [Act.put, List.setIfInBounds_toArray, List.set_cons_zero, List.set_cons_succ]
  refine take_want 13 (some 18) (.func (.func 38) #[(.agg #[.int .i64 x.num, .slice x.ao x.n x.cap])] #[]) rfl rfl rfl (by kernel_rfl) (by kernel_rfl) (by kernel_rfl) (fun _ _ _ h => h) (fun wx hx => exec_func1 rfl (mkClashes _ wx) rfl) hS ?_
  simp only [Act.put, List.setIfInBounds_toArray, List.set_cons_zero, List.set_cons_succ]
  refine call_want 14 (some 19) rfl rfl rfl (by kernel_rfl) (exec_call2 rfl enterContE rfl rfl rfl) ((hC _ hS).mono ?_)
  rintro e w1 ⟨rfl, hb1⟩
  refine ⟨_, rfl, nextB hS hb1, ?_⟩
  have hS1 := nextB hS hb1
  clear hb1
  simp only [Act.put, List.setIfInBounds_toArray, List.set_cons_zero, List.set_cons_succ]
  refine take_want 15 (some 20) (.bool (!P)) rfl rfl rfl (by kernel_rfl) (by kernel_rfl) (by kernel_rfl) (fun _ _ _ h => h) (fun wx hx => exec_not rfl rfl) hS1 ?_
  simp only [Act.put, List.setIfInBounds_toArray, List.set_cons_zero, List.set_cons_succ]
  refine take_want 16 (some 4) (.bool (!P)) rfl rfl rfl (by kernel_rfl) (by kernel_rfl) (by kernel_rfl) (fun _ _ _ h => h) (fun wx hx => exec_assign rfl rfl) hS1 ?_
  simp only [Act.put, List.setIfInBounds_toArray, List.set_cons_zero, List.set_cons_succ]
  refine wpAnyH_done (by kernel_rfl) ?_ _
  have HB := hide hS1
  clear hS1
  go_wp2_with fail
  go_ret
  exact ⟨rfl, HB.out⟩

/-- The entry with a number may go ahead. -/
def May (E : List En) (k : Int) : Prop := ∃ (p : Nat) (x : En), E[p]? = some x ∧ x.num = k ∧ freeB E x p = true

/-- What May leaves. -/
def Mayd (w : World) (E : List En) (k : Int) (e : Ending) (w' : World) : Prop := (∃ r, e = .returned (.bool r) ∧ (r = true ↔ May E k)) ∧ Below w.heap.size w w'
theorem May_at {E : List En} (hu : Up (E.map En.num)) {p : Nat} {x : En} (hx : E[p]? = some x) : May E x.num ↔ freeB E x p = true := by
  constructor
  · rintro ⟨q, y, hy, e, hf⟩
    have := hu.inj (num_at hy) (by rw [e]; exact num_at hx)
    subst this
    rw [hx] at hy
    cases hy
    exact hf
  · exact fun hf => ⟨p, x, hx, rfl, hf⟩
theorem May_none {E : List En} {k : Int} (h : ∀ x ∈ E, x.num ≠ k) : ¬ May E k := fun ⟨_, x, hx, e, _⟩ => h x (List.mem_of_getElem? hx) e
set_option maxRecDepth 100000 in
theorem may_any {w : World} {F : Nat → Prop} {b : Nat} {E : List En} {last : Int} (h : Tb w F b E last) (k : Int) : Calls Try.prog 24 #[.pointer (some ⟨b, 0, none⟩), .int .i64 k] w (Mayd w E k) := by
  have HT := hide h
  have hF := find_any h k
  clear h
  go_enter Try.func24, Try.ntmps24
  go_wp2_with fail
  refine hF.mono ?_
  rintro e w1 ⟨⟨m, q, rfl, h1, h2, h3⟩, hb⟩
  have HB := hide hb
  have HT1 := hide (HT.out.below hb)
  clear hb h1
  cases q with
  | false =>
    have H3 := hide (h3 rfl)
    clear h2 h3
    go_wp2_with fail
    go_ret
    exact ⟨⟨_, rfl, by simp [May_none H3.out]⟩, HB.out⟩
  | true =>
    obtain ⟨x, hx, rfl⟩ := h2 rfl
    have HX := hide hx
    clear h2 h3
    have hR := isReady_any HT1.out hx
    clear hx
    go_wp2_with fail
    refine hR.mono ?_
    rintro e w2 ⟨rfl, hb2⟩
    have HB2 := hide (nextB HB.out hb2)
    clear hb2
    go_wp2_with fail
    go_ret
    exact ⟨⟨_, rfl, by rw [May_at HT1.out.up HX.out]⟩, HB2.out⟩

/-- What a call leaves that tells numbers. -/
def Told (w : World) (l : List Int) (e : Ending) (w' : World) : Prop := ∃ v, e = .returned v ∧ OwnI w' w.heap.size v l ∧ Below w.heap.size w w'
theorem nums_snoc {E : List En} {j : Nat} {q : En} (h : E[j]? = some q) : (E.take (j + 1)).map En.num = (E.take j).map En.num ++ [q.num] := by rw [take_snoc h]; simp
theorem Tb.small {w : World} {F : Nat → Prop} {b : Nat} {E : List En} {last : Int} (h : Tb w F b E last) : ∀ e ∈ E, I64 e.num := fun e he => by
  have h1 := h.num e he
  have h2 := h.lst
  unfold I64; omega
/-- One number more. -/
theorem more_i {w wr : World} {o : Value} {l : List Int} {k : Int} {B : Nat} (ho : OwnI wr B o l) (hB : B ≤ wr.heap.size) (hk : I64 k) (hl : l.length ≤ 2000) :
    ∃ a2 n2 c2 w', (Builtin.append_ #[45, 45] 45 #[o, .slice (some ⟨wr.heap.size, 0, none⟩) 1 1]).run Try.prog (wr.alloc (.cells #[.int .i64 k] 3)) = .ok (.slice a2 n2 c2) w' ∧ OwnI w' B (.slice a2 n2 c2) (l ++ [k]) ∧ (Below B w wr → Below B w w') ∧
      (∀ j x, j < wr.heap.size → o.ownBlock ≠ some j → wr.heap[j]? = some x → w'.heap[j]? = some x) ∧ ((Value.slice a2 n2 c2).ownBlock = o.ownBlock ∨ ∃ j, (Value.slice a2 n2 c2).ownBlock = some j ∧ wr.heap.size ≤ j) := by
  have hA := bel_alloc wr (.cells #[.int .i64 k] 3)
  obtain ⟨v', w', hr, hg⟩ := append_i (wr.alloc (.cells #[.int .i64 k] 3)) 45 B o _ l [k] (ho.below hA) (ints_lit wr k hk) (by simp; omega) (by simp; omega)
  obtain ⟨a2, n2, c2, rfl, -⟩ := hg.own.form
  refine ⟨a2, n2, c2, w', hr, hg.own, fun hb => (hb.trans (hA.mono hB)).trans (hg.below (by simp; omega) fun j hj => (ho.lt j hj).1), fun j x hj hne hx => hg.block (blk_below hA hx) hne, ?_⟩
  rcases hg.at_ with e | e
  · exact .inl e
  · exact .inr ⟨_, e, by simp⟩
set_option maxRecDepth 100000 in
set_option maxHeartbeats 2000000 in
theorem waiting_any {w : World} {F : Nat → Prop} {b : Nat} {E : List En} {last : Int} (h : Tb w F b E last) : Calls Try.prog 25 #[.pointer (some ⟨b, 0, none⟩)] w (Told w (E.map En.num)) := by
  have HI := hide h.small
  obtain ⟨v, h⟩ := h
  have c0 := h.c0
  obtain ⟨ao, cap, g, off, rfl, h2, h3, h4, h5, -⟩ := h.ens
  have H2 := hide h2
  have H3 := hide h3
  obtain ⟨n, hn⟩ : ∃ n, E.length = n := ⟨_, rfl⟩
  rw [hn] at h5 c0
  have HN := hide hn
  clear h2 h3 hn h4 h
  go_enter Try.func25, Try.ntmps25
  go_wp2_with fail
  clear c0
  go_loopg [11, 3] n (fun k i o wr => ∃ j : Nat, j + k = n ∧ i = .int .i64 (j : Int) ∧ Hid (OwnI wr w.heap.size o ((E.take j).map En.num)) ∧ Hid (Below w.heap.size w wr))
  case atStart => exact ⟨0, by omega, rfl, hide (OwnI.nil _ _), hide (Below.refl _ _)⟩
  case round =>
    obtain ⟨j, hj, rfl, HO, HB⟩ := hrel
    cases gk with
    | zero =>
      have hnl : ¬ (j : Int) < (n : Int) := by omega
      obtain ⟨a2, n2, c2, rfl, -⟩ := HO.out.form
      have hend : E.take j = E := List.take_of_length_le (by rw [HN.out]; omega)
      rw [hend] at HO
      clear hend
      go_wp2_with fail
      go_ret
      exact ⟨_, rfl, HO.out, HB.out⟩
    | succ m =>
      have hlt : (j : Int) < (n : Int) := by omega
      have hb0 : (0 : Int) ≤ (j : Int) := by omega
      obtain ⟨q, he⟩ : ∃ e, E[j]? = some e := ⟨E[j]'(by rw [HN.out]; omega), by rw [List.getElem?_eq_getElem]⟩
      obtain rfl := H2.out (by rw [HN.out]; omega)
      obtain ⟨k0, k1⟩ := H3.out j q he
      replace k0 := cell_bel HB.out k0
      replace k1 := cell_bel HB.out k1
      have hj63 : (j : Int) + 1 < 140737488355328 + 1 := by omega
      have HJ := hide hj
      have HLT := hide hlt
      have HQ := hide (nums_snoc he)
      have hA := bel_alloc wr (.cells #[.int .i64 q.num, .slice q.ao q.n q.cap] 69)
      have hsz : w.heap.size ≤ wr.heap.size := HB.out.size
      obtain ⟨a2, n2, c2, w', hap, ho, hbw, -, -⟩ := more_i (w := w) (HO.out.below hA) (by simp; omega) (HI.out q (List.mem_of_getElem? he)) (by simp; omega)
      have HO2 := hide ho
      have HBW := hide (hbw (HB.out.trans (hA.mono hsz)))
      obtain ⟨a1, n1, c1, rfl, -⟩ := HO.out.form
      rw [World.size_alloc] at hap
      clear he hA hsz ho hbw
      go_wp2_with (at_builtin; refine wpList_append_eq rfl _ _ rfl rfl rfl hap ?_)
      go_roundg m
      case measure => omega
      case rel => exact ⟨j + 1, by have := HJ.out; omega, by simp, hide (by rw [HQ.out]; exact HO2.out), HBW⟩

/-- The numbers of those among the first ones that may go ahead. -/
def rdyN (E : List En) : Nat → List Int
  | 0 => []
  | j + 1 => rdyN E j ++ (match E[j]? with | some q => if freeB E q j = true then [q.num] else [] | none => [])
theorem rdyN_length (E : List En) : ∀ j, (rdyN E j).length ≤ j
  | 0 => by simp [rdyN]
  | j + 1 => by
    have := rdyN_length E j
    simp only [rdyN, List.length_append]
    cases E[j]? with
    | none => simp; omega
    | some q => simp only; split <;> simp <;> omega
theorem rdyN_yes {E : List En} {j : Nat} {q : En} (h : E[j]? = some q) (hf : freeB E q j = true) : rdyN E (j + 1) = rdyN E j ++ [q.num] := by simp [rdyN, h, hf]
theorem rdyN_no {E : List En} {j : Nat} {q : En} (h : E[j]? = some q) (hf : freeB E q j = false) : rdyN E (j + 1) = rdyN E j := by simp [rdyN, h, hf]
set_option maxRecDepth 100000 in
set_option maxHeartbeats 2000000 in
theorem ready_any {w : World} {F : Nat → Prop} {b : Nat} {E : List En} {last : Int} (h : Tb w F b E last) : Calls Try.prog 17 #[.pointer (some ⟨b, 0, none⟩)] w (Told w (rdyN E E.length)) := by
  have HI := hide h.small
  have HTB := hide h
  obtain ⟨v, h⟩ := h
  have c0 := h.c0
  obtain ⟨ao, cap, g, off, rfl, h2, h3, h4, h5, -⟩ := h.ens
  have H2 := hide h2
  have H3 := hide h3
  obtain ⟨n, hn⟩ : ∃ n, E.length = n := ⟨_, rfl⟩
  rw [hn] at h5 c0 ⊢
  have HN := hide hn
  clear h2 h3 hn h4 h
  go_enter Try.func17, Try.ntmps17
  go_wp2_with fail
  clear c0
  go_loopg [11, 3] n (fun k i o wr => ∃ j : Nat, j + k = n ∧ i = .int .i64 (j : Int) ∧ Hid (OwnI wr w.heap.size o (rdyN E j)) ∧ Hid (Below w.heap.size w wr))
  case atStart => exact ⟨0, by omega, rfl, hide (OwnI.nil _ _), hide (Below.refl _ _)⟩
  case round =>
    obtain ⟨j, hj, rfl, HO, HB⟩ := hrel
    cases gk with
    | zero =>
      have hnl : ¬ (j : Int) < (n : Int) := by omega
      obtain ⟨a2, n2, c2, rfl, -⟩ := HO.out.form
      obtain rfl : j = n := by omega
      go_wp2_with fail
      go_ret
      exact ⟨_, rfl, HO.out, HB.out⟩
    | succ m =>
      have hlt : (j : Int) < (n : Int) := by omega
      have hb0 : (0 : Int) ≤ (j : Int) := by omega
      obtain ⟨q, he⟩ : ∃ e, E[j]? = some e := ⟨E[j]'(by rw [HN.out]; omega), by rw [List.getElem?_eq_getElem]⟩
      obtain rfl := H2.out (by rw [HN.out]; omega)
      obtain ⟨k0, k1⟩ := H3.out j q he
      replace k0 := cell_bel HB.out k0
      replace k1 := cell_bel HB.out k1
      have hj63 : (j : Int) + 1 < 140737488355328 + 1 := by omega
      have HJ := hide hj
      have HLT := hide hlt
      have HA := hide (bel_alloc wr (.cells #[.int .i64 q.num, .slice q.ao q.n q.cap] 69))
      have HX : Hid (BoxE (wr.alloc (.cells #[.int .i64 q.num, .slice q.ao q.n q.cap] 69)) wr.heap.size q.num (.slice q.ao q.n q.cap)) := heap_alloc_new _ _
      have HBA := hide (nextB HB.out HA.out)
      have HOA := hide (HO.out.below HA.out)
      have hR := isReady_any (HTB.out.below HBA.out) he
      have HE := hide he
      obtain ⟨a1, n1, c1, rfl, -⟩ := HO.out.form
      clear he HO HB HA
      go_wp2_with fail
      clear k0 k1
      refine hR.mono ?_
      rintro e w1 ⟨rfl, hb1⟩
      have HB1 := hide (nextB HBA.out hb1)
      have HO1 := hide (HOA.out.below hb1)
      have cx := (HX.out.below hb1).c0
      clear hb1 HBA HOA HX
      cases hf : freeB E q j with
      | false =>
        have HF := hide hf
        clear hf
        go_wp2_with fail
        go_roundg m
        case measure => omega
        case rel => exact ⟨j + 1, by have := HJ.out; omega, by simp, hide (by rw [rdyN_no HE.out HF.out]; exact HO1.out), HB1⟩
      | true =>
        have HF := hide hf
        clear hf
        obtain ⟨a2, n2, c2, w', hap, ho, hbw, -, -⟩ := more_i (w := w) HO1.out HB1.out.size (HI.out q (List.mem_of_getElem? HE.out)) (by have := rdyN_length E j; omega)
        have HO2 := hide ho
        have HBW := hide (hbw HB1.out)
        clear ho hbw
        go_wp2_with (at_builtin; refine wpList_append_eq rfl _ _ rfl rfl rfl hap ?_)
        go_roundg m
        case measure => omega
        case rel => exact ⟨j + 1, by have := HJ.out; omega, by simp, hide (by rw [rdyN_yes HE.out HF.out]; exact HO2.out), HBW⟩

/-- The numbers of those ahead of an entry with which it clashes. -/
def aheadS (E : List En) (p : Nat) (x : En) : List Int := ((E.take p).filter fun e => clE e.sps x.sps).map En.num
/-- What Ahead leaves. -/
def Aheadd (w : World) (E : List En) (k : Int) (e : Ending) (w' : World) : Prop :=
  ∃ v l, e = .returned v ∧ OwnI w' w.heap.size v l ∧ ((∃ p x, E[p]? = some x ∧ x.num = k ∧ l = aheadS E p x) ∨ ((∀ x ∈ E, x.num ≠ k) ∧ l = [])) ∧ Below w.heap.size w w'
def ahN (E : List En) (x : En) (j : Nat) : List Int := ((E.take j).filter fun e => clE e.sps x.sps).map En.num
theorem ahN_yes {E : List En} {x q : En} {j : Nat} (h : E[j]? = some q) (hc : clE q.sps x.sps = true) : ahN E x (j + 1) = ahN E x j ++ [q.num] := by simp [ahN, take_snoc h, List.filter_append, hc]
theorem ahN_no {E : List En} {x q : En} {j : Nat} (h : E[j]? = some q) (hc : clE q.sps x.sps = false) : ahN E x (j + 1) = ahN E x j := by simp [ahN, take_snoc h, List.filter_append, hc]
theorem ahN_length (E : List En) (x : En) (j : Nat) : (ahN E x j).length ≤ j := by
  unfold ahN
  rw [List.length_map]
  exact Nat.le_trans (List.length_filter_le _ _) (by simp; omega)
set_option maxRecDepth 100000 in
set_option maxHeartbeats 2000000 in
theorem ahead_any {w : World} {F : Nat → Prop} {b : Nat} {E : List En} {last : Int} (h : Tb w F b E last) (k : Int) : Calls Try.prog 23 #[.pointer (some ⟨b, 0, none⟩), .int .i64 k] w (Aheadd w E k) := by
  have HI := hide h.small
  have HT := hide h
  have hF := find_any h k
  clear h
  go_enter Try.func23, Try.ntmps23
  go_wp2_with fail
  refine hF.mono ?_
  rintro e w0 ⟨⟨p, r, rfl, h1, h2, h3⟩, hb⟩
  have HB0 := hide hb
  have HT1 := hide (HT.out.below hb)
  clear hb h1 HT
  cases r with
  | false =>
    have H3 := hide (h3 rfl)
    clear h2 h3
    go_wp2_with fail
    go_ret
    exact ⟨_, [], rfl, OwnI.nil _ _, .inr ⟨H3.out, rfl⟩, HB0.out⟩
  | true =>
    obtain ⟨x, hx, rfl⟩ := h2 rfl
    have HX := hide hx
    clear h2 h3
    obtain ⟨v, ht⟩ := HT1.out
    have c0 := ht.c0
    obtain ⟨ao, cap, g, off, rfl, h2, h3, h4, h5, h6, -⟩ := ht.ens
    have hp := (List.getElem?_eq_some_iff.1 hx).1
    obtain rfl := h2 (by omega)
    have H3 := hide h3
    have HS := hide h4
    obtain ⟨n, hn⟩ : ∃ n, E.length = n := ⟨_, rfl⟩
    rw [hn] at h5 c0 h6 hp
    have HN := hide hn
    have hpc : p ≤ cap := by omega
    have C0 := hide c0
    clear h2 h3 hn h4 ht hx
    go_wp2_with fail
    clear c0
    go_loopg [25, 7] p (fun k i o wr => ∃ j : Nat, j + k = p ∧ i = .int .i64 (j : Int) ∧ Hid (OwnI wr w0.heap.size o (ahN E x j)) ∧ Hid (Below w0.heap.size w0 wr))
    case atStart => exact ⟨0, by omega, rfl, hide (OwnI.nil _ _), hide (Below.refl _ _)⟩
    case round =>
      obtain ⟨j, hj, rfl, HO, HB⟩ := hrel
      cases gk with
      | zero =>
        have hnl : ¬ (j : Int) < (p : Int) := by omega
        obtain rfl : j = p := by omega
        obtain ⟨a2, n2, c2, rfl, -⟩ := HO.out.form
        go_wp2_with fail
        go_ret
        exact ⟨_, _, rfl, HO.out.base HB0.out.size, .inl ⟨j, x, HX.out, rfl, rfl⟩, nextB HB0.out HB.out⟩
      | succ m =>
        have hlt : (j : Int) < (p : Int) := by omega
        have hb0 : (0 : Int) ≤ (j : Int) := by omega
        obtain ⟨q, he⟩ : ∃ e, E[j]? = some e := ⟨E[j]'(by rw [HN.out]; omega), by rw [List.getElem?_eq_getElem]⟩
        obtain ⟨k0, k1⟩ := H3.out j q he
        replace k0 := cell_bel HB.out k0
        replace k1 := cell_bel HB.out k1
        have hj63 : (j : Int) + 1 < 140737488355328 + 1 := by omega
        have HJ := hide hj
        have HA := hide (bel_alloc wr (.cells #[.int .i64 q.num, .slice q.ao q.n q.cap] 69))
        have HXX : Hid (BoxE (wr.alloc (.cells #[.int .i64 q.num, .slice q.ao q.n q.cap] 69)) wr.heap.size q.num (.slice q.ao q.n q.cap)) := heap_alloc_new _ _
        have HBA := hide (nextB HB.out HA.out)
        have HOA := hide (HO.out.below HA.out)
        obtain ⟨x0, x1⟩ := H3.out p x HX.out
        have HSQ := hide (HS.out q (List.mem_of_getElem? he))
        have HSX := hide (HS.out x (List.mem_of_getElem? HX.out))
        have HE := hide he
        have c0 := C0.out
        obtain ⟨a1, n1, c1, rfl, -⟩ := HO.out.form
        obtain ⟨wA, hwA⟩ : ∃ wA, wr.alloc (.cells #[.int .i64 q.num, .slice q.ao q.n q.cap] 69) = wA := ⟨_, rfl⟩
        obtain ⟨bx, hbx⟩ : ∃ bx, wr.heap.size = bx := ⟨_, rfl⟩
        have HPN := hide hp
        clear he HO HA
        go_wp2_with fail
        clear k0 k1
        simp only [hwA, hbx] at HXX HBA HOA ⊢
        clear hwA HB
        have hS0 : Below wA.heap.size wA wA.drew := below_drew0 wA
        have hb0A := HBA.out
        have hxx := HXX.out
        refine wp_region_held_drew (S := fun wx => Below wA.heap.size wA wx) (by kernel_rfl) hS0 (fun hS => ?_)
        refine take_want 0 (some 29) (.agg #[.int .i64 q.num, .slice q.ao q.n q.cap]) rfl rfl rfl (by kernel_rfl) (by kernel_rfl) (by kernel_rfl) (fun _ _ _ h => h) (fun wx hx => exec_load rfl (load_entry (cell_bel hx hxx.c0) (cell_bel hx hxx.c1)) rfl) hS ?_
        simp only [Act.put, List.setIfInBounds_toArray, List.set_cons_zero, List.set_cons_succ]
        refine take_want 1 (some 30) (.pointer (some ⟨b, 0, none⟩)) rfl rfl rfl (by kernel_rfl) (by kernel_rfl) (by kernel_rfl) (fun _ _ _ h => h) (fun wx hx => exec_move rfl rfl) hS ?_
        simp only [Act.put, List.setIfInBounds_toArray, List.set_cons_zero, List.set_cons_succ]
        refine take_want 2 (some 31) (.pointer (some ⟨b, 0, none⟩)) rfl rfl rfl (by kernel_rfl) (by kernel_rfl) (by kernel_rfl) (fun _ _ _ h => h) (fun wx hx => exec_nilCheck rfl rfl) hS ?_
        simp only [Act.put, List.setIfInBounds_toArray, List.set_cons_zero, List.set_cons_succ]
        refine take_want 3 (some 32) (.pointer (some ⟨b, 0, none⟩)) rfl rfl rfl (by kernel_rfl) (by kernel_rfl) (by kernel_rfl) (fun _ _ _ h => h) (fun wx hx => exec_field rfl (fldT0 _ _ wx) rfl) hS ?_
        simp only [Act.put, List.setIfInBounds_toArray, List.set_cons_zero, List.set_cons_succ]
        refine take_want 4 (some 33) (.slice (some ⟨g, off, none⟩) n cap) rfl rfl rfl (by kernel_rfl) (by kernel_rfl) (by kernel_rfl) (fun _ _ _ h => h) (fun wx hx => exec_load rfl (load_entries (cell_bel (nextB hb0A hx) c0)) rfl) hS ?_
        simp only [Act.put, List.setIfInBounds_toArray, List.set_cons_zero, List.set_cons_succ]
        refine take_want 5 (some 34) (.int .i64 (p : Int)) rfl rfl rfl (by kernel_rfl) (by kernel_rfl) (by kernel_rfl) (fun _ _ _ h => h) (fun wx hx => exec_move rfl rfl) hS ?_
        simp only [Act.put, List.setIfInBounds_toArray, List.set_cons_zero, List.set_cons_succ]
        refine take_want 6 (some 35) (.pointer (some ⟨g, off + p * 2, none⟩)) rfl rfl rfl (by kernel_rfl) (by kernel_rfl) (by kernel_rfl) (fun _ _ _ h => h) (fun wx hx => exec_index rfl (index_entries hp) rfl rfl) hS ?_
        simp only [Act.put, List.setIfInBounds_toArray, List.set_cons_zero, List.set_cons_succ]
        refine take_want 7 (some 36) (.agg #[.int .i64 x.num, .slice x.ao x.n x.cap]) rfl rfl rfl (by kernel_rfl) (by kernel_rfl) (by kernel_rfl) (fun _ _ _ h => h) (fun wx hx => exec_load rfl (load_entry (cell_bel (nextB hb0A hx) x0) (cell_bel (nextB hb0A hx) x1)) rfl) hS ?_
        simp only [Act.put, List.setIfInBounds_toArray, List.set_cons_zero, List.set_cons_succ]
        refine call_want 8 (some 37) rfl rfl rfl (by kernel_rfl) (exec_call2 rfl enterClashes rfl rfl rfl) ((clashes_any (HSQ.out.below (nextB hb0A hS)) (HSX.out.below (nextB hb0A hS))).mono ?_)
        rintro e w1 ⟨rfl, hb1⟩
        refine ⟨_, rfl, nextB hS hb1, ?_⟩
        have hS1 := nextB hS hb1
        clear hb1
        simp only [Act.put, List.setIfInBounds_toArray, List.set_cons_zero, List.set_cons_succ]
        refine wpAnyH_done (by kernel_rfl) ?_ _
        clear x0 x1 c0 hxx hb0A hS0 hS
        have HB1 := hide (nextB HBA.out hS1)
        have HO1 := hide (HOA.out.below hS1)
        have cx := (HXX.out.below hS1).c0
        clear hS1 HBA HOA HXX
        cases hf : clE q.sps x.sps with
        | false =>
          have HF := hide hf
          clear hf
          go_wp2_with fail
          go_roundg m
          case measure => omega
          case rel => exact ⟨j + 1, by have := HJ.out; omega, by simp, hide (by rw [ahN_no HE.out HF.out]; exact HO1.out), HB1⟩
        | true =>
          have HF := hide hf
          clear hf
          obtain ⟨a2, n2, c2, w', hap, ho, hbw, -, -⟩ := more_i (w := w0) HO1.out HB1.out.size (HI.out q (List.mem_of_getElem? HE.out)) (by have := ahN_length E x j; omega)
          have HO2 := hide ho
          have HBW := hide (hbw HB1.out)
          clear ho hbw
          go_wp2_with (at_builtin; refine wpList_append_eq rfl _ _ rfl rfl rfl hap ?_)
          go_roundg m
          case measure => omega
          case rel => exact ⟨j + 1, by have := HJ.out; omega, by simp, hide (by rw [ahN_yes HE.out HF.out]; exact HO2.out), HBW⟩
end Go.Proofs.Ytjofbehmhdjohaa
