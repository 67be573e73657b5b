/- New, Put, Of, Count, Len, Begin. -/
import Derived.Test.YtjopdejgijojmaaSv
import Derived.Test.YtjopdejgijojmaaErr
namespace Go.Proofs.Ytjopdejgijojmaa
open Go.RowKit Go.Extern

theorem neqNilM (w : World) (k : Nat) : (binOp .neq 62 (.map (some k)) (.map none)).run Try.prog w = .ok (.bool true) w := by kernel_rfl
theorem neqNilN (w : World) : (binOp .neq 62 (.map none) (.map none)).run Try.prog w = .ok (.bool false) w := by kernel_rfl
theorem eqlNilM (w : World) (k : Nat) : (binOp .eql 62 (.map (some k)) (.map none)).run Try.prog w = .ok (.bool false) w := by kernel_rfl
theorem eqlNilN (w : World) : (binOp .eql 62 (.map none) (.map none)).run Try.prog w = .ok (.bool true) w := by kernel_rfl
theorem errV60 : errV 60 = .iface 66 (.int .i64 60) := errV_code (by omega)
theorem errV100 : errV 100 = .iface 66 (.int .i64 100) := errV_code (by omega)

/-- What a call leaves of a reverse map. -/
structure Rfd (F : Nat → Prop) (b : Nat) (l : List Ref) (was : Option (List Ref)) (w w' : World) : Prop where
  rf : Rf w' (ext F w w') b l was
  turn : Turn F w w'

set_option maxRecDepth 100000 in
set_option maxHeartbeats 1000000 in
theorem new_any (w : World) : Calls Try.prog 8 #[] w fun e w' => ∃ b, e = .returned (.pointer (some ⟨b, 0, none⟩)) ∧ w.heap.size ≤ b ∧ Rf w' (fun k => w.heap.size ≤ k ∧ k < w'.heap.size) b [] none ∧ Below w.heap.size w w' := by
  have hmm := @run_makeMap Try.prog
  go_enter Try.func8, Try.ntmps8
  go_wp2_with fail
  go_ret
  obtain ⟨n, hn⟩ : ∃ n, w.heap.size = n := ⟨_, rfl⟩
  have hb : Below w.heap.size w (((w.alloc (.map #[] 0)).alloc (.map #[] 0)).alloc (.cells #[.map (some w.heap.size), .map (some (w.heap.size + 1)), .map none] 65)) :=
    (((Below.refl _ w).alloc (Nat.le_refl _) _).alloc (by simp) _).alloc (by simp; omega) _
  have h1 : MapIs encO OkO encI (w.alloc (.map #[] 0)) w.heap.size [] := MapIs.made _ _ _ _
  have h2 := MapIs.made encI I64 encM (w.alloc (.map #[] 0))
  rw [World.size_alloc] at h2
  have b1 : Below (w.heap.size + 1) (w.alloc (.map #[] 0)) (((w.alloc (.map #[] 0)).alloc (.map #[] 0)).alloc (.cells #[.map (some w.heap.size), .map (some (w.heap.size + 1)), .map none] 65)) :=
    ((Below.refl _ _).alloc (by simp) _).alloc (by simp) _
  have b2 : Below (w.heap.size + 2) ((w.alloc (.map #[] 0)).alloc (.map #[] 0)) (((w.alloc (.map #[] 0)).alloc (.map #[] 0)).alloc (.cells #[.map (some w.heap.size), .map (some (w.heap.size + 1)), .map none] 65)) :=
    (Below.refl _ _).alloc (by simp) _
  have h3 := World.alloc_heap_new ((w.alloc (.map #[] 0)).alloc (.map #[] 0)) (.cells #[.map (some w.heap.size), .map (some (w.heap.size + 1)), .map none] 65)
  have hsz : ((w.alloc (.map #[] 0)).alloc (.map #[] 0)).heap.size = w.heap.size + 2 := by simp
  rw [hsz] at h3
  refine ⟨w.heap.size + 2, by simp, by omega, ⟨fun k => w.heap.size ≤ k ∧ k < w.heap.size + 3, w.heap.size, w.heap.size + 1, [], none, ⟨h3, h1.of_block (fun _ h => by rw [b1.block _ (by omega)]; exact h), h2.of_block (fun _ h => by rw [b2.block _ (by omega)]; exact h), by simp, fun a => by simp [byS], Okl.nil, by omega, by simp, by simp, ?_, ?_, ?_, by simp, ?_⟩, rfl, by simp, ?_, ?_⟩, hb⟩
  · exact ⟨by omega, by omega⟩
  · exact ⟨by omega, by omega⟩
  · exact ⟨by omega, by omega⟩
  · intro k hk; simp; omega
  · intro k hk; simp; omega
  · intro k hk; exact hk.2

theorem below_box (w : World) (o : Obj) : Below w.heap.size w (w.alloc o) := (Below.refl _ w).alloc (Nat.le_refl _) o
set_option maxRecDepth 100000 in
set_option maxHeartbeats 1000000 in
theorem put_bad (w : World) (b : Nat) (o : Own) {a : Int} (ha : a < 0) :
    Calls Try.prog 10 #[.pointer (some ⟨b, 0, none⟩), encO o, .int .i64 a] w fun e w' => e = .returned (errV 60) ∧ Below w.heap.size w w' := by
  rw [errV60]
  have eO : encO o = .agg #[.int .i64 o.1, .int .i64 o.2] := rfl
  rw [eO]
  go_enter Try.func10, Try.ntmps10
  go_wp2_with fail
  go_ret
  exact ⟨rfl, below_box _ _⟩
set_option maxRecDepth 100000 in
set_option maxHeartbeats 2000000 in
theorem put_ok {w : World} {F : Nat → Prop} {b : Nat} {l : List Ref} {was : Option (List Ref)} (h : Rf w F b l was) {o : Own} (hO : OkO o) {a : Int} (hI : I64 a) (ha : 0 ≤ a) :
    Calls Try.prog 10 #[.pointer (some ⟨b, 0, none⟩), encO o, .int .i64 a] w fun e w' => e = .returned .nilIface ∧ Rfd F b (putS l o a) was w w' := by
  obtain ⟨E, bn, bo, A, sv, hC, hSv, hs3, hs4, hs5⟩ := h
  have HH := hide hC
  have HS3 := hide hs3
  have HS4 := hide hs4
  have HS5 := hide hs5
  have eO : encO o = .agg #[.int .i64 o.1, .int .i64 o.2] := rfl
  have hna : ¬ a < 0 := by omega
  cases was with
  | none =>
    have hsv : sv = none := hSv
    subst hsv
    have c2 := hC.c2
    have eq := neqNilN
    rw [eO]
    clear hC hs3 hs4 hs5 hSv
    go_enter Try.func10, Try.ntmps10
    obtain ⟨x, hx⟩ : ∃ x, w.heap.size = x := ⟨_, rfl⟩
    obtain ⟨w1, hw1⟩ : ∃ w1, w.alloc (.cells #[.int .i64 o.1, .int .i64 o.2] 35) = w1 := ⟨_, rfl⟩
    have hb1 : Below w.heap.size w w1 := by rw [← hw1]; exact below_box _ _
    have HX : BoxO w1 x o := by rw [← hw1, ← hx]; exact boxO_new w o _
    obtain ⟨x1, x2⟩ := HX
    have c2' : w1.cell? ⟨b, 2, none⟩ = some (.map none) := (HH.out.below hb1).c2
    have HB1 := hide hb1
    clear hb1 c2
    go_wp2_with (go_at_call 27; refine (name_any (o := o) (HH.out.below HB1.out) hO ⟨hI, ha⟩).mono ?_; rintro e w2 ⟨rfl, ⟨A2, hc2⟩, ht2⟩)
    go_ret
    have ht : Turn F w w2 := (Turn.of_below HB1.out).trans ht2 (fun k _ hk => HS4.out k hk)
    refine ⟨rfl, ⟨_, bn, bo, A2, none, hc2, rfl, by simp, fun k hk => ?_, ext_bd HS5.out ht.size⟩, ht⟩
    rcases hk with hk | ⟨h1, h2⟩
    · exact .inl (HS4.out k hk)
    · exact .inr ⟨by have := HB1.out.size; omega, h2⟩
  | some W =>
    obtain ⟨s, S, rfl, hmS, hW, hSS⟩ := hSv
    have HMS := hide hmS
    have HW := hide hW
    have HSS := hide hSS
    have eq := fun w => neqNilM w s
    have hsE : ¬ E s := (hs3 s rfl).1
    rw [eO]
    clear hC hs3 hs4 hs5 hmS hW hSS
    go_enter Try.func10, Try.ntmps10
    obtain ⟨x, hx⟩ : ∃ x, w.heap.size = x := ⟨_, rfl⟩
    obtain ⟨w1, hw1⟩ : ∃ w1, w.alloc (.cells #[.int .i64 o.1, .int .i64 o.2] 35) = w1 := ⟨_, rfl⟩
    have hb1 : Below w.heap.size w w1 := by rw [← hw1]; exact below_box _ _
    have HX : BoxO w1 x o := by rw [← hw1, ← hx]; exact boxO_new w o _
    have HXH := hide HX
    obtain ⟨x1, x2⟩ := HX
    have hxl : x < w1.heap.size := by rw [← hw1]; simp; omega
    have hsl : s < w.heap.size := HMS.out.lt
    have c2' : w1.cell? ⟨b, 2, none⟩ = some (.map (some s)) := (HH.out.below hb1).c2
    have HM1 : Hid (MapIs encO OkO encI w1 s S) := hide (HMS.out.of_block (fun _ h => by rw [hb1.block s hsl]; exact h))
    have HB1 := hide hb1
    clear hb1
    have xs : x ≠ s := by omega
    have HXS : Hid (∀ w2, Turn (fun k => k = s) w1 w2 → w2.cell? ⟨x, 0, none⟩ = some (.int .i64 o.1) ∧ w2.cell? ⟨x, 1, none⟩ = some (.int .i64 o.2)) := hide (fun w2 ht => by
      have hb : w2.heap[x]? = w1.heap[x]? := ht.block x hxl xs
      exact ⟨by unfold World.cell?; rw [hb]; exact HXH.out.1, by unfold World.cell?; rw [hb]; exact HXH.out.2⟩)
    have HCC : Hid (∀ w2, Turn (fun k => k = s) w1 w2 → CrAt w2 E b l bn bo A (some s)) := hide (fun w2 ht2 => (HH.out.below HB1.out).of_blocks ht2.size (fun k hE => ht2.block k (Nat.lt_of_lt_of_le (HH.out.bd k hE) HB1.out.size) (fun e => hsE (by rw [← e]; exact hE))))
    go_wp2_with (first
      | (go_at_call 26; refine (save_any (o := o) (a := a) (HH.out.below HB1.out) HM1.out HW.out HSS.out hsE hO).mono ?_; rintro e w2 ⟨rfl, S2, hm2, hS2, ht2⟩; have x3 := (HXS.out w2 ht2).1; have x4 := (HXS.out w2 ht2).2; have HM2 := hide hm2; have HS2 := hide hS2; have HT2 := hide ht2; have HC2 := hide (HCC.out w2 ht2); clear hm2 hS2 ht2)
      | (go_at_call 27; refine (name_any (o := o) HC2.out hO ⟨hI, ha⟩).mono ?_; rintro e w3 ⟨rfl, ⟨A3, hc3⟩, ht3⟩))
    go_ret
    have hF : F s := (HS3.out s rfl).2
    have ht : Turn F w w3 := ((Turn.of_below HB1.out).trans HT2.out (fun k _ hk => by rw [hk]; exact hF)).trans ht3 (fun k _ hk => HS4.out k hk)
    have hsl2 : s < w2.heap.size := HM2.out.lt
    refine ⟨rfl, ⟨_, bn, bo, A3, some s, hc3, ⟨s, S2, rfl, HM2.out.of_block (fun _ h => by rw [ht3.block s hsl2 hsE]; exact h), HW.out, HS2.out⟩, fun s' e => ?_, fun k hk => ?_, ext_bd HS5.out ht.size⟩, ht⟩
    · cases e
      refine ⟨fun hx => ?_, .inl hF⟩
      rcases hx with hx | ⟨h1, -⟩
      · exact hsE hx
      · omega
    · rcases hk with hk | ⟨h1, h2⟩
      · exact .inl (HS4.out k hk)
      · exact .inr ⟨by have := HB1.out.size; have := HT2.out.size; omega, h2⟩

set_option maxRecDepth 100000 in
set_option maxHeartbeats 1000000 in
theorem of_any {w : World} {F : Nat → Prop} {b : Nat} {l : List Ref} {was : Option (List Ref)} (h : Rf w F b l was) {o : Own} (hO : OkO o) :
    Calls Try.prog 21 #[.pointer (some ⟨b, 0, none⟩), encO o] w fun e w' => e = .returned (.int .i64 (ofS l o)) ∧ Below w.heap.size w w' := by
  obtain ⟨E, bn, bo, A, sv, h, -⟩ := h
  obtain ⟨nb1, nb2, nb3⟩ := h.neB
  have nno := h.ne
  have HH := hide h
  obtain ⟨x, hx⟩ : ∃ x, w.heap.size = x := ⟨_, rfl⟩
  have xo : x ≠ bo := by have := h.bd bo h.inO; omega
  obtain ⟨k, hk⟩ : ∃ k, ofS l o = k := ⟨_, rfl⟩
  have HKV := hide hk
  rw [hk]
  clear h nb3 hk
  have eO : encO o = .agg #[.int .i64 o.1, .int .i64 o.2] := rfl
  rw [eO]
  go_enter Try.func21, Try.ntmps21
  go_wp2_with fail
  obtain ⟨w1, hw1⟩ : ∃ w1, w.alloc (.cells #[.int .i64 o.1, .int .i64 o.2] 35) = w1 := ⟨_, rfl⟩
  have hb1 : Below w.heap.size w w1 := by rw [← hw1]; exact below_box _ _
  have HX : Hid (BoxO w1 x o) := hide (by rw [← hw1, ← hx]; exact boxO_new w o _)
  have H1 := hide (HH.out.below hb1)
  have HB1 := hide hb1
  rw [hw1]
  clear hw1 hb1
  have HC0 := hide H1.out.c0
  have HL : Hid (∀ wx, Keep bo w1 wx → (Instr.lookup 62 (.map (some bn)) (encO o) false).run Try.prog wx = .ok (.int .i64 k) wx) := hide (fun wx hk => by
    rcases ofS_cases H1.out.ok.srt o with hm | ⟨hm, h0⟩
    · rw [HKV.out] at hm
      exact (hk.map nno H1.out.nm).look_in KO uN hm false
    · rw [← HKV.out, h0]
      exact (hk.map nno H1.out.nm).look_out KO uN (zeroI _) hO hm false)
  have NB := nb2
  have NX := xo
  refine wp_region_held_drew (S := Keep bo w1) (by kernel_rfl) (Keep.drew _ _) (fun hS => ?_)
  refine take_want 0 (some 5) (.pointer (some ⟨b, 0, none⟩)) rfl rfl rfl (by kernel_rfl) (by kernel_rfl) (by kernel_rfl) (fun _ _ _ h => h) (fun wx hx => exec_move rfl rfl) hS ?_
  simp only [Act.put, List.setIfInBounds_toArray, List.set_cons_zero, List.set_cons_succ]
  refine take_want 1 (some 6) (.pointer (some ⟨b, 0, none⟩)) rfl rfl rfl (by kernel_rfl) (by kernel_rfl) (by kernel_rfl) (fun _ _ _ h => h) (fun wx hx => exec_nilCheck rfl rfl) hS ?_
  simp only [Act.put, List.setIfInBounds_toArray, List.set_cons_zero, List.set_cons_succ]
  refine take_want 2 (some 7) (.pointer (some ⟨b, 0, none⟩)) rfl rfl rfl (by kernel_rfl) (by kernel_rfl) (by kernel_rfl) (fun _ _ _ h => h) (fun wx hx => exec_field rfl (fld0 _ wx) rfl) hS ?_
  simp only [Act.put, List.setIfInBounds_toArray, List.set_cons_zero, List.set_cons_succ]
  refine take_want 3 (some 8) (.map (some bn)) rfl rfl rfl (by kernel_rfl) (by kernel_rfl) (by kernel_rfl) (fun _ _ _ h => h) (fun wx hx => exec_load rfl (load_mapN (hx.cell NB HC0.out)) rfl) hS ?_
  simp only [Act.put, List.setIfInBounds_toArray, List.set_cons_zero, List.set_cons_succ]
  refine take_want 4 (some 9) (encO o) rfl rfl rfl (by kernel_rfl) (by kernel_rfl) (by kernel_rfl) (fun _ _ _ h => h) (fun wx hx => exec_load rfl (hx.boxO NX HX.out).load rfl) hS ?_
  simp only [Act.put, List.setIfInBounds_toArray, List.set_cons_zero, List.set_cons_succ]
  refine take_want 5 (some 10) (.int .i64 k) rfl rfl rfl (by kernel_rfl) (by kernel_rfl) (by kernel_rfl) (fun _ _ _ h => h) (fun wx hx => exec_lookup rfl (HL.out wx hx) rfl rfl) hS ?_
  simp only [Act.put, List.setIfInBounds_toArray, List.set_cons_zero, List.set_cons_succ]
  refine take_want 6 (some 4) (.int .i64 k) rfl rfl rfl (by kernel_rfl) (by kernel_rfl) (by kernel_rfl) (fun _ _ _ h => h) (fun wx hx => exec_assign rfl rfl) hS ?_
  simp only [Act.put, List.setIfInBounds_toArray, List.set_cons_zero, List.set_cons_succ]
  refine wpAnyH_done (by kernel_rfl) ?_ _
  go_wp2_with fail
  go_ret
  exact ⟨rfl, HB1.out.drew⟩
set_option maxRecDepth 100000 in
set_option maxHeartbeats 1000000 in
theorem len_any {w : World} {F : Nat → Prop} {b : Nat} {l : List Ref} {was : Option (List Ref)} (h : Rf w F b l was) :
    Calls Try.prog 22 #[.pointer (some ⟨b, 0, none⟩)] w fun e w' => e = .returned (.int .i64 (l.length : Int)) ∧ w' = w := by
  obtain ⟨E, bn, bo, A, sv, h, -⟩ := h
  have c0 := h.c0
  have ln := h.nm.len (P := Try.prog) uN 3
  clear h
  go_enter Try.func22, Try.ntmps22
  go_wp2_with fail
  go_ret
  exact ⟨rfl, rfl⟩
set_option maxRecDepth 100000 in
set_option maxHeartbeats 1000000 in
theorem count_any {w : World} {F : Nat → Prop} {b : Nat} {l : List Ref} {was : Option (List Ref)} (h : Rf w F b l was) {a : Int} (hI : I64 a) :
    Calls Try.prog 19 #[.pointer (some ⟨b, 0, none⟩), .int .i64 a] w fun e w' => e = .returned (.int .i64 ((byS l a).length : Int)) ∧ w' = w := by
  obtain ⟨E, bn, bo, A, sv, h, -⟩ := h
  have c1 := h.c1
  by_cases hex : ∃ p ∈ A, p.1 = a
  · obtain ⟨⟨a', sb⟩, hp, e⟩ := hex
    simp only at e
    subst e
    have lk := h.ow.look_in (P := Try.prog) KI uA hp false
    simp only [Bool.false_eq_true, if_false, encI, encM] at lk
    have ln := (h.st _ hp).len (P := Try.prog) uS 3
    rw [setL_length] at ln
    clear h hp
    go_enter Try.func19, Try.ntmps19
    go_wp2_with fail
    go_ret
    exact ⟨rfl, rfl⟩
  · have hna : ∀ p ∈ A, p.1 ≠ a := fun p hp e => hex ⟨p, hp, e⟩
    have lk := h.ow.look_out (P := Try.prog) KI uA (zeroS _) hI hna false
    simp only [Bool.false_eq_true, if_false, encI] at lk
    have ln := len_nilS w 3
    have e0 : byS l a = [] := Classical.byContradiction (fun hx => hex ((h.all a).1 hx))
    rw [e0]
    clear h hna hex e0
    go_enter Try.func19, Try.ntmps19
    go_wp2_with fail
    go_ret
    exact ⟨rfl, rfl⟩
set_option maxRecDepth 100000 in
set_option maxHeartbeats 1000000 in
theorem begin_busy {w : World} {F : Nat → Prop} {b : Nat} {l W : List Ref} (h : Rf w F b l (some W)) :
    Calls Try.prog 13 #[.pointer (some ⟨b, 0, none⟩)] w fun e w' => e = .returned (errV 100) ∧ w' = w := by
  obtain ⟨E, bn, bo, A, sv, h, ⟨s, S, rfl, -⟩, -⟩ := h
  have c2 := h.c2
  have eq := neqNilM w s
  rw [errV100]
  clear h
  go_enter Try.func13, Try.ntmps13
  go_wp2_with fail
  go_ret
  exact ⟨rfl, rfl⟩
set_option maxRecDepth 100000 in
set_option maxHeartbeats 1000000 in
theorem begin_ok {w : World} {F : Nat → Prop} {b : Nat} {l : List Ref} (h : Rf w F b l none) :
    Calls Try.prog 13 #[.pointer (some ⟨b, 0, none⟩)] w fun e w' => e = .returned .nilIface ∧ Rfd F b l (some l) w w' := by
  obtain ⟨E, bn, bo, A, sv, h, hSv, hs3, hs4, hs5⟩ := h
  have hsv : sv = none := hSv
  subst hsv
  have c2 := h.c2
  have eq := neqNilN w
  have hmm := @run_makeMap Try.prog
  have HH := hide h
  have HS4 := hide hs4
  have HS5 := hide hs5
  obtain ⟨s, hs⟩ : ∃ s, w.heap.size = s := ⟨_, rfl⟩
  obtain ⟨w1, hw1⟩ : ∃ w1, w.alloc (.map #[] 0) = w1 := ⟨_, rfl⟩
  have hb1 : Below w.heap.size w w1 := by rw [← hw1]; exact below_box _ _
  have hmade : MapIs encO OkO encI w1 s [] := by rw [← hw1, ← hs]; exact MapIs.made _ _ _ _
  have H1 := hide (HH.out.below hb1)
  have c2' := H1.out.c2
  have fz : w1.frozen? ⟨b, 2, none⟩ = false := froz_of H1.out.blk 2
  have HB1 := hide hb1
  have HM := hide hmade
  have hsz1 : w1.heap.size = s + 1 := by rw [← hw1]; simp; omega
  clear h hSv hs3 hs4 hs5 hb1 hmade
  go_enter Try.func13, Try.ntmps13
  go_wp2_with fail
  go_ret
  have hbs : b ≠ s := by have := HH.out.bd b HH.out.inB; omega
  have hblk := set_cell_row (j := 2) H1.out.blk (.map (some s))
  have hoth : ∀ k, k ≠ b → (w1.setCell ⟨b, 2, none⟩ (.map (some s))).heap[k]? = w1.heap[k]? := fun k hk => Below.heap_setCell _ _ _ _ hk
  have hsz : (w1.setCell ⟨b, 2, none⟩ (.map (some s))).heap.size = w1.heap.size := by simp [World.setCell]
  have hk := HH.out
  have ht : Turn F w (w1.setCell ⟨b, 2, none⟩ (.map (some s))) := ⟨HB1.out.os, HB1.out.tape, HB1.out.output, by rw [hsz]; exact HB1.out.size, fun k hk1 hk2 => by
    rw [hoth k (fun e => hk2 (by rw [e]; exact HS4.out _ hk.inB)), HB1.out.block k hk1]⟩
  have hE : ∀ k, E k → k < (w1.setCell ⟨b, 2, none⟩ (.map (some s))).heap.size := fun k hE => by have := hk.bd k hE; rw [hsz]; omega
  refine ⟨rfl, ⟨E, bn, bo, A, some s, ⟨?_, H1.out.nm.of_block (fun _ h => by rw [hoth _ (Ne.symm hk.neB.1)]; exact h), H1.out.ow.of_block (fun _ h => by rw [hoth _ (Ne.symm hk.neB.2.1)]; exact h), fun p hp => (H1.out.st p hp).of_block (fun _ h => by rw [hoth _ (Ne.symm (hk.neB.2.2 p hp))]; exact h), hk.all, hk.ok, hk.ne, hk.neS, hk.inj, hk.inB, hk.inN, hk.inO, hk.inS, hE⟩, ⟨s, [], rfl, HM.out.of_block (fun _ h => by rw [hoth _ (Ne.symm hbs)]; exact h), hk.ok, fun o c => ?_⟩, ?_, fun k hk => .inl (HS4.out k hk), ext_bd HS5.out ht.size⟩, ht⟩
  · exact hblk
  · constructor
    · intro h; simp at h
    · rintro ⟨h1, h2⟩; exact absurd h1 h2
  · intro s' e
    cases e
    exact ⟨fun hx => by have := hk.bd _ hx; omega, .inr ⟨by omega, by rw [hsz]; omega⟩⟩
end Go.Proofs.Ytjopdejgijojmaa
