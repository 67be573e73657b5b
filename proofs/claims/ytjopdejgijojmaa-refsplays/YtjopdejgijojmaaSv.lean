/- save: what an owner named at Begin is kept. -/
import Derived.Test.YtjopdejgijojmaaNm
namespace Go.Proofs.Ytjopdejgijojmaa
open Go.RowKit Go.Extern

set_option maxRecDepth 100000 in
set_option maxHeartbeats 4000000 in
theorem save_any {w : World} {E : Nat → Prop} {b bn bo s : Nat} {l W : List Ref} {A : List (Int × Nat)} (h : CrAt w E b l bn bo A (some s)) {S : List Ref} (hs : MapIs encO OkO encI w s S) (hW : Okl W) (hSS : ∀ o c, (o, c) ∈ S ↔ (c = ofS W o ∧ c ≠ ofS l o)) (hE : ¬ E s) {o : Own} (hO : OkO o) {a : Int} :
    Calls Try.prog 26 #[.pointer (some ⟨b, 0, none⟩), encO o, .int .i64 a] w fun e w' => e = .returned (.tuple #[]) ∧ ∃ S', MapIs encO OkO encI w' s S' ∧ (∀ q c, (q, c) ∈ S' ↔ (c = ofS W q ∧ c ≠ ofS (putS l o a) q)) ∧ Turn (fun k => k = s) w w' := by
  obtain ⟨nb1, nb2, nb3⟩ := h.neB
  have nno := h.ne
  have sb : s ≠ b := fun e => hE (by rw [e]; exact h.inB)
  have sn : s ≠ bn := fun e => hE (by rw [e]; exact h.inN)
  have so : s ≠ bo := fun e => hE (by rw [e]; exact h.inO)
  have HH := hide h
  obtain ⟨x, hx⟩ : ∃ x, w.heap.size = x := ⟨_, rfl⟩
  have xb : x ≠ b := by have := h.bd b h.inB; omega
  have xn : x ≠ bn := by have := h.bd bn h.inN; omega
  have xo : x ≠ bo := by have := h.bd bo h.inO; omega
  have xs : x ≠ s := by have := hs.lt; omega
  have HSS := hide hSS
  have HS0 := hide hs
  have HWk := hide hW
  obtain ⟨k, hk⟩ : ∃ k, ofS W o = k := ⟨_, rfl⟩
  have HKW := hide hk
  clear h nb3 hSS hs hW hk
  have eO : encO o = .agg #[.int .i64 o.1, .int .i64 o.2] := rfl
  rw [eO]
  go_enter Try.func26, Try.ntmps26
  go_wp2_with fail
  obtain ⟨w1, hw1⟩ : ∃ w1, w.alloc (.cells #[.int .i64 o.1, .int .i64 o.2] 35) = w1 := ⟨_, rfl⟩
  have hb1 : Below w.heap.size w w1 := by rw [← hw1]; exact (Below.refl _ w).alloc (Nat.le_refl _) _
  have HX : Hid (BoxO w1 x o) := hide (by rw [← hw1, ← hx]; exact boxO_new w o _)
  have H1 := hide (HH.out.below hb1)
  have HS1 : Hid (MapIs encO OkO encI w1 s S) := hide (HS0.out.of_block (fun _ ho => by rw [hb1.block s HS0.out.lt]; exact ho))
  have HB1 := hide hb1
  rw [hw1]
  clear hw1 hb1
  have HC0 := hide H1.out.c0
  have HC2 := hide H1.out.c2
  have NB := nb2
  have NX := xo
  by_cases hc : k = ofS l o
  · have HNS : Hid (∀ p ∈ S, p.1 ≠ o) := hide (fun p hp e => by
      obtain ⟨q, c⟩ := p
      simp only at e
      subst e
      obtain ⟨h1, h2⟩ := (HSS.out q c).1 hp
      exact h2 (by rw [h1, HKW.out, hc]))
    have HL : Hid (∀ wx, Keep bo w1 wx → (Instr.lookup 62 (.map (some s)) (encO o) true).run Try.prog wx = .ok (.tuple #[.int .i64 0, .bool false]) wx) := hide (fun wx hk => (hk.map so HS1.out).look_out KO uN (zeroI _) hO HNS.out true)
    have HL2 : Hid (∀ wx, Keep bo w1 wx → (Instr.lookup 62 (.map (some bn)) (encO o) false).run Try.prog wx = .ok (.int .i64 k) wx) := hide (fun wx hk => by
      rcases ofS_cases H1.out.ok.srt o with hm | ⟨hm, h0⟩
      · rw [← hc] at hm
        exact (hk.map nno H1.out.nm).look_in KO uN hm false
      · rw [hc, h0]
        exact (hk.map nno H1.out.nm).look_out KO uN (zeroI _) hO hm false)
    clear hc
    refine wp_region_held_drew (S := Keep bo w1) (by kernel_rfl) (Keep.drew _ _) (fun hS => ?_)
    refine take_want 0 (some 9) (.pointer (some ⟨b, 0, none⟩)) rfl rfl rfl (by kernel_rfl) (by kernel_rfl) (by kernel_rfl) (fun _ _ _ h => h) (fun wx hx => exec_move rfl rfl) hS ?_
    simp only [Act.put, List.setIfInBounds_toArray, List.set_cons_zero, List.set_cons_succ]
    refine take_want 1 (some 10) (.pointer (some ⟨b, 0, none⟩)) rfl rfl rfl (by kernel_rfl) (by kernel_rfl) (by kernel_rfl) (fun _ _ _ h => h) (fun wx hx => exec_nilCheck rfl rfl) hS ?_
    simp only [Act.put, List.setIfInBounds_toArray, List.set_cons_zero, List.set_cons_succ]
    refine take_want 2 (some 11) (.pointer (some ⟨b, 2, none⟩)) rfl rfl rfl (by kernel_rfl) (by kernel_rfl) (by kernel_rfl) (fun _ _ _ h => h) (fun wx hx => exec_field rfl (fld2 _ wx) rfl) hS ?_
    simp only [Act.put, List.setIfInBounds_toArray, List.set_cons_zero, List.set_cons_succ]
    refine take_want 3 (some 12) (.map (some s)) rfl rfl rfl (by kernel_rfl) (by kernel_rfl) (by kernel_rfl) (fun _ _ _ h => h) (fun wx hx => exec_load rfl (load_mapN (hx.cell NB HC2.out)) rfl) hS ?_
    simp only [Act.put, List.setIfInBounds_toArray, List.set_cons_zero, List.set_cons_succ]
    refine take_want 4 (some 13) (encO o) rfl rfl rfl (by kernel_rfl) (by kernel_rfl) (by kernel_rfl) (fun _ _ _ h => h) (fun wx hx => exec_load rfl (hx.boxO NX HX.out).load rfl) hS ?_
    simp only [Act.put, List.setIfInBounds_toArray, List.set_cons_zero, List.set_cons_succ]
    refine take_want 5 (some 14) (.tuple #[.int .i64 0, .bool false]) rfl rfl rfl (by kernel_rfl) (by kernel_rfl) (by kernel_rfl) (fun _ _ _ h => h) (fun wx hx => exec_look2 rfl (HL.out wx hx) rfl rfl) hS ?_
    simp only [Act.put, List.setIfInBounds_toArray, List.set_cons_zero, List.set_cons_succ]
    refine take_want 6 (some 8) (.tuple #[.int .i64 0, .bool false]) rfl rfl rfl (by kernel_rfl) (by kernel_rfl) (by kernel_rfl) (fun _ _ _ h => h) (fun wx hx => exec_move rfl rfl) hS ?_
    simp only [Act.put, List.setIfInBounds_toArray, List.set_cons_zero, List.set_cons_succ]
    refine take_want 7 (some 15) (.int .i64 0) rfl rfl rfl (by kernel_rfl) (by kernel_rfl) (by kernel_rfl) (fun _ _ _ h => h) (fun wx hx => exec_extract0 rfl rfl) hS ?_
    simp only [Act.put, List.setIfInBounds_toArray, List.set_cons_zero, List.set_cons_succ]
    refine take_want 8 (some 16) (.bool false) rfl rfl rfl (by kernel_rfl) (by kernel_rfl) (by kernel_rfl) (fun _ _ _ h => h) (fun wx hx => exec_extract1 rfl rfl) hS ?_
    simp only [Act.put, List.setIfInBounds_toArray, List.set_cons_zero, List.set_cons_succ]
    refine take_want 9 (some 6) (.int .i64 0) rfl rfl rfl (by kernel_rfl) (by kernel_rfl) (by kernel_rfl) (fun _ _ _ h => h) (fun wx hx => exec_assign rfl rfl) hS ?_
    simp only [Act.put, List.setIfInBounds_toArray, List.set_cons_zero, List.set_cons_succ]
    refine take_want 10 (some 7) (.bool false) rfl rfl rfl (by kernel_rfl) (by kernel_rfl) (by kernel_rfl) (fun _ _ _ h => h) (fun wx hx => exec_assign rfl rfl) hS ?_
    simp only [Act.put, List.setIfInBounds_toArray, List.set_cons_zero, List.set_cons_succ]
    refine wpAnyH_done (by kernel_rfl) ?_ _
    clear hS HL
    go_wp2_with fail
    refine wp_region_held_drew (S := Keep bo w1) (by kernel_rfl) (fun _ _ => rfl) (fun hS => ?_)
    refine take_want 0 (some 19) (.pointer (some ⟨b, 0, none⟩)) rfl rfl rfl (by kernel_rfl) (by kernel_rfl) (by kernel_rfl) (fun _ _ _ h => h) (fun wx hx => exec_move rfl rfl) hS ?_
    simp only [Act.put, List.setIfInBounds_toArray, List.set_cons_zero, List.set_cons_succ]
    refine take_want 1 (some 20) (.pointer (some ⟨b, 0, none⟩)) rfl rfl rfl (by kernel_rfl) (by kernel_rfl) (by kernel_rfl) (fun _ _ _ h => h) (fun wx hx => exec_nilCheck rfl rfl) hS ?_
    simp only [Act.put, List.setIfInBounds_toArray, List.set_cons_zero, List.set_cons_succ]
    refine take_want 2 (some 21) (.pointer (some ⟨b, 0, none⟩)) rfl rfl rfl (by kernel_rfl) (by kernel_rfl) (by kernel_rfl) (fun _ _ _ h => h) (fun wx hx => exec_field rfl (fld0 _ wx) rfl) hS ?_
    simp only [Act.put, List.setIfInBounds_toArray, List.set_cons_zero, List.set_cons_succ]
    refine take_want 3 (some 22) (.map (some bn)) rfl rfl rfl (by kernel_rfl) (by kernel_rfl) (by kernel_rfl) (fun _ _ _ h => h) (fun wx hx => exec_load rfl (load_mapN (hx.cell NB HC0.out)) rfl) hS ?_
    simp only [Act.put, List.setIfInBounds_toArray, List.set_cons_zero, List.set_cons_succ]
    refine take_want 4 (some 23) (encO o) rfl rfl rfl (by kernel_rfl) (by kernel_rfl) (by kernel_rfl) (fun _ _ _ h => h) (fun wx hx => exec_load rfl (hx.boxO NX HX.out).load rfl) hS ?_
    simp only [Act.put, List.setIfInBounds_toArray, List.set_cons_zero, List.set_cons_succ]
    refine take_want 5 (some 24) (.int .i64 k) rfl rfl rfl (by kernel_rfl) (by kernel_rfl) (by kernel_rfl) (fun _ _ _ h => h) (fun wx hx => exec_lookup rfl (HL2.out wx hx) rfl rfl) hS ?_
    simp only [Act.put, List.setIfInBounds_toArray, List.set_cons_zero, List.set_cons_succ]
    refine take_want 6 (some 6) (.int .i64 k) rfl rfl rfl (by kernel_rfl) (by kernel_rfl) (by kernel_rfl) (fun _ _ _ h => h) (fun wx hx => exec_assign rfl rfl) hS ?_
    simp only [Act.put, List.setIfInBounds_toArray, List.set_cons_zero, List.set_cons_succ]
    refine wpAnyH_done (by kernel_rfl) ?_ _
    clear hS NB NX HL2
    have NB := Ne.symm sb
    have NX := xs
    by_cases hka : k = a
    · have hkb : (k == a) = true := by simpa using hka
      obtain ⟨w2, hd, hm2, hg2, hk2⟩ := (MapIs.of_block (w' := w1.drew.drew.drew) HS1.out (fun _ h => h)).drop KO uN (a := o) hO 0
      have HD := hide hd
      have HM2 := hide hm2
      have HG2 := hide hg2
      have HK : Hid (Keep s w1 w2) := hide hk2
      have HKA := hide hka
      clear hd hm2 hg2 hk2 hka
      go_wp2_with fail
      refine wp_region_held_drew (S := Keep s w1) (by kernel_rfl) (fun _ _ => rfl) (fun hS => ?_)
      refine take_want 0 (some 28) (.pointer (some ⟨b, 0, none⟩)) rfl rfl rfl (by kernel_rfl) (by kernel_rfl) (by kernel_rfl) (fun _ _ _ h => h) (fun wx hx => exec_move rfl rfl) hS ?_
      simp only [Act.put, List.setIfInBounds_toArray, List.set_cons_zero, List.set_cons_succ]
      refine take_want 1 (some 29) (.pointer (some ⟨b, 0, none⟩)) rfl rfl rfl (by kernel_rfl) (by kernel_rfl) (by kernel_rfl) (fun _ _ _ h => h) (fun wx hx => exec_nilCheck rfl rfl) hS ?_
      simp only [Act.put, List.setIfInBounds_toArray, List.set_cons_zero, List.set_cons_succ]
      refine take_want 2 (some 30) (.pointer (some ⟨b, 2, none⟩)) rfl rfl rfl (by kernel_rfl) (by kernel_rfl) (by kernel_rfl) (fun _ _ _ h => h) (fun wx hx => exec_field rfl (fld2 _ wx) rfl) hS ?_
      simp only [Act.put, List.setIfInBounds_toArray, List.set_cons_zero, List.set_cons_succ]
      refine take_want 3 (some 31) (.map (some s)) rfl rfl rfl (by kernel_rfl) (by kernel_rfl) (by kernel_rfl) (fun _ _ _ h => h) (fun wx hx => exec_load rfl (load_mapN (hx.cell NB HC2.out)) rfl) hS ?_
      simp only [Act.put, List.setIfInBounds_toArray, List.set_cons_zero, List.set_cons_succ]
      refine take_want 4 (some 32) (encO o) rfl rfl rfl (by kernel_rfl) (by kernel_rfl) (by kernel_rfl) (fun _ _ _ h => h) (fun wx hx => exec_load rfl (hx.boxO NX HX.out).load rfl) hS ?_
      simp only [Act.put, List.setIfInBounds_toArray, List.set_cons_zero, List.set_cons_succ]
      refine only_value 5 none rfl rfl rfl (by kernel_rfl) (exec_delete rfl HD.out rfl rfl) HK.out ?_
      simp only [Act.put]
      refine wpAnyH_done (by kernel_rfl) ?_ _
      go_wp2_with fail
      go_end0
      refine ⟨rfl, _, HM2.out, fun q c => ?_, (Turn.of_below HB1.out).drew.drew.drew.grown HG2.out (.inl rfl)⟩
      rw [List.mem_filter, HSS.out, ofS_putS HH.out.ok.srt, ← HKA.out]
      by_cases e : q = o
      · subst e
        simp only [if_true]
        constructor
        · rintro ⟨-, h⟩; simp at h
        · rintro ⟨h1, h2⟩; exact absurd (h1.trans HKW.out) h2
      · simp [e]
    · have hkb : (k == a) = false := by simpa using hka
      obtain ⟨w2, hd, hm2, hg2, hk2⟩ := (MapIs.of_block (w' := w1.drew.drew.drew) HS1.out (fun _ h => h)).store KO uN (a := o) hO k
      have HD := hide hd
      have HM2 := hide hm2
      have HG2 := hide hg2
      have HK : Hid (Keep s w1 w2) := hide hk2
      have HKA := hide hka
      clear hd hm2 hg2 hk2 hka
      go_wp2_with fail
      refine wp_region_held_drew (S := Keep s w1) (by kernel_rfl) (fun _ _ => rfl) (fun hS => ?_)
      refine take_want 0 (some 33) (.pointer (some ⟨b, 0, none⟩)) rfl rfl rfl (by kernel_rfl) (by kernel_rfl) (by kernel_rfl) (fun _ _ _ h => h) (fun wx hx => exec_move rfl rfl) hS ?_
      simp only [Act.put, List.setIfInBounds_toArray, List.set_cons_zero, List.set_cons_succ]
      refine take_want 1 (some 34) (.pointer (some ⟨b, 0, none⟩)) rfl rfl rfl (by kernel_rfl) (by kernel_rfl) (by kernel_rfl) (fun _ _ _ h => h) (fun wx hx => exec_nilCheck rfl rfl) hS ?_
      simp only [Act.put, List.setIfInBounds_toArray, List.set_cons_zero, List.set_cons_succ]
      refine take_want 2 (some 35) (.pointer (some ⟨b, 2, none⟩)) rfl rfl rfl (by kernel_rfl) (by kernel_rfl) (by kernel_rfl) (fun _ _ _ h => h) (fun wx hx => exec_field rfl (fld2 _ wx) rfl) hS ?_
      simp only [Act.put, List.setIfInBounds_toArray, List.set_cons_zero, List.set_cons_succ]
      refine take_want 3 (some 36) (.map (some s)) rfl rfl rfl (by kernel_rfl) (by kernel_rfl) (by kernel_rfl) (fun _ _ _ h => h) (fun wx hx => exec_load rfl (load_mapN (hx.cell NB HC2.out)) rfl) hS ?_
      simp only [Act.put, List.setIfInBounds_toArray, List.set_cons_zero, List.set_cons_succ]
      refine take_want 4 (some 37) (encO o) rfl rfl rfl (by kernel_rfl) (by kernel_rfl) (by kernel_rfl) (fun _ _ _ h => h) (fun wx hx => exec_load rfl (hx.boxO NX HX.out).load rfl) hS ?_
      simp only [Act.put, List.setIfInBounds_toArray, List.set_cons_zero, List.set_cons_succ]
      refine take_want 5 (some 38) (.int .i64 k) rfl rfl rfl (by kernel_rfl) (by kernel_rfl) (by kernel_rfl) (fun _ _ _ h => h) (fun wx hx => exec_move rfl rfl) hS ?_
      simp only [Act.put, List.setIfInBounds_toArray, List.set_cons_zero, List.set_cons_succ]
      refine only_skip 6 none rfl rfl rfl (by kernel_rfl) (exec_update rfl HD.out rfl rfl rfl) HK.out ?_
      simp only [Act.put]
      refine wpAnyH_done (by kernel_rfl) ?_ _
      go_wp2_with fail
      go_end0
      refine ⟨rfl, _, HM2.out, fun q c => ?_, (Turn.of_below HB1.out).drew.drew.drew.grown HG2.out (.inl rfl)⟩
      rw [List.mem_cons, List.mem_filter, HSS.out, ofS_putS HH.out.ok.srt]
      by_cases e : q = o
      · subst e
        simp only [if_true, Prod.mk.injEq, true_and]
        constructor
        · rintro (h | ⟨-, h⟩)
          · exact ⟨by rw [h]; exact HKW.out.symm, by rw [h]; exact HKA.out⟩
          · simp at h
        · rintro ⟨h1, h2⟩; exact Or.inl (h1.trans HKW.out)
      · simp [e]
  · have HMS : Hid ((o, k) ∈ S) := hide ((HSS.out o k).2 ⟨HKW.out.symm, hc⟩)
    have HL : Hid (∀ wx, Keep bo w1 wx → (Instr.lookup 62 (.map (some s)) (encO o) true).run Try.prog wx = .ok (.tuple #[.int .i64 k, .bool true]) wx) := hide (fun wx hk => (hk.map so HS1.out).look_in KO uN HMS.out true)
    clear hc
    refine wp_region_held_drew (S := Keep bo w1) (by kernel_rfl) (Keep.drew _ _) (fun hS => ?_)
    refine take_want 0 (some 9) (.pointer (some ⟨b, 0, none⟩)) rfl rfl rfl (by kernel_rfl) (by kernel_rfl) (by kernel_rfl) (fun _ _ _ h => h) (fun wx hx => exec_move rfl rfl) hS ?_
    simp only [Act.put, List.setIfInBounds_toArray, List.set_cons_zero, List.set_cons_succ]
    refine take_want 1 (some 10) (.pointer (some ⟨b, 0, none⟩)) rfl rfl rfl (by kernel_rfl) (by kernel_rfl) (by kernel_rfl) (fun _ _ _ h => h) (fun wx hx => exec_nilCheck rfl rfl) hS ?_
    simp only [Act.put, List.setIfInBounds_toArray, List.set_cons_zero, List.set_cons_succ]
    refine take_want 2 (some 11) (.pointer (some ⟨b, 2, none⟩)) rfl rfl rfl (by kernel_rfl) (by kernel_rfl) (by kernel_rfl) (fun _ _ _ h => h) (fun wx hx => exec_field rfl (fld2 _ wx) rfl) hS ?_
    simp only [Act.put, List.setIfInBounds_toArray, List.set_cons_zero, List.set_cons_succ]
    refine take_want 3 (some 12) (.map (some s)) rfl rfl rfl (by kernel_rfl) (by kernel_rfl) (by kernel_rfl) (fun _ _ _ h => h) (fun wx hx => exec_load rfl (load_mapN (hx.cell NB HC2.out)) rfl) hS ?_
    simp only [Act.put, List.setIfInBounds_toArray, List.set_cons_zero, List.set_cons_succ]
    refine take_want 4 (some 13) (encO o) rfl rfl rfl (by kernel_rfl) (by kernel_rfl) (by kernel_rfl) (fun _ _ _ h => h) (fun wx hx => exec_load rfl (hx.boxO NX HX.out).load rfl) hS ?_
    simp only [Act.put, List.setIfInBounds_toArray, List.set_cons_zero, List.set_cons_succ]
    refine take_want 5 (some 14) (.tuple #[.int .i64 k, .bool true]) rfl rfl rfl (by kernel_rfl) (by kernel_rfl) (by kernel_rfl) (fun _ _ _ h => h) (fun wx hx => exec_look2 rfl (HL.out wx hx) rfl rfl) hS ?_
    simp only [Act.put, List.setIfInBounds_toArray, List.set_cons_zero, List.set_cons_succ]
    refine take_want 6 (some 8) (.tuple #[.int .i64 k, .bool true]) rfl rfl rfl (by kernel_rfl) (by kernel_rfl) (by kernel_rfl) (fun _ _ _ h => h) (fun wx hx => exec_move rfl rfl) hS ?_
    simp only [Act.put, List.setIfInBounds_toArray, List.set_cons_zero, List.set_cons_succ]
    refine take_want 7 (some 15) (.int .i64 k) rfl rfl rfl (by kernel_rfl) (by kernel_rfl) (by kernel_rfl) (fun _ _ _ h => h) (fun wx hx => exec_extract0 rfl rfl) hS ?_
    simp only [Act.put, List.setIfInBounds_toArray, List.set_cons_zero, List.set_cons_succ]
    refine take_want 8 (some 16) (.bool true) rfl rfl rfl (by kernel_rfl) (by kernel_rfl) (by kernel_rfl) (fun _ _ _ h => h) (fun wx hx => exec_extract1 rfl rfl) hS ?_
    simp only [Act.put, List.setIfInBounds_toArray, List.set_cons_zero, List.set_cons_succ]
    refine take_want 9 (some 6) (.int .i64 k) rfl rfl rfl (by kernel_rfl) (by kernel_rfl) (by kernel_rfl) (fun _ _ _ h => h) (fun wx hx => exec_assign rfl rfl) hS ?_
    simp only [Act.put, List.setIfInBounds_toArray, List.set_cons_zero, List.set_cons_succ]
    refine take_want 10 (some 7) (.bool true) rfl rfl rfl (by kernel_rfl) (by kernel_rfl) (by kernel_rfl) (fun _ _ _ h => h) (fun wx hx => exec_assign rfl rfl) hS ?_
    simp only [Act.put, List.setIfInBounds_toArray, List.set_cons_zero, List.set_cons_succ]
    refine wpAnyH_done (by kernel_rfl) ?_ _
    clear hS HL NB NX
    have NB := Ne.symm sb
    have NX := xs
    by_cases hka : k = a
    · have hkb : (k == a) = true := by simpa using hka
      obtain ⟨w2, hd, hm2, hg2, hk2⟩ := (MapIs.of_block (w' := w1.drew.drew) HS1.out (fun _ h => h)).drop KO uN (a := o) hO 0
      have HD := hide hd
      have HM2 := hide hm2
      have HG2 := hide hg2
      have HK : Hid (Keep s w1 w2) := hide hk2
      have HKA := hide hka
      clear hd hm2 hg2 hk2 hka
      go_wp2_with fail
      refine wp_region_held_drew (S := Keep s w1) (by kernel_rfl) (fun _ _ => rfl) (fun hS => ?_)
      refine take_want 0 (some 28) (.pointer (some ⟨b, 0, none⟩)) rfl rfl rfl (by kernel_rfl) (by kernel_rfl) (by kernel_rfl) (fun _ _ _ h => h) (fun wx hx => exec_move rfl rfl) hS ?_
      simp only [Act.put, List.setIfInBounds_toArray, List.set_cons_zero, List.set_cons_succ]
      refine take_want 1 (some 29) (.pointer (some ⟨b, 0, none⟩)) rfl rfl rfl (by kernel_rfl) (by kernel_rfl) (by kernel_rfl) (fun _ _ _ h => h) (fun wx hx => exec_nilCheck rfl rfl) hS ?_
      simp only [Act.put, List.setIfInBounds_toArray, List.set_cons_zero, List.set_cons_succ]
      refine take_want 2 (some 30) (.pointer (some ⟨b, 2, none⟩)) rfl rfl rfl (by kernel_rfl) (by kernel_rfl) (by kernel_rfl) (fun _ _ _ h => h) (fun wx hx => exec_field rfl (fld2 _ wx) rfl) hS ?_
      simp only [Act.put, List.setIfInBounds_toArray, List.set_cons_zero, List.set_cons_succ]
      refine take_want 3 (some 31) (.map (some s)) rfl rfl rfl (by kernel_rfl) (by kernel_rfl) (by kernel_rfl) (fun _ _ _ h => h) (fun wx hx => exec_load rfl (load_mapN (hx.cell NB HC2.out)) rfl) hS ?_
      simp only [Act.put, List.setIfInBounds_toArray, List.set_cons_zero, List.set_cons_succ]
      refine take_want 4 (some 32) (encO o) rfl rfl rfl (by kernel_rfl) (by kernel_rfl) (by kernel_rfl) (fun _ _ _ h => h) (fun wx hx => exec_load rfl (hx.boxO NX HX.out).load rfl) hS ?_
      simp only [Act.put, List.setIfInBounds_toArray, List.set_cons_zero, List.set_cons_succ]
      refine only_value 5 none rfl rfl rfl (by kernel_rfl) (exec_delete rfl HD.out rfl rfl) HK.out ?_
      simp only [Act.put]
      refine wpAnyH_done (by kernel_rfl) ?_ _
      go_wp2_with fail
      go_end0
      refine ⟨rfl, _, HM2.out, fun q c => ?_, (Turn.of_below HB1.out).drew.drew.grown HG2.out (.inl rfl)⟩
      rw [List.mem_filter, HSS.out, ofS_putS HH.out.ok.srt, ← HKA.out]
      by_cases e : q = o
      · subst e
        simp only [if_true]
        constructor
        · rintro ⟨-, h⟩; simp at h
        · rintro ⟨h1, h2⟩; exact absurd (h1.trans HKW.out) h2
      · simp [e]
    · have hkb : (k == a) = false := by simpa using hka
      obtain ⟨w2, hd, hm2, hg2, hk2⟩ := (MapIs.of_block (w' := w1.drew.drew) HS1.out (fun _ h => h)).store KO uN (a := o) hO k
      have HD := hide hd
      have HM2 := hide hm2
      have HG2 := hide hg2
      have HK : Hid (Keep s w1 w2) := hide hk2
      have HKA := hide hka
      clear hd hm2 hg2 hk2 hka
      go_wp2_with fail
      refine wp_region_held_drew (S := Keep s w1) (by kernel_rfl) (fun _ _ => rfl) (fun hS => ?_)
      refine take_want 0 (some 33) (.pointer (some ⟨b, 0, none⟩)) rfl rfl rfl (by kernel_rfl) (by kernel_rfl) (by kernel_rfl) (fun _ _ _ h => h) (fun wx hx => exec_move rfl rfl) hS ?_
      simp only [Act.put, List.setIfInBounds_toArray, List.set_cons_zero, List.set_cons_succ]
      refine take_want 1 (some 34) (.pointer (some ⟨b, 0, none⟩)) rfl rfl rfl (by kernel_rfl) (by kernel_rfl) (by kernel_rfl) (fun _ _ _ h => h) (fun wx hx => exec_nilCheck rfl rfl) hS ?_
      simp only [Act.put, List.setIfInBounds_toArray, List.set_cons_zero, List.set_cons_succ]
      refine take_want 2 (some 35) (.pointer (some ⟨b, 2, none⟩)) rfl rfl rfl (by kernel_rfl) (by kernel_rfl) (by kernel_rfl) (fun _ _ _ h => h) (fun wx hx => exec_field rfl (fld2 _ wx) rfl) hS ?_
      simp only [Act.put, List.setIfInBounds_toArray, List.set_cons_zero, List.set_cons_succ]
      refine take_want 3 (some 36) (.map (some s)) rfl rfl rfl (by kernel_rfl) (by kernel_rfl) (by kernel_rfl) (fun _ _ _ h => h) (fun wx hx => exec_load rfl (load_mapN (hx.cell NB HC2.out)) rfl) hS ?_
      simp only [Act.put, List.setIfInBounds_toArray, List.set_cons_zero, List.set_cons_succ]
      refine take_want 4 (some 37) (encO o) rfl rfl rfl (by kernel_rfl) (by kernel_rfl) (by kernel_rfl) (fun _ _ _ h => h) (fun wx hx => exec_load rfl (hx.boxO NX HX.out).load rfl) hS ?_
      simp only [Act.put, List.setIfInBounds_toArray, List.set_cons_zero, List.set_cons_succ]
      refine take_want 5 (some 38) (.int .i64 k) rfl rfl rfl (by kernel_rfl) (by kernel_rfl) (by kernel_rfl) (fun _ _ _ h => h) (fun wx hx => exec_move rfl rfl) hS ?_
      simp only [Act.put, List.setIfInBounds_toArray, List.set_cons_zero, List.set_cons_succ]
      refine only_skip 6 none rfl rfl rfl (by kernel_rfl) (exec_update rfl HD.out rfl rfl rfl) HK.out ?_
      simp only [Act.put]
      refine wpAnyH_done (by kernel_rfl) ?_ _
      go_wp2_with fail
      go_end0
      refine ⟨rfl, _, HM2.out, fun q c => ?_, (Turn.of_below HB1.out).drew.drew.grown HG2.out (.inl rfl)⟩
      rw [List.mem_cons, List.mem_filter, HSS.out, ofS_putS HH.out.ok.srt]
      by_cases e : q = o
      · subst e
        simp only [if_true, Prod.mk.injEq, true_and]
        constructor
        · rintro (h | ⟨-, h⟩)
          · exact ⟨by rw [h]; exact HKW.out.symm, by rw [h]; exact HKA.out⟩
          · simp at h
        · rintro ⟨h1, h2⟩; exact Or.inl (h1.trans HKW.out)
      · simp [e]
end Go.Proofs.Ytjopdejgijojmaa
