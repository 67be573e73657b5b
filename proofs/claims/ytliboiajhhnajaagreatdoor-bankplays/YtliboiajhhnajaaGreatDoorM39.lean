import Derived.Test.YtliboiajhhnajaaGreatDoorM38
/- The statements' holds, by its contract. -/
namespace Go.Proofs.YtliboiajhhnajaaGreatDoor
open Go.RowKit Go.Extern

set_option maxRecDepth 100000 in
set_option maxHeartbeats 4000000 in
theorem holds_any {w0 w : World} {a b j : Nat} (h : Sta w0 w a b j) (hj : j ≤ 151) :
    Calls Tryz.prog 9 #[.pointer (some ⟨a, 0, none⟩), .pointer (some ⟨b, 0, none⟩)] w fun e w' => e = .returned (.bool true) ∧ Below w.heap.size w w' := by
  obtain ⟨Fa, Fb, D, E, q, r, h, hse, hpw, hwl, hsq, hsr⟩ := h
  have H1 := hide h
  have HSE := hide hse
  have HLEN := hide (Sl.len hse)
  have HPB := hide (Sl.pendB hse)
  have HWLE : Hid (WlB E 1000000) := Sl.WlB hse (hwl.mono (by omega))
  have HSMB : Hid (SmB E) := Sl.SmB hse h.x.k.smB
  have HPW := hide hpw
  have HSZ := hide (sizes_any h.x.k)
  have HE8 : Hid (E.length ≤ 8) := by show _ ≤ _; rw [← HLEN.out]; exact h.x.k.few
  clear h hse hpw hwl hsq hsr hj
  go_enter Tryz.func9, Tryz.ntmps9
  go_wp2_with fail
  refine HSZ.out.mono ?_
  rintro e w1 ⟨v1, rfl, hv1, hb1⟩
  have hdr : Below w1.heap.size w1 w1.drew := (Below.refl _ _).drew
  have HB1 : Hid (Below w.heap.size w w1.drew) := hb1.trans (hdr.mono hb1.size)
  have H3 := hide ((H1.out.below hb1).below hdr)
  rw [HLEN.out] at hv1
  have HV1 : Hid (w1.drew.ownsRow w.heap.size 3 1 v1 E.length (D.map fun d => Value.int .i64 (sizeOf d))) := ownsRow_of_block hv1 (fun k o _ ho => by rw [hdr.block k (heap_lt ho)]; exact ho)
  obtain ⟨aoL, capL, rfl⟩ := ownsRow_form hv1
  obtain ⟨vE, GE, hyat⟩ := H3.out.y
  have c0 := hyat.c0
  have c2 := hyat.c2
  have c3 := hyat.c3
  obtain ⟨aoE, capE, rfl⟩ := hyat.form
  have HS0 : Hid (w1.drew.cell? ⟨b, 0, none⟩ = some (.slice aoE E.length capE) ∧ w1.drew.cell? ⟨b, 2, none⟩ = some (.bool r.down) ∧ w1.drew.cell? ⟨b, 3, none⟩ = some (.int .i64 r.done)) := ⟨c0, c2, c3⟩
  have HYAT := hide hyat
  have HDN := hide (down_any H3.out.x.k)
  rw [HPW.out.1] at HDN
  have HDO := hide (done_any H3.out.x.k)
  rw [HPW.out.2.1] at HDO
  have HPE := hide (bpending_any H3.out.x.k)
  clear hv1 hb1 hdr hyat c0 c2 c3 HSZ
  go_wp2_with fail
  refine wp_region_held_drew (S := fun wx => wx.cell? ⟨b, 0, none⟩ = some (.slice aoE E.length capE) ∧ wx.cell? ⟨b, 2, none⟩ = some (.bool r.down) ∧ wx.cell? ⟨b, 3, none⟩ = some (.int .i64 r.done)) (by kernel_rfl) HS0.out (fun hS => ?_)
  refine take_run 0 (some 11) (.slice aoL E.length capL) rfl rfl rfl (by kernel_rfl) (by kernel_rfl) (by kernel_rfl) (fun _ _ _ h => h) (fun wx hx => exec_move rfl rfl) hS ?_
  simp only [Act.put, List.setIfInBounds_toArray, List.set_cons_zero, List.set_cons_succ]
  refine take_run 1 (some 12) (.int .i64 (E.length : Int)) rfl rfl rfl (by kernel_rfl) (by kernel_rfl) (by kernel_rfl) (fun _ _ _ h => h) (fun wx hx => exec_len rfl (len_intsL wx _ _ _) rfl) hS ?_
  simp only [Act.put, List.setIfInBounds_toArray, List.set_cons_zero, List.set_cons_succ]
  refine take_run 2 (some 13) (.pointer (some ⟨b, 0, none⟩)) rfl rfl rfl (by kernel_rfl) (by kernel_rfl) (by kernel_rfl) (fun _ _ _ h => h) (fun wx hx => exec_move rfl rfl) hS ?_
  simp only [Act.put, List.setIfInBounds_toArray, List.set_cons_zero, List.set_cons_succ]
  refine take_run 3 (some 14) (.pointer (some ⟨b, 0, none⟩)) rfl rfl rfl (by kernel_rfl) (by kernel_rfl) (by kernel_rfl) (fun _ _ _ h => h) (fun wx hx => exec_nilCheck rfl rfl) hS ?_
  simp only [Act.put, List.setIfInBounds_toArray, List.set_cons_zero, List.set_cons_succ]
  refine take_run 4 (some 15) (.pointer (some ⟨b, 0, none⟩)) rfl rfl rfl (by kernel_rfl) (by kernel_rfl) (by kernel_rfl) (fun _ _ _ h => h) (fun wx hx => exec_field rfl (rbField0 _ wx) rfl) hS ?_
  simp only [Act.put, List.setIfInBounds_toArray, List.set_cons_zero, List.set_cons_succ]
  refine take_run 5 (some 16) (.slice aoE E.length capE) rfl rfl rfl (by kernel_rfl) (by kernel_rfl) (by kernel_rfl) (fun _ _ _ h => h) (fun wx hx => exec_load rfl (load_rdisks hx.1) rfl) hS ?_
  simp only [Act.put, List.setIfInBounds_toArray, List.set_cons_zero, List.set_cons_succ]
  refine take_run 6 (some 17) (.int .i64 (E.length : Int)) rfl rfl rfl (by kernel_rfl) (by kernel_rfl) (by kernel_rfl) (fun _ _ _ h => h) (fun wx hx => exec_len rfl (len_rdisks wx _ _ _) rfl) hS ?_
  simp only [Act.put, List.setIfInBounds_toArray, List.set_cons_zero, List.set_cons_succ]
  refine take_run 7 (some 18) (.bool false) rfl rfl rfl (by kernel_rfl) (by kernel_rfl) (by kernel_rfl) (fun _ _ _ h => h) (fun wx hx => exec_neqN rfl rfl rfl) hS ?_
  simp only [Act.put, List.setIfInBounds_toArray, List.set_cons_zero, List.set_cons_succ]
  refine take_run 8 (some 19) (.bool false) rfl rfl rfl (by kernel_rfl) (by kernel_rfl) (by kernel_rfl) (fun _ _ _ h => h) (fun wx hx => exec_move rfl rfl) hS ?_
  simp only [Act.put, List.setIfInBounds_toArray, List.set_cons_zero, List.set_cons_succ]
  refine take_want 9 (some 20) (.pointer (some ⟨a, 0, none⟩)) rfl rfl rfl (by kernel_rfl) (by kernel_rfl) (by kernel_rfl) (fun _ _ _ h => h) (fun wx hx => exec_move rfl rfl) hS ?_
  simp only [Act.put, List.setIfInBounds_toArray, List.set_cons_zero, List.set_cons_succ]
  refine take_want 11 (some 22) (.pointer (some ⟨b, 0, none⟩)) rfl rfl rfl (by kernel_rfl) (by kernel_rfl) (by kernel_rfl) (fun _ _ _ h => h) (fun wx hx => exec_move rfl rfl) hS ?_
  simp only [Act.put, List.setIfInBounds_toArray, List.set_cons_zero, List.set_cons_succ]
  refine take_want 12 (some 23) (.pointer (some ⟨b, 0, none⟩)) rfl rfl rfl (by kernel_rfl) (by kernel_rfl) (by kernel_rfl) (fun _ _ _ h => h) (fun wx hx => exec_nilCheck rfl rfl) hS ?_
  simp only [Act.put, List.setIfInBounds_toArray, List.set_cons_zero, List.set_cons_succ]
  refine take_want 13 (some 24) (.pointer (some ⟨b, 2, none⟩)) rfl rfl rfl (by kernel_rfl) (by kernel_rfl) (by kernel_rfl) (fun _ _ _ h => h) (fun wx hx => exec_field rfl (rbField2 _ wx) rfl) hS ?_
  simp only [Act.put, List.setIfInBounds_toArray, List.set_cons_zero, List.set_cons_succ]
  refine take_want 14 (some 25) (.bool r.down) rfl rfl rfl (by kernel_rfl) (by kernel_rfl) (by kernel_rfl) (fun _ _ _ h => h) (fun wx hx => exec_load rfl (load_boolL hx.2.1) rfl) hS ?_
  simp only [Act.put, List.setIfInBounds_toArray, List.set_cons_zero, List.set_cons_succ]
  refine call_want 10 (some 21) rfl rfl rfl (by kernel_rfl) (exec_call1 rfl enterBDown rfl rfl) (HDN.out.mono ?_)
  rintro e w' ⟨rfl, hww⟩
  obtain rfl : w1.drew = w' := hww.symm
  refine ⟨_, rfl, hS, ?_⟩
  simp only [Act.put, List.setIfInBounds_toArray, List.set_cons_zero, List.set_cons_succ]
  refine take_want 15 (some 26) (.bool false) rfl rfl rfl (by kernel_rfl) (by kernel_rfl) (by kernel_rfl) (fun _ _ _ h => h) (fun wx hx => exec_neqB rfl rfl rfl) hS ?_
  simp only [Act.put, List.setIfInBounds_toArray, List.set_cons_zero, List.set_cons_succ]
  refine take_run 16 (some 27) (.bool false) rfl rfl rfl (by kernel_rfl) (by kernel_rfl) (by kernel_rfl) (fun _ _ _ h => h) (fun wx hx => exec_pickF rfl rfl rfl) hS ?_
  simp only [Act.put, List.setIfInBounds_toArray, List.set_cons_zero, List.set_cons_succ]
  refine take_run 17 (some 28) (.bool false) rfl rfl rfl (by kernel_rfl) (by kernel_rfl) (by kernel_rfl) (fun _ _ _ h => h) (fun wx hx => exec_move rfl rfl) hS ?_
  simp only [Act.put, List.setIfInBounds_toArray, List.set_cons_zero, List.set_cons_succ]
  refine take_want 18 (some 29) (.pointer (some ⟨a, 0, none⟩)) rfl rfl rfl (by kernel_rfl) (by kernel_rfl) (by kernel_rfl) (fun _ _ _ h => h) (fun wx hx => exec_move rfl rfl) hS ?_
  simp only [Act.put, List.setIfInBounds_toArray, List.set_cons_zero, List.set_cons_succ]
  refine take_want 20 (some 31) (.pointer (some ⟨b, 0, none⟩)) rfl rfl rfl (by kernel_rfl) (by kernel_rfl) (by kernel_rfl) (fun _ _ _ h => h) (fun wx hx => exec_move rfl rfl) hS ?_
  simp only [Act.put, List.setIfInBounds_toArray, List.set_cons_zero, List.set_cons_succ]
  refine take_want 21 (some 32) (.pointer (some ⟨b, 0, none⟩)) rfl rfl rfl (by kernel_rfl) (by kernel_rfl) (by kernel_rfl) (fun _ _ _ h => h) (fun wx hx => exec_nilCheck rfl rfl) hS ?_
  simp only [Act.put, List.setIfInBounds_toArray, List.set_cons_zero, List.set_cons_succ]
  refine take_want 22 (some 33) (.pointer (some ⟨b, 3, none⟩)) rfl rfl rfl (by kernel_rfl) (by kernel_rfl) (by kernel_rfl) (fun _ _ _ h => h) (fun wx hx => exec_field rfl (rbField3 _ wx) rfl) hS ?_
  simp only [Act.put, List.setIfInBounds_toArray, List.set_cons_zero, List.set_cons_succ]
  refine take_want 23 (some 34) (.int .i64 r.done) rfl rfl rfl (by kernel_rfl) (by kernel_rfl) (by kernel_rfl) (fun _ _ _ h => h) (fun wx hx => exec_load rfl (load_int hx.2.2) rfl) hS ?_
  simp only [Act.put, List.setIfInBounds_toArray, List.set_cons_zero, List.set_cons_succ]
  refine call_want 19 (some 30) rfl rfl rfl (by kernel_rfl) (exec_call1 rfl enterBDone rfl rfl) (HDO.out.mono ?_)
  rintro e w' ⟨rfl, hww⟩
  obtain rfl : w1.drew = w' := hww.symm
  refine ⟨_, rfl, hS, ?_⟩
  simp only [Act.put, List.setIfInBounds_toArray, List.set_cons_zero, List.set_cons_succ]
  refine take_want 24 (some 35) (.bool false) rfl rfl rfl (by kernel_rfl) (by kernel_rfl) (by kernel_rfl) (fun _ _ _ h => h) (fun wx hx => exec_neqN rfl rfl rfl) hS ?_
  simp only [Act.put, List.setIfInBounds_toArray, List.set_cons_zero, List.set_cons_succ]
  refine take_run 25 (some 36) (.bool false) rfl rfl rfl (by kernel_rfl) (by kernel_rfl) (by kernel_rfl) (fun _ _ _ h => h) (fun wx hx => exec_pickF rfl rfl rfl) hS ?_
  simp only [Act.put, List.setIfInBounds_toArray, List.set_cons_zero, List.set_cons_succ]
  refine take_run 26 (some 37) (.bool false) rfl rfl rfl (by kernel_rfl) (by kernel_rfl) (by kernel_rfl) (fun _ _ _ h => h) (fun wx hx => exec_move rfl rfl) hS ?_
  simp only [Act.put, List.setIfInBounds_toArray, List.set_cons_zero, List.set_cons_succ]
  refine take_want 27 (some 38) (.pointer (some ⟨a, 0, none⟩)) rfl rfl rfl (by kernel_rfl) (by kernel_rfl) (by kernel_rfl) (fun _ _ _ h => h) (fun wx hx => exec_move rfl rfl) hS ?_
  simp only [Act.put, List.setIfInBounds_toArray, List.set_cons_zero, List.set_cons_succ]
  refine take_want 29 (some 40) (.pointer (some ⟨b, 0, none⟩)) rfl rfl rfl (by kernel_rfl) (by kernel_rfl) (by kernel_rfl) (fun _ _ _ h => h) (fun wx hx => exec_move rfl rfl) hS ?_
  simp only [Act.put, List.setIfInBounds_toArray, List.set_cons_zero, List.set_cons_succ]
  refine call_want 28 (some 39) rfl rfl rfl (by kernel_rfl) (exec_call1 rfl enterBPending rfl rfl) (HPE.out.mono ?_)
  rintro e w2 ⟨rfl, hb2⟩
  have s2 : w2.cell? ⟨b, 0, none⟩ = some (.slice aoE E.length capE) ∧ w2.cell? ⟨b, 2, none⟩ = some (.bool r.down) ∧ w2.cell? ⟨b, 3, none⟩ = some (.int .i64 r.done) := ⟨by rw [hb2.cell (cell_lt hS.1)]; exact hS.1, by rw [hb2.cell (cell_lt hS.2.1)]; exact hS.2.1, by rw [hb2.cell (cell_lt hS.2.2)]; exact hS.2.2⟩
  refine ⟨_, rfl, s2, ?_⟩
  simp only [Act.put, List.setIfInBounds_toArray, List.set_cons_zero, List.set_cons_succ]
  have H4 := hide (H3.out.below hb2)
  have HRP := hide (rbpending_any H4.out.y HSMB.out HWLE.out)
  rw [← HPB.out] at HRP
  refine call_want 30 (some 41) rfl rfl rfl (by kernel_rfl) (exec_call1 rfl enterRBPending rfl rfl) (HRP.out.mono ?_)
  rintro e w3 ⟨rfl, hb3⟩
  have s3 : w3.cell? ⟨b, 0, none⟩ = some (.slice aoE E.length capE) ∧ w3.cell? ⟨b, 2, none⟩ = some (.bool r.down) ∧ w3.cell? ⟨b, 3, none⟩ = some (.int .i64 r.done) := ⟨by rw [hb3.cell (cell_lt s2.1)]; exact s2.1, by rw [hb3.cell (cell_lt s2.2.1)]; exact s2.2.1, by rw [hb3.cell (cell_lt s2.2.2)]; exact s2.2.2⟩
  refine ⟨_, rfl, s3, ?_⟩
  simp only [Act.put, List.setIfInBounds_toArray, List.set_cons_zero, List.set_cons_succ]
  refine take_want 31 (some 42) (.bool false) rfl rfl rfl (by kernel_rfl) (by kernel_rfl) (by kernel_rfl) (fun _ _ _ h => h) (fun wx hx => exec_neqN rfl rfl rfl) s3 ?_
  simp only [Act.put, List.setIfInBounds_toArray, List.set_cons_zero, List.set_cons_succ]
  refine take_run 32 (some 43) (.bool false) rfl rfl rfl (by kernel_rfl) (by kernel_rfl) (by kernel_rfl) (fun _ _ _ h => h) (fun wx hx => exec_pickF rfl rfl rfl) s3 ?_
  simp only [Act.put, List.setIfInBounds_toArray, List.set_cons_zero, List.set_cons_succ]
  refine wpAnyH_done (by kernel_rfl) ?_ _
  have HB3 : Hid (Below w1.drew.heap.size w1.drew w3) := hb2.trans (hb3.mono hb2.size)
  have k0 := s3.1
  clear hS s2 s3 hb2 hb3 HRP H4 HPE HDO HDN HS0
  go_wp2_with fail
  go_loopg [49] E.length (fun gk i wr => ∃ k, k + gk = E.length ∧ i = .int .i64 (k : Int) ∧ Below w1.drew.heap.size w1.drew wr)
  case atStart => exact ⟨0, by omega, rfl, HB3.out⟩
  case round =>
    clear HB3
    obtain ⟨k, hk, rfl, hbw⟩ := hrel
    have HBW := hide hbw
    cases gk with
    | zero =>
      have hend : ¬ (k : Int) < (E.length : Int) := by omega
      have HEND := hide (HB1.out.trans (hbw.mono HB1.out.size))
      clear hk hbw
      go_wp2
      go_ret
      exact ⟨rfl, HEND.out⟩
    | succ m =>
      have hlt : (k : Int) < (E.length : Int) := by omega
      have hb0 : (0 : Int) ≤ (k : Int) := by omega
      have hkl : k < E.length := by omega
      have hkk : (k : Int) + 1 < 10 := by have := HE8.out; omega
      have hyat := HYAT.out.below hbw
      obtain ⟨dD, hD⟩ : ∃ d, D[k]? = some d := ⟨D[k]'(by have := HLEN.out; omega), by simp⟩
      obtain ⟨gL, capL', curL, hvL, -⟩ := ownsRow_pos HV1.out (by omega)
      simp only [Value.slice.injEq, true_and] at hvL
      obtain ⟨rfl, rfl⟩ := hvL
      have cL0 : w1.drew.cell? ⟨gL, k, none⟩ = some (.int .i64 (sizeOf dD)) := row_cell HV1.out (j := k) (by simp [hD])
      have cL : wr.cell? ⟨gL, k, none⟩ = some (.int .i64 (sizeOf dD)) := by rw [hbw.cell (cell_lt cL0)]; exact cL0
      rcases Sl.at_ HSE.out k with ⟨p, p', S, h1, h2⟩ | ⟨h1, h2⟩ | ⟨h1, h2⟩
      · rw [h1] at hD
        cases hD
        rw [show sizeOf (some (p, S)) = (S.length : Int) from rfl] at cL
        obtain ⟨gE, capE', hvE, -, ck, -⟩ := hyat.there h2
        simp only [Value.slice.injEq, true_and] at hvE
        obtain ⟨rfl, rfl⟩ := hvE
        obtain ⟨vR, T, hrat, hTS⟩ := hyat.dev k p' S h2
        have r0 := hrat.cell
        obtain ⟨aoR, capR, rfl⟩ := hrat.form
        rw [RkAt.len hTS] at r0
        have hne : ((S.length : Int) != (S.length : Int)) = false := by simp
        clear hyat h1 h2 hrat hTS cL0 hbw hkl
        go_wp2
        go_roundg m
        case measure => omega
        case rel => exact ⟨k + 1, by omega, by go_num, HBW.out⟩
      · rw [h1] at hD
        cases hD
        rw [show sizeOf none = 0 from rfl] at cL
        obtain ⟨gE, hvE, -, ck, -⟩ := hyat.at_ h2
        subst hvE
        rw [ptrV_none] at ck
        clear hyat h1 h2 cL0 hbw hkl
        go_wp2
        go_roundg m
        case measure => omega
        case rel => exact ⟨k + 1, by omega, by go_num, HBW.out⟩
      · rw [h1] at hD; cases hD
end Go.Proofs.YtliboiajhhnajaaGreatDoor
