/- Bytes of a node. -/
import Derived.Test.YtcidadikmmdalaaDoorNb0
namespace Go.Proofs.YtcidadikmmdalaaDoor
open Go.RowKit Go.Extern

set_option maxRecDepth 100000 in
set_option maxHeartbeats 1000000 in
theorem nbytes_bad {w : World} {kv vv : Value} {K V : List Int} {L : Int} (hk : Ints w kv K) (hv : Ints w vv V) (h : ¬ Rt L K V) :
    Calls Tryd.prog 6 #[.agg #[.int .i64 L, kv, vv]] w fun e w' => e = .returned (.tuple #[.slice none 0 0, errV 70]) ∧ Below w.heap.size w w' := by
  have HBA := hide (bel_alloc w (.cells #[.int .i64 L, kv, vv] 30))
  have hC := check_bad (hk.below HBA.out) (hv.below HBA.out) h
  obtain ⟨aK, nK, cK, rfl, -⟩ := hk.form
  obtain ⟨aV, nV, cV, rfl, -⟩ := hv.form
  rw [errV_code (by omega)] at hC
  clear hk hv h
  go_enter Tryd.func6, Tryd.ntmps6
  go_wp2_with (go_at_call 8; refine hC.mono ?_; rintro e w1 ⟨rfl, hb1⟩; have HB1 := hide hb1; clear hb1)
  go_ret2
  exact ⟨by rw [errV_code (by omega)]; rfl, nextB HBA.out HB1.out⟩

set_option maxRecDepth 100000 in
set_option maxHeartbeats 4000000 in
theorem nbytes_ok {w : World} {kv vv : Value} {K V : List Int} {L : Int} (hL : Fr.Laid w) (hk : Ints w kv K) (hv : Ints w vv V) (h : Rt L K V) :
    Calls Tryd.prog 6 #[.agg #[.int .i64 L, kv, vv]] w fun e w' => ∃ u, e = .returned (.tuple #[u, .nilIface]) ∧ Fr.Bytes w' u (Fr.frameOf 2 (payB L (K.zip V))) ∧ Below w.heap.size w w' := by
  have HBA := hide (bel_alloc w (.cells #[.int .i64 L, kv, vv] 30))
  have hC := check_ok (hk.below HBA.out) (hv.below HBA.out) h
  have HK := hide (hk.below HBA.out)
  have HV := hide (hv.below HBA.out)
  have HX := hide (BoxN.new 30 w L kv vv)
  have HR := hide h
  have HL := hide hL
  obtain ⟨aK, n, cK, rfl, hn⟩ := hk.form
  obtain ⟨aV, nV, cV, rfl, -⟩ := hv.form
  have HNK := hide hn.out.symm
  have HF1 : Hid ([L, (n : Int)].all (Fr.fitB · 1) = true) := hide (fit1 h.lev (by have := h.few; rw [HNK.out] at this; exact this))
  have HIL : Hid (I64 L ∧ I64 (n : Int)) := hide ⟨by have := h.lev; unfold I64; omega, by have := h.few; rw [HNK.out] at this; unfold I64; omega⟩
  clear hk hv h hn hL
  go_enter Tryd.func6, Tryd.ntmps6
  go_wp2_with fail
  refine hC.mono ?_
  rintro e w1 ⟨rfl, hb1⟩
  have HB1 := hide hb1
  have HSX := hide (below_drew0 w1)
  clear hb1 hC
  go_wp2_with fail
  obtain ⟨X0, X1, -⟩ := (HX.out.below HB1.out).cells
  refine wp_region_held_drew (S := Below w1.heap.size w1) (by kernel_rfl) HSX.out (fun hS => ?_)
  obtain ⟨wd, hwd⟩ : ∃ x, w1.drew = x := ⟨_, rfl⟩
  rw [hwd] at hS ⊢
  clear hwd HSX
  refine take_want 1 (some 16) (.pointer (some ⟨w.heap.size, 0, none⟩)) rfl rfl rfl (by kernel_rfl) (by kernel_rfl) (by kernel_rfl) (fun _ _ _ h => h) (fun wx hx => exec_field rfl (fldN0 _ _ wx) rfl) hS ?_
  simp only [Act.put, List.setIfInBounds_toArray, List.set_cons_zero, List.set_cons_succ]
  refine take_want 2 (some 17) (.int .i64 L) rfl rfl rfl (by kernel_rfl) (by kernel_rfl) (by kernel_rfl) (fun _ _ _ h => h) (fun wx hx => exec_load rfl (load_intP (cell_bel hx X0)) rfl) hS ?_
  simp only [Act.put, List.setIfInBounds_toArray, List.set_cons_zero, List.set_cons_succ]
  refine take_want 3 (some 18) (.pointer (some ⟨w.heap.size, 0 + 1, none⟩)) rfl rfl rfl (by kernel_rfl) (by kernel_rfl) (by kernel_rfl) (fun _ _ _ h => h) (fun wx hx => exec_field rfl (fldN1 _ _ wx) rfl) hS ?_
  simp only [Act.put, List.setIfInBounds_toArray, List.set_cons_zero, List.set_cons_succ]
  refine take_want 4 (some 19) (.slice aK n cK) rfl rfl rfl (by kernel_rfl) (by kernel_rfl) (by kernel_rfl) (fun _ _ _ h => h) (fun wx hx => exec_load rfl (load_intsP (cell_bel hx X1)) rfl) hS ?_
  simp only [Act.put, List.setIfInBounds_toArray, List.set_cons_zero, List.set_cons_succ]
  refine take_want 5 (some 20) (.int .i64 (n : Int)) rfl rfl rfl (by kernel_rfl) (by kernel_rfl) (by kernel_rfl) (fun _ _ _ h => h) (fun wx hx => exec_len rfl (len_ints _ _ _ _) rfl) hS ?_
  simp only [Act.put, List.setIfInBounds_toArray, List.set_cons_zero, List.set_cons_succ]
  refine call_or_value 0 6 (some 15) (some 21) rfl rfl rfl rfl rfl rfl (by kernel_rfl) (exec_call0 rfl enterNewPacker rfl) (exec_two rfl (lit2 wd L (n : Int)) rfl rfl) (nextB hS (bel_alloc wd (.cells #[.int .i64 L, .int .i64 (n : Int)] 3))) ?_ ?_
  · refine (Fr.newPacker_any wd).mono ?_
    rintro e' wa ⟨rfl, hpa, hba⟩
    have hSa := nextB hS hba
    refine ⟨_, rfl, hSa, ?_⟩
    simp only [Act.put, List.setIfInBounds_toArray, List.set_cons_zero, List.set_cons_succ]
    have hSl := nextB hSa (bel_alloc wa (.cells #[.int .i64 L, .int .i64 (n : Int)] 3))
    refine only_value 6 (some 21) rfl rfl rfl (by kernel_rfl) (exec_two rfl (lit2 wa L (n : Int)) rfl rfl) hSl ?_
    simp only [Act.put, List.setIfInBounds_toArray, List.set_cons_zero, List.set_cons_succ]
    have hpl := hpa.below (bel_alloc wa (.cells #[.int .i64 L, .int .i64 (n : Int)] 3))
    have hi2 := ints2 wa HIL.out.1 HIL.out.2
    have HBASE : Hid (w.heap.size ≤ wd.heap.size) := hide (by have := hS.size; have := HB1.out.size; have := HBA.out.size; omega)
    refine call_want 7 (some 22) rfl rfl rfl (by kernel_rfl) (exec_call2 rfl enterPByte rfl rfl rfl) ((Fr.PByte_any wd.heap.size wd.heap.size none [] [L, (n : Int)] _ _ hpl hi2 (by simp) (by simp)).mono ?_)
    rintro e' wb ⟨rfl, row, hpb, hfb, hrb⟩
    rw [HF1.out] at hpb
    have hbb : Below w1.heap.size w1 wb := hSl.trans (hfb.below hSl.size (by have := hS.size; omega) (by simp))
    refine ⟨_, rfl, hbb, ?_⟩
    simp only [Act.put, List.setIfInBounds_toArray, List.set_cons_zero, List.set_cons_succ]
    refine take_want 8 (some 5) (.pointer (some ⟨wd.heap.size, 0, none⟩)) rfl rfl rfl (by kernel_rfl) (by kernel_rfl) (by kernel_rfl) (fun _ _ _ h => h) (fun wx hx => exec_assign rfl rfl) hbb ?_
    simp only [Act.put, List.setIfInBounds_toArray, List.set_cons_zero, List.set_cons_succ]
    refine wpAnyH_done (by kernel_rfl) ?_ _
    obtain ⟨bb, hbbE⟩ : ∃ x, wd.heap.size = x := ⟨_, rfl⟩
    rw [hbbE] at hpb HBASE ⊢
    have hbbs : w1.heap.size ≤ bb := by have := hS.size; omega
    have hrow0 : ∀ k, row = some k → w1.heap.size ≤ k := fun k e => by
      rcases hrb k e with h | h
      · cases h
      · have := hSl.size; omega
    have HPB := hide hpb
    have HBB := hide hbb
    have HROW := hide hrow0
    have HBBS := hide hbbs
    clear hbbE hpb hbb hrb hfb hrow0 hbbs hS X0 X1
    obtain ⟨x0, x1, x2⟩ := (HX.out.below (nextB HB1.out HBB.out)).cells
    go_wp2_with fail
    clear x0 x1 x2
    refine (pairs_any L (HK.out.below (nextB HB1.out HBB.out)) (HV.out.below (nextB HB1.out HBB.out)) HR.out.same (by have := HR.out.few; omega)).mono ?_
    rintro e w3 ⟨g, n3, rfl, HN3, hr3, hg3, hb3⟩
    obtain rfl : n3 = n := by rw [HN3.out, HR.out.len]; exact HNK.out
    have HR3 := hide hr3
    have HPK3 := hide (HPB.out.below hb3)
    have HBE := hide (nextB HBA.out (nextB HB1.out (nextB HBB.out hb3)))
    have HGB : Hid (g ≠ bb ∧ row ≠ some g) := hide ⟨fun e => by have := HPB.out.block; omega, fun e => by have := (HPB.out.row_ge g e).2; omega⟩
    clear hr3 hg3 hb3
    go_wp2_with fail
    go_loopg [26] n3 (fun t i wr => ∃ j : Nat, j + t = n3 ∧ i = .int .i64 (j : Int) ∧ Hid (NbW w bb bb g (Fr.bytesOf 1 [L, (n3 : Int)] ++ payE ((K.zip V).take j)) (K.zip V) wr))
    case atStart => exact ⟨0, by omega, rfl, hide ⟨⟨row, by simpa [payE] using HPK3.out, HGB.out.2⟩, HR3.out, HGB.out.1, HBE.out⟩⟩
    case round =>
      obtain ⟨j, hj, rfl, HW⟩ := hrel
      cases gk with
      | zero =>
        have hnl : ¬ (j : Int) < (n3 : Int) := by omega
        have htk : (K.zip V).take j = K.zip V := List.take_of_length_le (by rw [HR.out.len, HNK.out]; omega)
        rw [htk] at HW
        obtain ⟨row2, hpk2, -⟩ := HW.out.ex
        have HPK2 := hide hpk2
        clear hpk2
        go_wp2_with fail
        refine (Fr.pbytes_any bb bb row2 _ wr HPK2.out).mono ?_
        rintro e w5 ⟨u5, rfl, ho5, hb5⟩
        have HO5 := hide ho5
        have HB5 := hide (nextB HW.out.bel hb5)
        obtain ⟨a5, c5, g5, o5, rfl, -⟩ := ho5.bytes
        rw [Fr.errV_zero]
        clear ho5 hb5
        obtain ⟨m5, hm5⟩ : ∃ m, (Fr.bytesOf 1 [L, (n3 : Int)] ++ payE (K.zip V)).length = m := ⟨_, rfl⟩
        rw [hm5] at HO5 ⊢
        have HPL : Hid ((Fr.bytesOf 1 [L, (n3 : Int)] ++ payE (K.zip V)).length ≤ 122) := hide (by
          rw [List.length_append, Fr.bytesOf_length, payE_length, HR.out.len]; have := HR.out.few; simp; omega)
        clear hm5
        go_wp2_with fail
        refine (Fr.put_any 2 (by omega) _ _ w5 (HL.out.below HB5.out) HO5.out.bytes HPL.out).mono ?_
        rintro e w6 ⟨u6, rfl, ho6, hb6⟩
        have HO6 := hide ho6
        have HB6 := hide (nextB HB5.out hb6)
        rw [Fr.errV_zero]
        clear ho6 hb6
        go_wp2_with fail
        go_ret2
        refine ⟨_, rfl, ?_, HB6.out⟩
        have hh := HO6.out.bytes
        unfold payB
        rw [HR.out.len, HNK.out]
        exact hh
      | succ m =>
        have hlt : (j : Int) < (n3 : Int) := by omega
        have hb0 : (0 : Int) ≤ (j : Int) := by omega
        have hjn : j < n3 := by omega
        have hn7 : n3 ≤ 7 := by have := HR.out.few; rw [HNK.out] at this; exact this
        have e7 : IntKind.i64.wrap ((j : Int) + 1) = (j : Int) + 1 := IntWalk.i64_in _ ⟨by omega, by omega⟩
        obtain ⟨⟨a, b⟩, haj⟩ : ∃ k, (K.zip V)[j]? = some k := ⟨(K.zip V)[j]'(by rw [HR.out.len, HNK.out]; omega), by rw [List.getElem?_eq_getElem]⟩
        have hfp := HR.out.ris.1 _ (List.mem_of_getElem? haj)
        have HF8 : Hid ([a, b].all (Fr.fitB · 8) = true) := hide (fit8 ⟨hfp.1, hfp.2.1⟩ ⟨hfp.2.2.1, hfp.2.2.2⟩)
        have HI64 : Hid (I64 a ∧ I64 b) := hide hfp.i64
        obtain ⟨c0, c1⟩ := HW.out.row.cell haj
        have HSN : Hid (payE ((K.zip V).take (j + 1)) = payE ((K.zip V).take j) ++ Fr.bytesOf 8 [a, b]) := hide (by rw [take_snoc haj, payE_snoc])
        obtain ⟨row2, hpk2, hrg2⟩ := HW.out.ex
        have hbA := bel_alloc wr (.cells #[.int .i64 a, .int .i64 b] 56)
        have hbL := bel_alloc (wr.alloc (.cells #[.int .i64 a, .int .i64 b] 56)) (.cells #[.int .i64 a, .int .i64 b] 3)
        have HPK2 := hide (hpk2.below (nextB hbA hbL))
        have HI2 : Hid (Fr.Ints ((wr.alloc (.cells #[.int .i64 a, .int .i64 b] 56)).alloc (.cells #[.int .i64 a, .int .i64 b] 3)) (.slice (some ⟨wr.heap.size + 1, 0, none⟩) 2 2) [a, b]) := hide (by have := ints2 (wr.alloc (.cells #[.int .i64 a, .int .i64 b] 56)) HI64.out.1 HI64.out.2; rwa [World.size_alloc] at this)
        have HRG2 := hide hrg2
        have HWB := hide (nextB hbA hbL)
        have HJL : Hid ((Fr.bytesOf 1 [L, (n3 : Int)] ++ payE ((K.zip V).take j)).length ≤ 200) := hide (by
          have h2 := List.length_take_le j (K.zip V); have h3 := HR.out.len; have h4 := HR.out.few; rw [List.length_append, Fr.bytesOf_length, payE_length]; simp only [List.length_cons, List.length_nil]; have h5 := List.length_take_le' j (K.zip V); omega)
        have HRL : Hid (∀ k, row2 = some k → k < wr.heap.size) := hide (fun k e => (hpk2.row_ge k e).2)
        clear hpk2 hrg2 hfp hbA hbL
        go_wp2_with (go_at_call 22; refine (Fr.PLong_any bb bb row2 _ [a, b] _ _ HPK2.out HI2.out (by have := HJL.out; simp only [List.length_cons, List.length_nil]; omega) (fun g cap e => by simp at e; obtain ⟨rfl, -⟩ := e; intro e2; have h9 : wr.heap.size + 1 < wr.heap.size := HRL.out _ e2.symm; omega)).mono ?_; rintro e w5 ⟨rfl, row3, hp3, hf3, hr3⟩; rw [HF8.out] at hp3; have HP3 := hide hp3; have HF3 := hide hf3; have HR5 := hide hr3; clear hp3 hf3 hr3)
        go_roundg m
        case measure => omega
        case rel =>
          refine ⟨j + 1, by omega, by go_num, hide ⟨⟨row3, ?_, ?_⟩, ?_, HW.out.ne, ?_⟩⟩
          · rw [HSN.out, ← List.append_assoc]; simpa using HP3.out
          · intro e
            rcases HR5.out g e with h | h
            · exact HRG2.out h
            · have := HW.out.row.lt; simp at h; omega
          · exact HF3.out.heap (HW.out.row.below HWB.out) HW.out.ne (fun e => HRG2.out e.symm)
          · exact (nextB HW.out.bel HWB.out).trans (HF3.out.below (nextB HW.out.bel HWB.out).size (by have := HBBS.out; have := HB1.out.size; have := HBA.out.size; omega) (fun k e => by
              have h2 := (HPK2.out.row_ge k e).1
              have h3 := HBASE.out
              omega))
  · simp only [Act.put, List.setIfInBounds_toArray, List.set_cons_zero, List.set_cons_succ]
    have hi2 := (ints2 wd HIL.out.1 HIL.out.2)
    have hSm := nextB hS (bel_alloc wd (.cells #[.int .i64 L, .int .i64 (n : Int)] 3))
    obtain ⟨wm, hwm⟩ : ∃ x, wd.alloc (.cells #[.int .i64 L, .int .i64 (n : Int)] 3) = x := ⟨_, rfl⟩
    rw [hwm] at hi2 hSm ⊢
    refine call_want 0 (some 15) rfl rfl rfl (by kernel_rfl) (exec_call0 rfl enterNewPacker rfl) ((Fr.newPacker_any wm).mono ?_)
    rintro e' wa ⟨rfl, hpl, hba⟩
    have hSl := nextB hSm hba
    replace hi2 := hi2.below hba
    refine ⟨_, rfl, hSl, ?_⟩
    simp only [Act.put, List.setIfInBounds_toArray, List.set_cons_zero, List.set_cons_succ]
    have HBASE : Hid (w.heap.size ≤ wm.heap.size) := hide (by have := hSm.size; have := HB1.out.size; have := HBA.out.size; omega)
    clear hwm
    refine call_want 7 (some 22) rfl rfl rfl (by kernel_rfl) (exec_call2 rfl enterPByte rfl rfl rfl) ((Fr.PByte_any wm.heap.size wm.heap.size none [] [L, (n : Int)] _ _ hpl hi2 (by simp) (by simp)).mono ?_)
    rintro e' wb ⟨rfl, row, hpb, hfb, hrb⟩
    rw [HF1.out] at hpb
    have hbb : Below w1.heap.size w1 wb := hSl.trans (hfb.below hSl.size (by have := hSm.size; omega) (by simp))
    refine ⟨_, rfl, hbb, ?_⟩
    simp only [Act.put, List.setIfInBounds_toArray, List.set_cons_zero, List.set_cons_succ]
    refine take_want 8 (some 5) (.pointer (some ⟨wm.heap.size, 0, none⟩)) rfl rfl rfl (by kernel_rfl) (by kernel_rfl) (by kernel_rfl) (fun _ _ _ h => h) (fun wx hx => exec_assign rfl rfl) hbb ?_
    simp only [Act.put, List.setIfInBounds_toArray, List.set_cons_zero, List.set_cons_succ]
    refine wpAnyH_done (by kernel_rfl) ?_ _
    obtain ⟨bb, hbbE⟩ : ∃ x, wm.heap.size = x := ⟨_, rfl⟩
    rw [hbbE] at hpb HBASE ⊢
    have hbbs : w1.heap.size ≤ bb := by have := hSm.size; omega
    have hrow0 : ∀ k, row = some k → w1.heap.size ≤ k := fun k e => by
      rcases hrb k e with h | h
      · cases h
      · have := hSl.size; omega
    have HPB := hide hpb
    have HBB := hide hbb
    have HROW := hide hrow0
    have HBBS := hide hbbs
    clear hbbE hpb hbb hrb hfb hrow0 hbbs hS X0 X1
    obtain ⟨x0, x1, x2⟩ := (HX.out.below (nextB HB1.out HBB.out)).cells
    go_wp2_with fail
    clear x0 x1 x2
    refine (pairs_any L (HK.out.below (nextB HB1.out HBB.out)) (HV.out.below (nextB HB1.out HBB.out)) HR.out.same (by have := HR.out.few; omega)).mono ?_
    rintro e w3 ⟨g, n3, rfl, HN3, hr3, hg3, hb3⟩
    obtain rfl : n3 = n := by rw [HN3.out, HR.out.len]; exact HNK.out
    have HR3 := hide hr3
    have HPK3 := hide (HPB.out.below hb3)
    have HBE := hide (nextB HBA.out (nextB HB1.out (nextB HBB.out hb3)))
    have HGB : Hid (g ≠ bb ∧ row ≠ some g) := hide ⟨fun e => by have := HPB.out.block; omega, fun e => by have := (HPB.out.row_ge g e).2; omega⟩
    clear hr3 hg3 hb3
    go_wp2_with fail
    go_loopg [26] n3 (fun t i wr => ∃ j : Nat, j + t = n3 ∧ i = .int .i64 (j : Int) ∧ Hid (NbW w bb bb g (Fr.bytesOf 1 [L, (n3 : Int)] ++ payE ((K.zip V).take j)) (K.zip V) wr))
    case atStart => exact ⟨0, by omega, rfl, hide ⟨⟨row, by simpa [payE] using HPK3.out, HGB.out.2⟩, HR3.out, HGB.out.1, HBE.out⟩⟩
    case round =>
      obtain ⟨j, hj, rfl, HW⟩ := hrel
      cases gk with
      | zero =>
        have hnl : ¬ (j : Int) < (n3 : Int) := by omega
        have htk : (K.zip V).take j = K.zip V := List.take_of_length_le (by rw [HR.out.len, HNK.out]; omega)
        rw [htk] at HW
        obtain ⟨row2, hpk2, -⟩ := HW.out.ex
        have HPK2 := hide hpk2
        clear hpk2
        go_wp2_with fail
        refine (Fr.pbytes_any bb bb row2 _ wr HPK2.out).mono ?_
        rintro e w5 ⟨u5, rfl, ho5, hb5⟩
        have HO5 := hide ho5
        have HB5 := hide (nextB HW.out.bel hb5)
        obtain ⟨a5, c5, g5, o5, rfl, -⟩ := ho5.bytes
        rw [Fr.errV_zero]
        clear ho5 hb5
        obtain ⟨m5, hm5⟩ : ∃ m, (Fr.bytesOf 1 [L, (n3 : Int)] ++ payE (K.zip V)).length = m := ⟨_, rfl⟩
        rw [hm5] at HO5 ⊢
        have HPL : Hid ((Fr.bytesOf 1 [L, (n3 : Int)] ++ payE (K.zip V)).length ≤ 122) := hide (by
          rw [List.length_append, Fr.bytesOf_length, payE_length, HR.out.len]; have := HR.out.few; simp; omega)
        clear hm5
        go_wp2_with fail
        refine (Fr.put_any 2 (by omega) _ _ w5 (HL.out.below HB5.out) HO5.out.bytes HPL.out).mono ?_
        rintro e w6 ⟨u6, rfl, ho6, hb6⟩
        have HO6 := hide ho6
        have HB6 := hide (nextB HB5.out hb6)
        rw [Fr.errV_zero]
        clear ho6 hb6
        go_wp2_with fail
        go_ret2
        refine ⟨_, rfl, ?_, HB6.out⟩
        have hh := HO6.out.bytes
        unfold payB
        rw [HR.out.len, HNK.out]
        exact hh
      | succ m =>
        have hlt : (j : Int) < (n3 : Int) := by omega
        have hb0 : (0 : Int) ≤ (j : Int) := by omega
        have hjn : j < n3 := by omega
        have hn7 : n3 ≤ 7 := by have := HR.out.few; rw [HNK.out] at this; exact this
        have e7 : IntKind.i64.wrap ((j : Int) + 1) = (j : Int) + 1 := IntWalk.i64_in _ ⟨by omega, by omega⟩
        obtain ⟨⟨a, b⟩, haj⟩ : ∃ k, (K.zip V)[j]? = some k := ⟨(K.zip V)[j]'(by rw [HR.out.len, HNK.out]; omega), by rw [List.getElem?_eq_getElem]⟩
        have hfp := HR.out.ris.1 _ (List.mem_of_getElem? haj)
        have HF8 : Hid ([a, b].all (Fr.fitB · 8) = true) := hide (fit8 ⟨hfp.1, hfp.2.1⟩ ⟨hfp.2.2.1, hfp.2.2.2⟩)
        have HI64 : Hid (I64 a ∧ I64 b) := hide hfp.i64
        obtain ⟨c0, c1⟩ := HW.out.row.cell haj
        have HSN : Hid (payE ((K.zip V).take (j + 1)) = payE ((K.zip V).take j) ++ Fr.bytesOf 8 [a, b]) := hide (by rw [take_snoc haj, payE_snoc])
        obtain ⟨row2, hpk2, hrg2⟩ := HW.out.ex
        have hbA := bel_alloc wr (.cells #[.int .i64 a, .int .i64 b] 56)
        have hbL := bel_alloc (wr.alloc (.cells #[.int .i64 a, .int .i64 b] 56)) (.cells #[.int .i64 a, .int .i64 b] 3)
        have HPK2 := hide (hpk2.below (nextB hbA hbL))
        have HI2 : Hid (Fr.Ints ((wr.alloc (.cells #[.int .i64 a, .int .i64 b] 56)).alloc (.cells #[.int .i64 a, .int .i64 b] 3)) (.slice (some ⟨wr.heap.size + 1, 0, none⟩) 2 2) [a, b]) := hide (by have := ints2 (wr.alloc (.cells #[.int .i64 a, .int .i64 b] 56)) HI64.out.1 HI64.out.2; rwa [World.size_alloc] at this)
        have HRG2 := hide hrg2
        have HWB := hide (nextB hbA hbL)
        have HJL : Hid ((Fr.bytesOf 1 [L, (n3 : Int)] ++ payE ((K.zip V).take j)).length ≤ 200) := hide (by
          have h2 := List.length_take_le j (K.zip V); have h3 := HR.out.len; have h4 := HR.out.few; rw [List.length_append, Fr.bytesOf_length, payE_length]; simp only [List.length_cons, List.length_nil]; have h5 := List.length_take_le' j (K.zip V); omega)
        have HRL : Hid (∀ k, row2 = some k → k < wr.heap.size) := hide (fun k e => (hpk2.row_ge k e).2)
        clear hpk2 hrg2 hfp hbA hbL
        go_wp2_with (go_at_call 22; refine (Fr.PLong_any bb bb row2 _ [a, b] _ _ HPK2.out HI2.out (by have := HJL.out; simp only [List.length_cons, List.length_nil]; omega) (fun g cap e => by simp at e; obtain ⟨rfl, -⟩ := e; intro e2; have h9 : wr.heap.size + 1 < wr.heap.size := HRL.out _ e2.symm; omega)).mono ?_; rintro e w5 ⟨rfl, row3, hp3, hf3, hr3⟩; rw [HF8.out] at hp3; have HP3 := hide hp3; have HF3 := hide hf3; have HR5 := hide hr3; clear hp3 hf3 hr3)
        go_roundg m
        case measure => omega
        case rel =>
          refine ⟨j + 1, by omega, by go_num, hide ⟨⟨row3, ?_, ?_⟩, ?_, HW.out.ne, ?_⟩⟩
          · rw [HSN.out, ← List.append_assoc]; simpa using HP3.out
          · intro e
            rcases HR5.out g e with h | h
            · exact HRG2.out h
            · have := HW.out.row.lt; simp at h; omega
          · exact HF3.out.heap (HW.out.row.below HWB.out) HW.out.ne (fun e => HRG2.out e.symm)
          · exact (nextB HW.out.bel HWB.out).trans (HF3.out.below (nextB HW.out.bel HWB.out).size (by have := HBBS.out; have := HB1.out.size; have := HBA.out.size; omega) (fun k e => by
              have h2 := (HPK2.out.row_ge k e).1
              have h3 := HBASE.out
              omega))
end Go.Proofs.YtcidadikmmdalaaDoor
