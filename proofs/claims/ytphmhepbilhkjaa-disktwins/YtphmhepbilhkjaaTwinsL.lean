/- DiskTwins walked. -/
import Derived.Test.YtphmhepbilhkjaaPicks
namespace Go.Proofs.Ytphmhepbilhkjaa
open Go.RowKit Go.Extern

set_option maxRecDepth 100000 in
set_option maxHeartbeats 4000000 in
theorem twinsL_any (w : World) (v pv : Value) (l : List OpR) (ps : List Int) (hv : Script w v l) (hp : Ints w pv ps) : Calls Try.prog 6 #[v, pv] w fun e w' => e = .returned (.bool true) ∧ Below w.heap.size w w' := by
  have HPS := hide hp
  obtain ⟨ao, cap, gl, ol, rfl, h2, h3⟩ := hv
  obtain ⟨aoq, capq, gq, oq, rfl, -⟩ := hp
  have H2 := hide h2
  have H3 := hide h3
  clear h2 h3
  have HN := hide (new_any w 5)
  go_enter Try.func6, Try.ntmps6
  go_wp2_with fail
  refine HN.out.mono ?_
  rintro e w1 ⟨hb1, hif⟩
  rw [if_pos (by rfl)] at hif
  obtain ⟨a, Fa, rfl, hdka, hFa⟩ := hif
  rw [errV_zero]
  rw [show fresh (Int.toNat 5) = fresh 5 from rfl] at hdka
  have HN2 := hide (new_any w1 5)
  clear HN
  go_wp2_with fail
  refine HN2.out.mono ?_
  rintro e w2 ⟨hb2, hif⟩
  rw [if_pos (by rfl)] at hif
  obtain ⟨b, Fb, rfl, hdkb, hFb⟩ := hif
  rw [errV_zero]
  rw [show fresh (Int.toNat 5) = fresh 5 from rfl] at hdkb
  have HR0 : Hid (TwR w w2 a b 5 0) := by
    have z1 := hb1.size
    have z2 := hb2.size
    refine ⟨Fa, Fb, fresh 5, hdka.below hb2, hdkb, fun k hk => ?_, fun k hk => ?_, fun k hk hx => ?_, rfl, fun s hs => ?_, hb1.trans (hb2.mono z1)⟩
    · have := hFa k hk; omega
    · have := hFb k hk; omega
    · have h1 := hFa k hk; have h2 := hFb k hx; omega
    · simp [fresh] at hs; rw [hs]; exact ⟨by simp [zeroSec], rfl⟩
  have HBW : Hid (Below w.heap.size w w2) := by obtain ⟨_, _, _, _, _, _, _, _, _, _, h⟩ := HR0.out; exact h
  clear hb1 hb2 hdka hdkb hFa hFb HN2
  by_cases hlen : (100 : Int) < (l.length : Int) ∨ (1000 : Int) < (ps.length : Int)
  · have HA := hide (awake_any w2)
    have hdd : decide ((100 : Int) < (l.length : Int)) = true ∨ (decide ((100 : Int) < (l.length : Int)) = false ∧ decide ((1000 : Int) < (ps.length : Int)) = true) := by
      by_cases h0 : (100 : Int) < (l.length : Int)
      · exact .inl (by simpa using h0)
      · exact .inr ⟨by simpa using h0, by simp; omega⟩
    clear hlen
    rcases hdd with hd1 | ⟨hd1, hd2⟩
    · go_wp2_with (go_at_call 12; refine HA.out.mono ?_; rintro e w' ⟨rfl, hb⟩; have HBB := hide (HBW.out.trans (hb.mono HBW.out.size)); clear hb)
      go_ret
      exact ⟨rfl, HBB.out⟩
    · go_wp2_with (go_at_call 12; refine HA.out.mono ?_; rintro e w' ⟨rfl, hb⟩; have HBB := hide (HBW.out.trans (hb.mono HBW.out.size)); clear hb)
      go_ret
      exact ⟨rfl, HBB.out⟩
  · have hd1 : decide ((100 : Int) < (l.length : Int)) = false := by simp; omega
    have hd2 : decide ((1000 : Int) < (ps.length : Int)) = false := by simp; omega
    have HL : Hid (l.length ≤ 100) := by show _ ≤ _; omega
    have HPL : Hid (ps.length ≤ 1000) := by show _ ≤ _; omega
    clear hlen HBW
    go_wp2_with fail
    go_loopg [61] l.length (fun gk i wr => ∃ j, j + gk = l.length ∧ i = .int .i64 (j : Int) ∧ TwR w wr a b 5 j)
    case atStart => exact ⟨0, by omega, rfl, HR0.out⟩
    case round =>
      clear HR0
      obtain ⟨j, hj, rfl, htw⟩ := hrel
      have HTW := hide htw
      obtain ⟨Fa, Fb, S, r1, r2, r3, r4, r5, r6, r7, r8⟩ := htw
      have R1 := hide r1
      have R2 := hide r2
      have R3 := hide r3
      have R4 := hide r4
      have R5 := hide r5
      have R6 := hide r6
      have R7 := hide r7
      have R8 := hide r8
      clear r1 r2 r3 r4 r5 r6 r7 r8
      cases gk with
      | succ m =>
        have hjl : j < l.length := by omega
        have hlt : (j : Int) < (l.length : Int) := by omega
        have hb0 : (0 : Int) ≤ (j : Int) := by omega
        obtain ⟨o, ho⟩ : ∃ o, l[j]? = some o := ⟨l[j], by simp [hjl]⟩
        obtain rfl := H2.out (by omega)
        have hop0 := H3.out j o ho
        have hop := hop0.below R8.out
        obtain ⟨kind, oi, on, dv, d, opv, ops⟩ := o
        have q0 : wr.cell? ⟨gl, ol + j * 5, none⟩ = some (.int .i64 kind) := hop.c0
        have q1 : wr.cell? ⟨gl, ol + j * 5 + 1, none⟩ = some (.int .i64 oi) := hop.c1
        have q2 : wr.cell? ⟨gl, ol + j * 5 + 2, none⟩ = some (.int .i64 on) := hop.c2
        have q3 : wr.cell? ⟨gl, ol + j * 5 + 3, none⟩ = some dv := hop.c3
        have q4 : wr.cell? ⟨gl, ol + j * 5 + 4, none⟩ = some opv := hop.c4
        have HDB : Hid (Bytes wr dv d) := hop.hd
        have HDW : Hid (Bytes w dv d) := hop0.hd
        have HII : Hid (I64 oi) := hop.hi
        have hgl := cell_lt q0
        have HJ : Hid ((j : Int) + 1 < 102) := by have := HL.out; show _ < _; omega
        have hjj := HJ.out
        obtain ⟨aod, capd, gd, offd, hdv, -⟩ := hop.hd
        obtain ⟨aop, capp, gp, offp, hpv, -⟩ := hop.hp
        have hdv' : dv = .slice aod d.length capd := hdv
        have hpv' : opv = .slice aop ops.length capp := hpv
        clear hdv hpv
        subst hdv' hpv'
        have HAL : Hid (∀ o, Below wr.heap.size wr (wr.alloc o)) := fun o => (Below.refl _ _).alloc (Nat.le_refl _) o
        clear hop hop0 ho
        by_cases hbig : (1000 : Int) < (d.length : Int)
        · have HA : Hid (∀ o, Calls Try.prog 12 #[] (wr.alloc o) fun e w' => e = .returned (.bool true) ∧ Below w.heap.size w w') := fun o => (awake_any (wr.alloc o)).mono fun e w'' h => ⟨h.1, R8.out.trans (((HAL.out o).mono R8.out.size).trans (h.2.mono (Nat.le_trans R8.out.size (HAL.out o).size)))⟩
          go_wp2_with (go_at_call 12; refine (HA.out _).mono ?_; rintro e w' ⟨rfl, hb⟩; have HBB := hide hb; clear hb)
          go_ret
          exact ⟨rfl, HBB.out⟩
        · by_cases hk : kind = 2
          · subst hk
            have hkb : ((2 : Int) == 2) = true := by simp
            go_wp2_with fail
            generalize hoc : #[Value.int .i64 2, Value.int .i64 oi, Value.int .i64 on, Value.slice aod d.length capd, Value.slice aop ops.length capp] = oc
            have hwo : Below wr.heap.size wr (wr.alloc (.cells oc 35)).drew := ((Below.refl _ _).alloc (Nat.le_refl _) _).drew
            have hob : (wr.alloc (.cells oc 35)).drew.heap[wr.heap.size]? = some (.cells oc 35 (0, 0)) := heap_alloc_new wr _
            have hS0 : ∀ wx : World, wx.heap[wr.heap.size]? = some (.cells oc 35 (0, 0)) → wx.cell? ⟨wr.heap.size, 1, none⟩ = some (.int .i64 oi) ∧ wx.cell? ⟨wr.heap.size, 3, none⟩ = some (.slice aod d.length capd) := fun wx hx => by
              rw [cell_of_row wx _ _ _ _ _ hx, cell_of_row wx _ _ _ _ _ hx, ← hoc]; exact ⟨rfl, rfl⟩
            have HCP := hide (copy_any d (.slice aod d.length capd) (wr.alloc (.cells oc 35)).drew (HDB.out.below hwo))
            refine wp_region_held_drew (S := fun wx => wx.heap[wr.heap.size]? = some (.cells oc 35 (0, 0))) (by kernel_rfl) hob (fun hS => ?_)
            refine take_run 0 (some 73) (.pointer (some ⟨a, 0, none⟩)) rfl rfl rfl (by kernel_rfl) (by kernel_rfl) (by kernel_rfl) (fun _ _ _ h => h) (fun wx hx => exec_move rfl rfl) hS ?_
            simp only [Act.put, List.setIfInBounds_toArray, List.set_cons_zero, List.set_cons_succ]
            refine take_run 1 (some 74) (.pointer (some ⟨wr.heap.size, 1, none⟩)) rfl rfl rfl (by kernel_rfl) (by kernel_rfl) (by kernel_rfl) (fun _ _ _ h => h) (fun wx hx => exec_field rfl (opField1 _ wx) rfl) hS ?_
            simp only [Act.put, List.setIfInBounds_toArray, List.set_cons_zero, List.set_cons_succ]
            refine take_run 2 (some 75) (.int .i64 oi) rfl rfl rfl (by kernel_rfl) (by kernel_rfl) (by kernel_rfl) (fun _ _ _ h => h) (fun wx hx => exec_load rfl (load_int (hS0 wx hx).1) rfl) hS ?_
            simp only [Act.put, List.setIfInBounds_toArray, List.set_cons_zero, List.set_cons_succ]
            refine take_run 3 (some 76) (.pointer (some ⟨wr.heap.size, 3, none⟩)) rfl rfl rfl (by kernel_rfl) (by kernel_rfl) (by kernel_rfl) (fun _ _ _ h => h) (fun wx hx => exec_field rfl (opField3 _ wx) rfl) hS ?_
            simp only [Act.put, List.setIfInBounds_toArray, List.set_cons_zero, List.set_cons_succ]
            refine take_run 4 (some 77) (.slice aod d.length capd) rfl rfl rfl (by kernel_rfl) (by kernel_rfl) (by kernel_rfl) (fun _ _ _ h => h) (fun wx hx => exec_load rfl (load_bytes (hS0 wx hx).2) rfl) hS ?_
            simp only [Act.put, List.setIfInBounds_toArray, List.set_cons_zero, List.set_cons_succ]
            refine take_run 7 (some 80) (.pointer (some ⟨b, 0, none⟩)) rfl rfl rfl (by kernel_rfl) (by kernel_rfl) (by kernel_rfl) (fun _ _ _ h => h) (fun wx hx => exec_move rfl rfl) hS ?_
            simp only [Act.put, List.setIfInBounds_toArray, List.set_cons_zero, List.set_cons_succ]
            refine take_run 8 (some 81) (.pointer (some ⟨wr.heap.size, 1, none⟩)) rfl rfl rfl (by kernel_rfl) (by kernel_rfl) (by kernel_rfl) (fun _ _ _ h => h) (fun wx hx => exec_field rfl (opField1 _ wx) rfl) hS ?_
            simp only [Act.put, List.setIfInBounds_toArray, List.set_cons_zero, List.set_cons_succ]
            refine take_run 9 (some 82) (.int .i64 oi) rfl rfl rfl (by kernel_rfl) (by kernel_rfl) (by kernel_rfl) (fun _ _ _ h => h) (fun wx hx => exec_load rfl (load_int (hS0 wx hx).1) rfl) hS ?_
            simp only [Act.put, List.setIfInBounds_toArray, List.set_cons_zero, List.set_cons_succ]
            refine take_run 10 (some 83) (.pointer (some ⟨wr.heap.size, 3, none⟩)) rfl rfl rfl (by kernel_rfl) (by kernel_rfl) (by kernel_rfl) (fun _ _ _ h => h) (fun wx hx => exec_field rfl (opField3 _ wx) rfl) hS ?_
            simp only [Act.put, List.setIfInBounds_toArray, List.set_cons_zero, List.set_cons_succ]
            refine take_run 11 (some 84) (.slice aod d.length capd) rfl rfl rfl (by kernel_rfl) (by kernel_rfl) (by kernel_rfl) (fun _ _ _ h => h) (fun wx hx => exec_load rfl (load_bytes (hS0 wx hx).2) rfl) hS ?_
            simp only [Act.put, List.setIfInBounds_toArray, List.set_cons_zero, List.set_cons_succ]
            refine only_call 5 (some 78) rfl rfl rfl (by kernel_rfl) (exec_call1 rfl enterCopy rfl rfl) (HCP.out.mono ?_)
            rintro e w2 ⟨u2, rfl, hu2, hb2'⟩
            have hob2 : w2.heap[wr.heap.size]? = some (.cells oc 35 (0, 0)) := by rw [hb2'.block _ (heap_lt hob)]; exact hob
            refine ⟨u2, rfl, hob2, ?_⟩
            simp only [Act.put, List.setIfInBounds_toArray, List.set_cons_zero, List.set_cons_succ]
            have hb2 : Below wr.heap.size wr w2 := hwo.trans (hb2'.mono hwo.size)
            have HW2 := hide (write_any (R1.out.below hb2) oi u2 d hu2.bytes (fun s hs => by have := (R7.out s hs).1; omega))
            refine only_call 6 (some 79) rfl rfl rfl (by kernel_rfl) (exec_call3 rfl enterWrite rfl rfl rfl rfl) (HW2.out.mono ?_)
            rintro e w3 ⟨rfl, hdk3, htn3⟩
            have hob3 : w3.heap[wr.heap.size]? = some (.cells oc 35 (0, 0)) := by rw [htn3.block _ (heap_lt hob2) (fun hx => by have := (R3.out _ hx).2; omega)]; exact hob2
            refine ⟨_, rfl, hob3, ?_⟩
            simp only [Act.put, List.setIfInBounds_toArray, List.set_cons_zero, List.set_cons_succ]
            have hbw3 : Below w.heap.size w w3 := R8.out.trans ((hb2.mono R8.out.size).trans (htn3.below (Nat.le_trans R8.out.size hb2.size) (fun k hk => (R3.out k hk).1)))
            have HCP2 := hide (copy_any d (.slice aod d.length capd) w3 (HDW.out.below hbw3))
            refine only_call 12 (some 85) rfl rfl rfl (by kernel_rfl) (exec_call1 rfl enterCopy rfl rfl) (HCP2.out.mono ?_)
            rintro e w4 ⟨u4, rfl, hu4, hb4⟩
            have hob4 : w4.heap[wr.heap.size]? = some (.cells oc 35 (0, 0)) := by rw [hb4.block _ (heap_lt hob3)]; exact hob3
            refine ⟨u4, rfl, hob4, ?_⟩
            simp only [Act.put, List.setIfInBounds_toArray, List.set_cons_zero, List.set_cons_succ]
            have HW4 := hide (write_any (TwR.other R2.out R5.out hb2 htn3 hb4) oi u4 d hu4.bytes (fun s hs => by have := (R7.out s hs).1; omega))
            refine only_call 13 (some 86) rfl rfl rfl (by kernel_rfl) (exec_call3 rfl enterWrite rfl rfl rfl rfl) (HW4.out.mono ?_)
            rintro e w5 ⟨rfl, hdk5, htn5⟩
            have hob5 : w5.heap[wr.heap.size]? = some (.cells oc 35 (0, 0)) := by rw [htn5.block _ (heap_lt hob4) (fun hx => by have := (R4.out _ hx).2; omega)]; exact hob4
            refine ⟨_, rfl, hob5, ?_⟩
            simp only [Act.put, List.setIfInBounds_toArray, List.set_cons_zero, List.set_cons_succ]
            have HNEW : Hid (TwR w w5 a b 5 (j + 1)) := TwR.both R3.out R4.out R5.out R8.out hb2 hdk3 htn3 hb4 hdk5 htn5 (by rw [wSet_length]; exact R6.out) (fun s hs => by
              obtain ⟨s0, h0, h1, h2⟩ := wSet_mem hs
              have := R7.out s0 h0
              exact ⟨by omega, by rw [h1]; exact this.2⟩)
            generalize hev : errV (wErr S oi d) = ev
            have hev2 : ev = .nilIface ∨ ∃ c, ev = .iface 72 (.int .i64 c) := by
              rw [← hev]; unfold errV; split
              · exact .inl rfl
              · exact .inr ⟨_, rfl⟩
            refine take_run 14 (some 11) ev rfl rfl rfl (by kernel_rfl) (by kernel_rfl) (by kernel_rfl) (fun _ _ _ h => h) (fun wx hx => exec_assign rfl rfl) hob5 ?_
            simp only [Act.put, List.setIfInBounds_toArray, List.set_cons_zero, List.set_cons_succ]
            refine take_run 15 (some 12) ev rfl rfl rfl (by kernel_rfl) (by kernel_rfl) (by kernel_rfl) (fun _ _ _ h => h) (fun wx hx => exec_assign rfl rfl) hob5 ?_
            simp only [Act.put, List.setIfInBounds_toArray, List.set_cons_zero, List.set_cons_succ]
            refine wpAnyH_done (by kernel_rfl) ?_ _
            clear hev hoc hwo hob hS0 HCP hS hu2 hb2' hob2 hb2 HW2 hdk3 htn3 hob3 hbw3 HCP2 hu4 hb4 hob4 HW4 hdk5 htn5 hob5
            rcases hev2 with rfl | ⟨c, rfl⟩
            · go_wp2_with fail
              go_region
              go_wp2_with fail
              go_roundg m
              case measure => omega
              case rel => exact ⟨j + 1, by omega, by go_num, HNEW.out.below (Below.refl _ _).drew⟩
            · go_wp2_with fail
              go_region
              go_wp2_with fail
              go_roundg m
              case measure => omega
              case rel => exact ⟨j + 1, by omega, by go_num, HNEW.out.below (Below.refl _ _).drew⟩
          · have hkb : (kind == 2) = false := by simpa using hk
            clear hk
            go_wp2
            go_roundg m
            case measure => omega
            case rel => exact ⟨j + 1, by omega, by go_num, (HTW.out.below (HAL.out _)).mono (by omega)⟩
      | zero =>
        have hend : ¬ (j : Int) < (l.length : Int) := by omega
        have HJL : Hid (j ≤ 100) := by have := HL.out; show _ ≤ _; omega
        have HWW : Hid (∀ s ∈ S, s.wait.length ≤ 1000000) := fun s hs => by have := (R7.out s hs).1; have := HJL.out; omega
        have HFA := hide (flush_any R1.out HWW.out)
        clear hj HTW
        go_wp2_with fail
        refine HFA.out.mono ?_
        rintro e w3 ⟨rfl, hdk3, htn3⟩
        have hb3 := R8.out.trans (htn3.below R8.out.size (fun k hk => (R3.out k hk).1))
        have HFB := hide (flush_any (TwR.other R2.out R5.out (Below.refl _ wr) htn3 (Below.refl _ w3)) HWW.out)
        have hne : (((pend S).length : Int) != ((pend S).length : Int)) = false := by simp
        have HD3 := hide hdk3
        have HT3 := hide htn3
        clear hdk3 htn3 HFA
        go_wp2_with fail
        refine HFB.out.mono ?_
        rintro e w5 ⟨rfl, hdk5, htn5⟩
        have htw5 : TwR w w5 a b 5 0 := TwR.both R3.out R4.out R5.out R8.out (Below.refl _ wr) HD3.out HT3.out (Below.refl _ w3) hdk5 htn5 (by rw [List.length_map]; exact R6.out) (fun s hs => by
          obtain ⟨s0, h0, rfl⟩ := List.mem_map.1 hs
          exact ⟨by simp [Sec.flushed], (R7.out s0 h0).2⟩)
        have hb5 : Below w.heap.size w w5 := by obtain ⟨_, _, _, _, _, _, _, _, _, _, h⟩ := htw5; exact h
        obtain ⟨v', w6, hr6, hi6, hb6, hf6, ⟨ao6, n6, cap6, rfl⟩⟩ := append_picks w5 (.slice aoq ps.length capq) ps (HPS.out.below hb5) (by have := HPL.out; omega)
        have hFb' : ∀ k, ext Fb w3 w5 k → w.heap.size ≤ k ∧ k < w5.heap.size := fun k hk => by
          have z0 := R8.out.size
          have z1 := HT3.out.size
          have z2 := htn5.size
          rcases hk with hk | hk
          · have := R4.out k hk; omega
          · omega
        have HCR := hide (crash_any (hdk5.below hb6) (fun s hs => by obtain ⟨s0, h0, rfl⟩ := List.mem_map.1 hs; simp [Sec.flushed]) (.slice ao6 n6 cap6) ps hi6 (fun k hk hx => by have := hf6 k hk; have := (hFb' k hx).2; omega))
        rw [show Crashed (ext Fb w3 w5) b (S.map Sec.flushed) ps w6 = fun e w' => e = .returned (.tuple #[]) ∧ Dk w' (ext (ext Fb w3 w5) w6 w') b (S.map Sec.flushed) ∧ Turn (ext Fb w3 w5) w6 w' by unfold Crashed; rw [crS_flushed]] at HCR
        have HDA : Hid (∀ w', Turn (ext Fb w3 w5) w6 w' → Dk w' (ext Fa wr w3) a (S.map Sec.flushed) ∧ Below w.heap.size w w') := fun w' ht => by
          have z0 := R8.out.size
          have z1 := HT3.out.size
          have z2 := htn5.size
          have z3 := hb6.size
          refine ⟨((HD3.out.turn htn5 (fun k hk hx => ?_)).below hb6).turn ht (fun k hk hx => ?_), hb5.trans ((hb6.mono hb5.size).trans (ht.below (by omega) (fun k hk => (hFb' k hk).1)))⟩
          · rcases hk with hk | hk
            · exact R5.out k hk hx
            · have := (R4.out k hx).2; omega
          · rcases hk with hk | hk <;> rcases hx with hx | hx
            · exact R5.out k hk hx
            · have := (R3.out k hk).2; omega
            · have := (R4.out k hx).2; omega
            · omega
        clear hdk5 htn5 htw5 hb5 hi6 hb6 hf6 hFb' HFB hb3
        go_wp2_with (first | ((with_reducible refine wpList_appendI rfl rfl hr6 ?_ ?_ ?_ ?_); rfl; rfl; rfl) | (go_at_call 26; refine HCR.out.mono ?_; rintro e w7 ⟨rfl, hdk7, htn7⟩; have HD7 := hide hdk7; have HD7a := hide (HDA.out w7 htn7); clear hdk7 htn7 HCR HDA))
        go_loopg [103] 5 (fun gk i wz => ∃ q, q + gk = 5 ∧ i = .int .i64 (q : Int) ∧ Below w7.heap.size w7 wz)
        case atStart => exact ⟨0, by omega, rfl, Below.refl _ _⟩
        case round =>
          obtain ⟨q, hq, rfl, hbz⟩ := hrel
          have HBZ := hide hbz
          have HDA := hide (HD7a.out.1.below hbz)
          have HDB := hide (HD7.out.below hbz)
          have HBW : Hid (Below w.heap.size w wr) := HD7a.out.2.trans (hbz.mono HD7a.out.2.size)
          clear hbz
          cases gk with
          | zero =>
            have hend2 : ¬ (q : Int) < 5 := by omega
            have HA := hide (awake_any wr)
            go_wp2_with (go_at_call 12; refine HA.out.mono ?_; rintro e w' ⟨rfl, hb⟩; have HBB := hide (HBW.out.trans (hb.mono HBW.out.size)); clear hb)
            go_ret
            exact ⟨rfl, HBB.out⟩
          | succ m =>
            have hlt : (q : Int) < 5 := by omega
            obtain ⟨s, hs⟩ := get_of_lt (S := S) (i := q) (by rw [R6.out]; omega)
            have hsf : (S.map Sec.flushed)[q]? = some s.flushed := by rw [List.getElem?_map, hs]; rfl
            have hbad : s.bad = false := (R7.out s (List.mem_of_getElem? hs)).2
            have hql : q < (S.map Sec.flushed).length := (List.getElem?_eq_some_iff.1 hsf).1
            have hq64 : I64 (q : Int) := I64.nat (by omega)
            have HRE : Hid (∀ wx, Readed (S.map Sec.flushed) (q : Int) wx = fun e w' => ∃ u, e = .returned (.tuple #[u, errV 0]) ∧ Own w' wx.heap.size u s.top ∧ Below wx.heap.size wx w') := fun wx => by
              unfold Readed
              rw [show rErr (S.map Sec.flushed) (q : Int) = 0 by unfold rErr; rw [hasB_nat hql, Int.toNat_natCast, hsf]; simp [Sec.flushed, hbad], show rDat (S.map Sec.flushed) (q : Int) = s.top by unfold rDat; rw [hasB_nat hql, Int.toNat_natCast, hsf]; simp [Sec.flushed, hbad]; rfl]
            have HFW : Hid (∀ s' ∈ S.map Sec.flushed, s'.wait.length ≤ 1000000) := fun s' hs' => by obtain ⟨s0, h0, rfl⟩ := List.mem_map.1 hs'; simp [Sec.flushed]
            have HRA := hide (read_any HDA.out (q : Int) hq64 HFW.out)
            rw [HRE.out] at HRA
            have HQ := hide hq64
            have HWT : Hid (∀ wx, Below wr.heap.size wr wx → Calls Try.prog 22 #[.pointer (some ⟨b, 0, none⟩), .int .i64 (q : Int)] wx fun e w' => e = .returned (.int .i64 0) ∧ w' = wx) := fun wx hbx => by
              have := waiting_any (HDB.out.below hbx) hq64
              rw [wt_at hsf] at this
              exact this
            clear hs hsf hbad hql hq64
            go_wp2_with fail
            refine HRA.out.mono ?_
            rintro e w8 ⟨ua, rfl, hoa, hb8⟩
            rw [errV_zero]
            have HRB := hide (read_any (HDB.out.below hb8) (q : Int) HQ.out HFW.out)
            rw [HRE.out] at HRB
            have HOA := hide hoa
            have HB8 := hide hb8
            clear hoa hb8 HRA HRE
            go_wp2_with fail
            refine HRB.out.mono ?_
            rintro e w9 ⟨ub, rfl, hob, hb9⟩
            rw [errV_zero]
            have HSM := hide (same_any s.top s.top ua ub w9 (HOA.out.bytes.below hb9) hob.bytes)
            rw [show decide (s.top = s.top) = true by simp] at HSM
            have HB9 : Hid (Below wr.heap.size wr w9) := HB8.out.trans (hb9.mono HB8.out.size)
            have HW9 := hide (HWT.out w9 HB9.out)
            obtain ⟨aoa, capa, rfl⟩ := HOA.out.form
            obtain ⟨aob, capb, rfl⟩ := hob.form
            clear hob hb9 HRB HWT
            go_wp2_with (first | (go_at_call 16; refine HSM.out.mono ?_; rintro e w' ⟨rfl, hww⟩; obtain rfl : w9 = w' := hww.symm) | (go_at_call 22; refine HW9.out.mono ?_; rintro e w' ⟨rfl, hww⟩; obtain rfl : w9 = w' := hww.symm))
            go_roundg m
            case measure => omega
            case rel => exact ⟨q + 1, by omega, by go_num, HBZ.out.trans (HB9.out.mono HBZ.out.size)⟩
end Go.Proofs.Ytphmhepbilhkjaa
