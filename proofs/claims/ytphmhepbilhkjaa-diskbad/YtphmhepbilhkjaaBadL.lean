/- DiskBad walked. -/
import Derived.Test.YtphmhepbilhkjaaOps
namespace Go.Proofs.Ytphmhepbilhkjaa
open Go.RowKit Go.Extern

/-- What holds round by round: the disk, its bad sector, what was written there last. -/
def BadR (w wr : World) (b bad : Nat) (lv : Value) (j : Nat) : Prop :=
  ∃ F S lb, Dk wr F b S ∧ (∀ k, F k → w.heap.size ≤ k ∧ k < wr.heap.size) ∧ S.length = 6 ∧ (∀ i s, S[i]? = some s → s.bad = decide (i = bad) ∧ s.wait.length ≤ j) ∧ Bytes wr lv lb ∧ (∃ s, S[bad]? = some s ∧ s.top = lb) ∧ (∀ k, lv.ownBlock = some k → k < wr.heap.size ∧ ¬ F k) ∧ Below w.heap.size w wr
theorem BadR.below {w wr w' : World} {b bad : Nat} {lv : Value} {j : Nat} (h : BadR w wr b bad lv j) (hb : Below wr.heap.size wr w') : BadR w w' b bad lv j := by
  obtain ⟨F, S, lb, h1, h2, h3, h4, h5, h6, h7, h8⟩ := h
  exact ⟨F, S, lb, h1.below hb, fun k hk => ⟨(h2 k hk).1, Nat.lt_of_lt_of_le (h2 k hk).2 hb.size⟩, h3, h4, h5.below hb, h6, fun k hk => ⟨Nat.lt_of_lt_of_le (h7 k hk).1 hb.size, (h7 k hk).2⟩, h8.trans (hb.mono h8.size)⟩
theorem BadR.mono {w wr : World} {b bad : Nat} {lv : Value} {j j' : Nat} (h : BadR w wr b bad lv j) (hj : j ≤ j') : BadR w wr b bad lv j' := by
  obtain ⟨F, S, lb, h1, h2, h3, h4, h5⟩ := h
  exact ⟨F, S, lb, h1, h2, h3, fun i s hs => ⟨(h4 i s hs).1, Nat.le_trans (h4 i s hs).2 hj⟩, h5⟩

theorem BadR.write {w wr w4 w5 : World} {b k : Nat} {lv' : Value} {j : Nat} {F : Nat → Prop} {S : List Sec} {lb' d : List Nat} {oi : Int} (r2 : ∀ k, F k → w.heap.size ≤ k ∧ k < wr.heap.size) (r3 : S.length = 6) (r4 : ∀ i s, S[i]? = some s → s.bad = decide (i = k) ∧ s.wait.length ≤ j) (r8 : Below w.heap.size w wr)
    (hb4 : Below wr.heap.size wr w4) (hd5 : Dk w5 (ext F w4 w5) b (wSet S oi d)) (ht5 : Turn F w4 w5) (hdl : d.length = 128) (hlv : Bytes w4 lv' lb') (hout : ∀ q, lv'.ownBlock = some q → q < w4.heap.size ∧ ¬ F q) (htop : ∃ s, (wSet S oi d)[k]? = some s ∧ s.top = lb') : BadR w w5 b k lv' (j + 1) := by
  have h1 := r8.size
  have h2 := hb4.size
  have h3 := ht5.size
  refine ⟨ext F w4 w5, wSet S oi d, lb', hd5, fun q hq => ?_, by rw [wSet_length]; exact r3, fun i s hs => ?_, hlv.turn ht5 (fun q hq => (hout q hq).2), htop, fun q hq => ?_, r8.trans ((hb4.mono h1).trans (ht5.below (by omega) (fun q hq => (r2 q hq).1)))⟩
  · rcases hq with hq | hq
    · have := r2 q hq; omega
    · omega
  · obtain ⟨s1, hs1, rfl⟩ := wSet_at hdl hs
    have := r4 i s1 hs1
    by_cases e : oi = (i : Int)
    · rw [if_pos e]; exact ⟨this.1, by simpa using this.2⟩
    · rw [if_neg e]; exact ⟨this.1, by omega⟩
  · have := hout q hq
    refine ⟨by omega, fun hx => ?_⟩
    rcases hx with hx | hx
    · exact this.2 hx
    · omega
theorem wSet_same {S : List Sec} {k : Nat} {s : Sec} {d : List Nat} (hs : S[k]? = some s) (hd : d.length = 128) : (wSet S (k : Int) d)[k]? = some { s with wait := s.wait ++ [d] } := by
  have hk := (List.getElem?_eq_some_iff.1 hs).1
  unfold wSet
  rw [if_pos ⟨hasB_nat hk, hd⟩, Int.toNat_natCast, hs]
  exact List.getElem?_set_self hk
theorem wSet_other {S : List Sec} {k : Nat} {oi : Int} {d : List Nat} (h : oi ≠ (k : Int)) : (wSet S oi d)[k]? = S[k]? := by
  unfold wSet
  split
  · rename_i hx
    obtain ⟨j, s, rfl, hs⟩ := hasB_at hx.1
    rw [Int.toNat_natCast, hs]
    exact List.getElem?_set_ne (by omega)
  · rfl

set_option maxRecDepth 100000 in
theorem unread_any (x : Bool) (w : World) : Calls Try.prog 29 #[.bool x] w fun e w' => e = .returned (.int .i64 (if x then 21 else 0)) ∧ w' = w := by
  cases x
  · go_enter Try.func29, Try.ntmps29
    go_wp2
    go_ret
    exact ⟨rfl, rfl⟩
  · go_enter Try.func29, Try.ntmps29
    go_wp2
    go_ret
    exact ⟨rfl, rfl⟩

set_option maxRecDepth 100000 in
set_option maxHeartbeats 4000000 in
theorem badL_any (w : World) (v : Value) (l : List OpR) (bad : Int) (hbad : I64 bad) (hv : Script w v l) : Calls Try.prog 7 #[v, .int .i64 bad] w fun e w' => e = .returned (.bool true) ∧ Below w.heap.size w w' := by
  have HSC := hide hv
  obtain ⟨ao, cap, gl, ol, rfl, h2, h3⟩ := hv
  have H2 := hide h2
  have H3 := hide h3
  have HI := hide hbad
  clear h2 h3 hbad
  have HN := hide (new_any w 6)
  go_enter Try.func7, Try.ntmps7
  go_wp2_with fail
  refine HN.out.mono ?_
  rintro e w1 ⟨hb1, hif⟩
  rw [if_pos (by rfl)] at hif
  obtain ⟨b, F, rfl, hdk, hF⟩ := hif
  rw [errV_zero]
  rw [show fresh (Int.toNat 6) = fresh 6 from rfl] at hdk
  have HB1 := hide hb1
  have HF := hide hF
  have HDK := hide hdk
  clear hb1 hdk hF HN
  by_cases hlen : (100 : Int) < (l.length : Int)
  · have hld : decide ((100 : Int) < (l.length : Int)) = true := by simpa using hlen
    have HA := hide (awake_any w1)
    clear hlen
    go_wp2_with (go_at_call 12; refine HA.out.mono ?_; rintro e w' ⟨rfl, hb⟩; have HBB := hide (HB1.out.trans (hb.mono HB1.out.size)); clear hb)
    go_ret
    exact ⟨rfl, HBB.out⟩
  · have hld : decide ((100 : Int) < (l.length : Int)) = false := by simpa using hlen
    have HL := hide hlen
    clear hlen
    have HBD := hide (bad_any HDK.out bad true)
    cases hh : hasB (fresh 6) bad with
    | false =>
      have hlo : ¬ (0 ≤ bad ∧ bad < 6) := by
        intro hx
        have : hasB (fresh 6) bad = true := by simp [hasB, fresh]; exact hx
        rw [hh] at this; cases this
      rw [show bErr (fresh 6) bad = 20 by simp [bErr, hh]] at HBD
      have hdd : decide (bad < 0) = true ∨ (decide (bad < 0) = false ∧ decide (6 ≤ bad) = true) := by
        by_cases h0 : bad < 0
        · exact .inl (by simpa using h0)
        · exact .inr ⟨by simpa using h0, by simp; omega⟩
      clear hlo hh
      go_wp2_with fail
      refine HBD.out.mono ?_
      rintro e w2 ⟨rfl, -, htn⟩
      have HB2 := hide (HB1.out.trans (htn.below HB1.out.size (fun k hk => (HF.out k hk).1)))
      have HIS := hide (is_any 20 20 w2)
      rw [errV_20] at HIS ⊢
      have HA := hide (awake_any w2)
      clear htn HBD
      rcases hdd with hd | ⟨hd, hd2⟩
      · go_wp2_with (first | (go_at_call 11; refine HIS.out.mono ?_; rintro e w' ⟨rfl, hww⟩; obtain rfl : w2 = w' := hww.symm) | (go_at_call 12; refine HA.out.mono ?_; rintro e w' ⟨rfl, hb⟩; have HBB := hide (HB2.out.trans (hb.mono HB2.out.size)); clear hb))
        go_ret
        exact ⟨rfl, HBB.out⟩
      · go_wp2_with (first | (go_at_call 11; refine HIS.out.mono ?_; rintro e w' ⟨rfl, hww⟩; obtain rfl : w2 = w' := hww.symm) | (go_at_call 12; refine HA.out.mono ?_; rintro e w' ⟨rfl, hb⟩; have HBB := hide (HB2.out.trans (hb.mono HB2.out.size)); clear hb))
        go_ret
        exact ⟨rfl, HBB.out⟩
    | true =>
      obtain ⟨k, s0, rfl, hs0⟩ := hasB_at hh
      have hk6 : k < 6 := by have := (List.getElem?_eq_some_iff.1 hs0).1; simpa [fresh] using this
      rw [show bErr (fresh 6) (k : Int) = 0 by simp [bErr, hh]] at HBD
      have hd : decide ((k : Int) < 0) = false := by simp
      have hd2 : decide ((6 : Int) ≤ (k : Int)) = false := by simp; omega
      have HK := hide hk6
      clear hh hs0 hk6
      go_wp2_with fail
      refine HBD.out.mono ?_
      rintro e w2 ⟨rfl, hdk2, htn⟩
      rw [errV_zero]
      have HB2 := hide (HB1.out.trans (htn.below HB1.out.size (fun k hk => (HF.out k hk).1)))
      obtain ⟨w3, m1, m2, m3, m4⟩ := made w2
      have HR0 : Hid (BadR w w3 b k (.slice (some ⟨w2.heap.size, 0, none⟩) 128 128) 0) := by
        have hsz := htn.size
        refine ⟨ext F w1 w2, _, zeros, hdk2.below m3, fun j hj => ?_, ?_, fun i s hs => ?_, bytes_of_row m2 zeros_con.1 zeros_con.2, ?_, fun j hj => ?_, HB2.out.trans (m3.mono HB2.out.size)⟩
        · rcases hj with hj | hj
          · have := HF.out j hj; omega
          · have := HB1.out.size; omega
        · rw [bSet_length]; rfl
        · obtain ⟨s1, hs1, rfl⟩ := bSet_at hs
          have hi6 : i < 6 := by have := (List.getElem?_eq_some_iff.1 hs1).1; simpa [fresh] using this
          rw [fresh_get hi6] at hs1
          cases hs1
          by_cases e : (k : Int) = (i : Int)
          · rw [if_pos e]
            have e' : i = k := by omega
            simp [e', zeroSec]
          · rw [if_neg e]
            have e' : ¬ i = k := by omega
            simp [e', zeroSec]
        · obtain ⟨s1, hs1⟩ := get_of_lt (S := bSet (fresh 6) (k : Int) true) (i := k) (by rw [bSet_length]; exact HK.out)
          refine ⟨s1, hs1, ?_⟩
          obtain ⟨s2, hs2, rfl⟩ := bSet_at hs1
          rw [fresh_get HK.out] at hs2
          cases hs2
          rw [if_pos rfl]
          rfl
        · simp only [Value.ownBlock, Option.some.injEq] at hj
          subst hj
          refine ⟨by omega, fun hx => ?_⟩
          rcases hx with hx | hx
          · have := HF.out _ hx; omega
          · omega
      clear hdk2 htn HBD m2 m3 m4 HB2 HF HDK HB1
      go_wp2_with fail
      go_loopg [8, 55] l.length (fun gk lv i wr => ∃ j, j + gk = l.length ∧ i = .int .i64 (j : Int) ∧ BadR w wr b k lv j)
      case atStart => exact ⟨0, by omega, rfl, HR0.out⟩
      case round =>
        clear HR0 m1
        obtain ⟨j, hj, rfl, hbr⟩ := hrel
        have HBR := hide hbr
        clear hbr
        cases gk with
        | succ m =>
          have hjl : j < l.length := by omega
          have hlt : (j : Int) < (l.length : Int) := by omega
          have hb0 : (0 : Int) ≤ (j : Int) := by omega
          obtain ⟨o, ho⟩ : ∃ o, l[j]? = some o := ⟨l[j], by simp [hjl]⟩
          obtain rfl := H2.out (by omega)
          have hbw : Below w.heap.size w wr := by obtain ⟨_, _, _, _, _, _, _, _, _, _, h⟩ := HBR.out; exact h
          have HOP0 := hide (H3.out j o ho)
          have hop := (H3.out j o ho).below hbw
          have HOP := hide hop
          obtain ⟨kind, oi, on, dv, d, pv, ps⟩ := o
          have q0 : wr.cell? ⟨gl, ol + j * 5, none⟩ = some (.int .i64 kind) := hop.c0
          have q1 : wr.cell? ⟨gl, ol + j * 5 + 1, none⟩ = some (.int .i64 oi) := hop.c1
          have q2 : wr.cell? ⟨gl, ol + j * 5 + 2, none⟩ = some (.int .i64 on) := hop.c2
          have q3 : wr.cell? ⟨gl, ol + j * 5 + 3, none⟩ = some dv := hop.c3
          have q4 : wr.cell? ⟨gl, ol + j * 5 + 4, none⟩ = some pv := hop.c4
          have hgl := cell_lt q0
          have HJ : Hid ((j : Int) + 1 < 102) := by have := HL.out; show _ < _; omega
          have hjj := HJ.out
          obtain ⟨aod, capd, gd, offd, hdv, -⟩ := hop.hd
          obtain ⟨aop, capp, gp, offp, hpv, -⟩ := hop.hp
          have hdv' : dv = .slice aod d.length capd := hdv
          have hpv' : pv = .slice aop ps.length capp := hpv
          clear hdv hpv
          subst hdv' hpv'
          have HAL : Hid (∀ o, Below wr.heap.size wr (wr.alloc o)) := fun o => (Below.refl _ _).alloc (Nat.le_refl _) o
          clear hop ho hbw
          by_cases hk : kind = 2
          · subst hk
            have hkb : ((2 : Int) != 2) = false := by simp
            by_cases hl : d.length = 128
            · have HLN := hide hl
              rw [hl] at q3
              have hlb : ((128 : Int) != 128) = false := by simp
              obtain ⟨F, S, lb, r1, r2, r3, r4, r5, r6, r7, r8⟩ := HBR.out
              have hdB := HOP.out.hd
              have hiI := HOP.out.hi
              have HDB : Hid (Bytes wr (.slice aod 128 capd) d) := by rw [← hl]; exact hdB
              have HII : Hid (I64 oi) := hiI
              have HDW : Hid (Bytes w (.slice aod 128 capd) d) := by rw [← hl]; exact HOP0.out.hd
              have HBRS := hide r1
              have R2 := hide r2
              have R3 := hide r3
              have R4 := hide r4
              have R5 := hide r5
              have R6 := hide r6
              have R7 := hide r7
              have R8 := hide r8
              clear hl hdB hiI r1 r2 r3 r4 r5 r6 r7 r8 HOP HOP0
              go_wp2_with fail
              generalize hoc : #[Value.int .i64 2, Value.int .i64 oi, Value.int .i64 on, Value.slice aod 128 capd, Value.slice aop ps.length capp] = oc
              have hwo : Below wr.heap.size wr (wr.alloc (.cells oc 35)).drew := ((Below.refl _ _).alloc (Nat.le_refl _) _).drew
              have hob : (wr.alloc (.cells oc 35)).drew.heap[wr.heap.size]? = some (.cells oc 35 (0, 0)) := heap_alloc_new wr _
              have hS0 : ∀ wx : World, wx.heap[wr.heap.size]? = some (.cells oc 35 (0, 0)) → wx.cell? ⟨wr.heap.size, 1, none⟩ = some (.int .i64 oi) ∧ wx.cell? ⟨wr.heap.size, 3, none⟩ = some (.slice aod 128 capd) := fun wx hx => by
                rw [cell_of_row wx _ _ _ _ _ hx, cell_of_row wx _ _ _ _ _ hx, ← hoc]; exact ⟨rfl, rfl⟩
              have HCP := hide (copy_any d (.slice aod 128 capd) (wr.alloc (.cells oc 35)).drew (HDB.out.below hwo))
              refine wp_region_held_drew (S := fun wx => wx.heap[wr.heap.size]? = some (.cells oc 35 (0, 0))) (by kernel_rfl) hob (fun hS => ?_)
              refine take_run 0 (some 68) (.pointer (some ⟨b, 0, none⟩)) rfl rfl rfl (by kernel_rfl) (by kernel_rfl) (by kernel_rfl) (fun _ _ _ h => h) (fun wx hx => exec_move rfl rfl) hS ?_
              simp only [Act.put, List.setIfInBounds_toArray, List.set_cons_zero, List.set_cons_succ]
              refine take_run 1 (some 69) (.pointer (some ⟨wr.heap.size, 1, none⟩)) rfl rfl rfl (by kernel_rfl) (by kernel_rfl) (by kernel_rfl) (fun _ _ _ h => h) (fun wx hx => exec_field rfl (opField1 _ wx) rfl) hS ?_
              simp only [Act.put, List.setIfInBounds_toArray, List.set_cons_zero, List.set_cons_succ]
              refine take_run 2 (some 70) (.int .i64 oi) rfl rfl rfl (by kernel_rfl) (by kernel_rfl) (by kernel_rfl) (fun _ _ _ h => h) (fun wx hx => exec_load rfl (load_int (hS0 wx hx).1) rfl) hS ?_
              simp only [Act.put, List.setIfInBounds_toArray, List.set_cons_zero, List.set_cons_succ]
              refine take_run 3 (some 71) (.pointer (some ⟨wr.heap.size, 3, none⟩)) rfl rfl rfl (by kernel_rfl) (by kernel_rfl) (by kernel_rfl) (fun _ _ _ h => h) (fun wx hx => exec_field rfl (opField3 _ wx) rfl) hS ?_
              simp only [Act.put, List.setIfInBounds_toArray, List.set_cons_zero, List.set_cons_succ]
              refine take_run 4 (some 72) (.slice aod 128 capd) rfl rfl rfl (by kernel_rfl) (by kernel_rfl) (by kernel_rfl) (fun _ _ _ h => h) (fun wx hx => exec_load rfl (load_bytes (hS0 wx hx).2) rfl) hS ?_
              simp only [Act.put, List.setIfInBounds_toArray, List.set_cons_zero, List.set_cons_succ]
              refine only_call 5 (some 73) rfl rfl rfl (by kernel_rfl) (exec_call1 rfl enterCopy rfl rfl) (HCP.out.mono ?_)
              rintro e w4 ⟨u, rfl, hu, hb4⟩
              have hob4 : w4.heap[wr.heap.size]? = some (.cells oc 35 (0, 0)) := by rw [hb4.block _ (heap_lt hob)]; exact hob
              refine ⟨u, rfl, hob4, ?_⟩
              simp only [Act.put, List.setIfInBounds_toArray, List.set_cons_zero, List.set_cons_succ]
              have hb4' : Below wr.heap.size wr w4 := hwo.trans (hb4.mono hwo.size)
              have HWR := hide (write_any (HBRS.out.below hb4') oi u d hu.bytes (fun s hs => by
                obtain ⟨i, hi⟩ := List.getElem?_of_mem hs
                have := (R4.out i s hi).2
                omega))
              refine only_call 6 (some 74) rfl rfl rfl (by kernel_rfl) (exec_call3 rfl enterWrite rfl rfl rfl rfl) (HWR.out.mono ?_)
              rintro e w5 ⟨rfl, hdk5, htn5⟩
              have hob5 : w5.heap[wr.heap.size]? = some (.cells oc 35 (0, 0)) := by rw [htn5.block _ (heap_lt hob4) (fun hx => by have := (R2.out _ hx).2; omega)]; exact hob4
              refine ⟨_, rfl, hob5, ?_⟩
              simp only [Act.put, List.setIfInBounds_toArray, List.set_cons_zero, List.set_cons_succ]
              refine only_value 7 (some 11) (v := errV (wErr S oi d)) rfl rfl rfl (by kernel_rfl) (exec_assign rfl rfl) hob5 ?_
              simp only [Act.put, List.setIfInBounds_toArray, List.set_cons_zero, List.set_cons_succ]
              refine wpAnyH_done (by kernel_rfl) ?_ _
              have k1 := (hS0 w5 hob5).1
              have k3 := (hS0 w5 hob5).2
              have HT5 := hide htn5
              have HD5 := hide hdk5
              have HB4 := hide hb4'
              clear hoc hwo hob hS0 HCP hS hu hb4 hob4 hob5 htn5 hdk5 hb4' HWR
              by_cases hik : oi = (k : Int)
              · subst hik
                have hikb : ((k : Int) == (k : Int)) = true := by simp
                obtain ⟨sk, hsk, hsl⟩ := R6.out
                have HNEW : Hid (BadR w w5 b k (.slice aod 128 capd) (j + 1)) :=
                  BadR.write R2.out R3.out R4.out R8.out HB4.out HD5.out HT5.out HLN.out (HDB.out.below HB4.out) (fun q hq => by
                    have h1 := HDW.out.block (by rw [HLN.out]; decide) q hq
                    exact ⟨Nat.lt_of_lt_of_le (Nat.lt_of_lt_of_le h1 R8.out.size) HB4.out.size, fun hx => by have := (R2.out q hx).1; omega⟩) ⟨_, wSet_same hsk HLN.out, Sec.top_snoc _ _⟩
                have hwe : wErr S (k : Int) d = 0 := by
                  simp [wErr, hasB_nat (List.getElem?_eq_some_iff.1 hsk).1, HLN.out]
                rw [hwe, errV_zero]
                clear hwe hsk hsl HT5 HD5
                go_wp2
                go_roundg m
                case measure => omega
                case rel => exact ⟨j + 1, by omega, by go_num, HNEW.out⟩
              · have hikb : (oi == (k : Int)) = false := by simpa using hik
                have HNEW : Hid (BadR w w5 b k u8 (j + 1)) :=
                  BadR.write R2.out R3.out R4.out R8.out HB4.out HD5.out HT5.out HLN.out (R5.out.below HB4.out) (fun q hq => ⟨Nat.lt_of_lt_of_le (R7.out q hq).1 HB4.out.size, (R7.out q hq).2⟩) (by rw [wSet_other hik]; exact R6.out)
                clear hik HT5 HD5
                generalize errV (wErr S oi d) = ev
                go_wp2
                go_roundg m
                case measure => omega
                case rel => exact ⟨j + 1, by omega, by go_num, HNEW.out⟩
            · have hlb : ((d.length : Int) != 128) = true := by simp; omega
              clear hl
              go_wp2
              go_roundg m
              case measure => omega
              case rel => exact ⟨j + 1, by omega, by go_num, (HBR.out.below (HAL.out _)).mono (by omega)⟩
          · have hkb : (kind != 2) = true := by simpa using hk
            clear hk
            go_wp2
            go_roundg m
            case measure => omega
            case rel => exact ⟨j + 1, by omega, by go_num, (HBR.out.below (HAL.out _)).mono (by omega)⟩
        | zero =>
          have hend : ¬ (j : Int) < (l.length : Int) := by omega
          have HJ100 : Hid (j ≤ 100) := by have := HL.out; show _ ≤ _; omega
          clear hj
          go_wp2_with fail
          go_loopg [84] 6 (fun gk i wz => ∃ q, q + gk = 6 ∧ i = .int .i64 (q : Int) ∧ BadR w wz b k u8 j)
          case atStart => exact ⟨0, by omega, rfl, HBR.out⟩
          case round =>
            clear HBR
            obtain ⟨q, hq, rfl, hbr⟩ := hrel
            have HBR := hide hbr
            obtain ⟨F, S, lb, r1, r2, r3, r4, r5, r6, r7, r8⟩ := hbr
            have HWL : Hid (∀ s ∈ S, s.wait.length ≤ 1000000) := fun s hs => by
              obtain ⟨i, hi⟩ := List.getElem?_of_mem hs
              have := (r4 i s hi).2
              have := HJ100.out
              omega
            cases gk with
            | succ m =>
              have hq6 : q < 6 := by omega
              have hlt : (q : Int) < 6 := by omega
              obtain ⟨s, hs⟩ := get_of_lt (S := S) (i := q) (by omega)
              have HRD := hide (read_any r1 (q : Int) (I64.nat (by omega)) HWL.out)
              have hbq := (r4 q s hs).1
              have he : rErr S (q : Int) = if q = k then 21 else 0 := by
                simp only [rErr, hasB_nat (List.getElem?_eq_some_iff.1 hs).1, Int.toNat_natCast, hs, hbq, if_true]
                by_cases e : q = k
                · simp [e]
                · simp [e]
              have HE := hide he
              clear r1 r2 r3 r4 r5 r6 r7 r8 he hs hbq hq6
              by_cases e : q = k
              · have HE2 : Hid (rErr S (q : Int) = 21) := by have := HE.out; rw [if_pos e] at this; exact this
                have hbb : ((q : Int) == (k : Int)) = true := by simp [e]
                clear e HE
                go_wp2_with fail
                refine HRD.out.mono ?_
                rintro e w4 ⟨u, rfl, ho, hb4⟩
                rw [HE2.out, errV_21]
                have HB4 := hide hb4
                have HIS := hide (is_any 21 21 w4)
                rw [errV_21] at HIS
                clear ho hb4 HRD HE2
                go_wp2_with (first | (go_at_call 29; refine (unread_any true w4).mono ?_; rintro e w' ⟨rfl, hww⟩; obtain rfl : w4 = w' := hww.symm) | (go_at_call 11; refine HIS.out.mono ?_; rintro e w' ⟨rfl, hww⟩; obtain rfl : w4 = w' := hww.symm))
                go_roundg m
                case measure => omega
                case rel => exact ⟨q + 1, by omega, by go_num, HBR.out.below HB4.out⟩
              · have HE2 : Hid (rErr S (q : Int) = 0) := by have := HE.out; rw [if_neg e] at this; exact this
                have hbb : ((q : Int) == (k : Int)) = false := by simp; omega
                clear e HE
                go_wp2_with fail
                refine HRD.out.mono ?_
                rintro e w4 ⟨u, rfl, ho, hb4⟩
                rw [HE2.out, errV_zero]
                have HB4 := hide hb4
                have HIS := hide (is_any 0 0 w4)
                rw [errV_zero] at HIS
                clear ho hb4 HRD HE2
                go_wp2_with (first | (go_at_call 29; refine (unread_any false w4).mono ?_; rintro e w' ⟨rfl, hww⟩; obtain rfl : w4 = w' := hww.symm) | (go_at_call 11; refine HIS.out.mono ?_; rintro e w' ⟨rfl, hww⟩; obtain rfl : w4 = w' := hww.symm))
                go_roundg m
                case measure => omega
                case rel => exact ⟨q + 1, by omega, by go_num, HBR.out.below HB4.out⟩
            | zero =>
              have hend2 : ¬ (q : Int) < 6 := by omega
              obtain ⟨sk, hsk, hsl⟩ := r6
              have hkl := (List.getElem?_eq_some_iff.1 hsk).1
              have HBO := hide (bad_any r1 (k : Int) false)
              rw [show bErr S (k : Int) = 0 by simp [bErr, hasB_nat hkl]] at HBO
              have R2 := hide r2
              have R5 := hide r5
              have R7 := hide r7
              have R8 := hide r8
              have HBS : Hid (∃ s', (bSet S (k : Int) false)[k]? = some s' ∧ s'.bad = false ∧ s'.top = lb ∧ k < (bSet S (k : Int) false).length ∧ ∀ s ∈ bSet S (k : Int) false, s.wait.length ≤ 1000000) := by
                have hk2 : k < (bSet S (k : Int) false).length := by rw [bSet_length]; exact hkl
                obtain ⟨s', hs'⟩ := get_of_lt hk2
                obtain ⟨s1, h1, e1⟩ := bSet_at hs'
                rw [hsk] at h1
                cases h1
                rw [if_pos rfl] at e1
                subst e1
                refine ⟨_, hs', rfl, hsl, hk2, fun s hs => ?_⟩
                obtain ⟨i, hi⟩ := List.getElem?_of_mem hs
                obtain ⟨s2, h2, rfl⟩ := bSet_at hi
                have := HWL.out s2 (List.mem_of_getElem? h2)
                split <;> exact this
              have HK64 : Hid (I64 (k : Int)) := HI.out
              clear r1 r2 r3 r4 r5 r7 r8 hsk hsl hkl hq HWL
              go_wp2_with fail
              refine HBO.out.mono ?_
              rintro e w4 ⟨rfl, hdk4, htn4⟩
              rw [errV_zero]
              obtain ⟨s', t1, t2, t3, t4, t5⟩ := HBS.out
              have HRD := hide (read_any hdk4 (k : Int) HK64.out t5)
              have HE : Hid (rErr (bSet S (k : Int) false) (k : Int) = 0 ∧ rDat (bSet S (k : Int) false) (k : Int) = lb) := by
                constructor
                · simp [rErr, hasB_nat t4, t1, t2]
                · simp [rDat, hasB_nat t4, t1, t2, t3]
              have HT4 := hide htn4
              have HLV := hide (R5.out.turn htn4 (fun j hj => (R7.out j hj).2))
              have HB4 : Hid (Below w.heap.size w w4) := R8.out.trans (htn4.below R8.out.size (fun j hj => (R2.out j hj).1))
              clear hdk4 htn4 t1 t2 t3 t4 t5 HBO HBS
              go_wp2_with fail
              refine HRD.out.mono ?_
              rintro e w5 ⟨c, rfl, ho, hb5⟩
              rw [HE.out.1, errV_zero]
              rw [HE.out.2] at ho
              have HSM := hide (same_any lb lb c u8 w5 ho.bytes (HLV.out.below hb5))
              rw [show decide (lb = lb) = true by simp] at HSM
              have HB5 : Hid (Below w.heap.size w w5) := HB4.out.trans (hb5.mono HB4.out.size)
              have HA := hide (awake_any w5)
              obtain ⟨aoc, capc, rfl⟩ := ho.form
              clear ho hb5 HRD HE HLV HT4 HB4 R5 R7 R2 R8 HBR
              go_wp2_with (first | (go_at_call 16; refine HSM.out.mono ?_; rintro e w' ⟨rfl, hww⟩; obtain rfl : w5 = w' := hww.symm) | (go_at_call 12; refine HA.out.mono ?_; rintro e w' ⟨rfl, hb⟩; have HBB := hide (HB5.out.trans (hb.mono HB5.out.size)); clear hb))
              go_ret
              exact ⟨rfl, HBB.out⟩
end Go.Proofs.Ytphmhepbilhkjaa
