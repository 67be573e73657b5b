import Derived.Test.YtliboiajhhnajaaGreatDoorM26
import Derived.Test.YtliboiajhhnajaaGreatDoorM27
/- The document's own bank: Write, Bad, Fill, New, Add by their contracts. -/
namespace Go.Proofs.YtliboiajhhnajaaGreatDoor
open Go.RowKit Go.Extern

theorem rbField0 (b : Nat) (w : World) : (Instr.fieldAt 36 (.pointer (some ⟨b, 0, none⟩)) 0).run Tryz.prog w = .ok (.pointer (some ⟨b, 0, none⟩)) w := by kernel_rfl
theorem load_rdisks {w : World} {p : Addr} {v : Value} (h : w.cell? p = some v) : (Instr.loadAt 34 (.pointer (some p))).run Tryz.prog w = .ok v w := by go_simp
theorem load_prdisk {w : World} {p : Addr} {v : Value} (h : w.cell? p = some v) : (Instr.loadAt 37 (.pointer (some p))).run Tryz.prog w = .ok v w := by go_simp
theorem index_rdisks {w : World} {g n cap i : Nat} (h : i < n) : (Instr.indexAt 34 (.slice (some ⟨g, 0, none⟩) n cap) (.int .i64 (i : Int))).run Tryz.prog w = .ok (.pointer (some ⟨g, i, none⟩)) w := by
  have h1 : (i : Int) < (n : Int) := by omega
  have h2 : (0 : Int) ≤ (i : Int) := by omega
  go_simp
theorem enterRFill (args : Array Value) (w : World) : (callFunc 65 args).run Tryz.prog w = .ok (.enter 65 args) w := by kernel_rfl
theorem enterRFlush (args : Array Value) (w : World) : (callFunc 56 args).run Tryz.prog w = .ok (.enter 56 args) w := by kernel_rfl

set_option maxRecDepth 100000 in
set_option maxHeartbeats 1000000 in
theorem rbwrite_any {w : World} {F : Nat → Prop} {b : Nat} {D : List Dev} {q : Pw} (h : RBk w F b D q) (hq : Small q) (hww : WlB D 999999) (i s : Int) (dv : Value) (d : List Nat) (hd : Bytes w dv d) (hout : 0 < d.length → ∀ k, dv.ownBlock = some k → ¬ F k) :
    Calls Tryz.prog 23 #[.pointer (some ⟨b, 0, none⟩), .int .i64 i, .int .i64 s, dv] w (RBTurned F b (bwD D q i s d) (bwQ D q i s d) (.int .i64 (bwC D q i s d)) w) := by
  have HL := hide (rlook_any h i true)
  have HBK := hide h
  have HD := hide hd
  rw [show lookI D q true i = lookP D q i from rfl] at HL
  obtain ⟨aod, capd, gd, offd, rfl, -⟩ := hd
  by_cases hc : lookP D q i = 0
  · obtain ⟨hdn, k, p, S, rfl, hk, -⟩ := lookP_zero hc
    obtain ⟨v, G, hat⟩ := h
    obtain ⟨g, cap, rfl, c0, ck, -, hlt, hge⟩ := hat.there hk
    have HS := hide (secsOf_at hk)
    have HPD := hide (fun S' => putDev_at hk S')
    have HC := hide hc
    have HHAS := hide (rhas_any (hat.dev k p S hk) s)
    have HAT := hide hat
    have HK := hide hk
    have HOUT : Hid (0 < d.length → ∀ j, (Value.slice aod d.length capd).ownBlock = some j → j ≠ b) := fun hp j hj e => hout hp j hj (by rw [e]; exact hat.inB)
    have HWW : Hid (∀ s ∈ S, s.wait.length < 1000000) := fun s hs => by have := hww k p S hk s hs; omega
    have HSP := hide (rcount_any hat hq)
    have HGB : Hid (g ≠ b) := fun e => by
      obtain ⟨cur, hh⟩ := row_block hat.row (g := g) rfl
      have := hat.blk
      rw [← e, hh] at this; simp at this
    rw [hc] at HL
    clear hc hdn hout hww hat hk
    cases hhb : hasB S s with
    | false =>
      rw [hhb] at HHAS
      have HE : Hid (bwC D q (k : Int) s d = 20 ∧ bwD D q (k : Int) s d = D ∧ bwQ D q (k : Int) s d = q) := by
        have e0 : wErr S s d = 20 := by simp [wErr, hhb]
        have e : bwC D q (k : Int) s d = 20 := by unfold bwC; rw [HS.out, if_pos HC.out, e0]; rfl
        exact ⟨e, by unfold bwD; rw [if_neg (by omega)], by unfold bwQ; rw [HS.out, e0, if_neg (by simp)]⟩
      clear hhb HSP
      go_enter Tryz.func23, Tryz.ntmps23
      go_wp2_with fail
      refine HL.out.mono ?_
      rintro e w' ⟨rfl, hw'⟩
      obtain rfl : w = w' := hw'.symm
      go_wp2_with fail
      refine HHAS.out.mono ?_
      rintro e w' ⟨rfl, hw'⟩
      obtain rfl : w = w' := hw'.symm
      go_wp2
      go_ret
      rw [HE.out.1, HE.out.2.1, HE.out.2.2]
      exact ⟨rfl, HBK.out.ext_self, Turn.refl _ _⟩
    | true =>
      rw [hhb] at HHAS
      by_cases h128 : d.length = 128
      · have HW : Hid (wErr S s d = 0) := by show _ = _; simp [wErr, hhb, h128]
        have HD8 := hide h128
        rw [h128] at HD HOUT
        rw [h128]
        have e128 : ((128 : Int) != 128) = false := by simp
        clear hhb h128
        by_cases hl : q.left = 0
        · have HE : Hid (bwC D q (k : Int) s d = 22 ∧ bwD D q (k : Int) s d = D ∧ bwQ D q (k : Int) s d = spent q) := by
            have e : bwC D q (k : Int) s d = 22 := by unfold bwC; rw [HS.out, if_pos HC.out, if_pos HW.out]; simp [spendC, hl]
            exact ⟨e, by unfold bwD; rw [if_neg (by omega)], by unfold bwQ; rw [HS.out, if_pos ⟨HC.out, HW.out⟩]⟩
          have HSC : Hid (spendC q = 22) := by show _ = _; simp [spendC, hl]
          clear hl
          go_enter Tryz.func23, Tryz.ntmps23
          go_wp2_with fail
          refine HL.out.mono ?_
          rintro e w' ⟨rfl, hw'⟩
          obtain rfl : w = w' := hw'.symm
          go_wp2_with fail
          refine HHAS.out.mono ?_
          rintro e w' ⟨rfl, hw'⟩
          obtain rfl : w = w' := hw'.symm
          go_wp2_with fail
          refine HSP.out.mono ?_
          rintro e w1 ⟨rfl, hb1, ht1, hs1⟩
          rw [HSC.out]
          have HB1 : Hid (RBk w1 (ext F w w1) b D (spent q)) := (show RBk w1 F b D (spent q) from ⟨_, _, hb1⟩).mono (fun _ hk => .inl hk)
          have HT1 : Hid (Turn F w w1) := ⟨ht1.os, ht1.tape, ht1.output, ht1.size, fun j hj hn => ht1.block j hj (fun e => hn (by rw [e]; exact HAT.out.inB))⟩
          clear hb1 ht1 hs1 HSP
          go_wp2
          go_ret
          rw [HE.out.1, HE.out.2.1, HE.out.2.2]
          exact ⟨rfl, HB1.out, HT1.out⟩
        · have HE : Hid (bwC D q (k : Int) s d = 0 ∧ bwD D q (k : Int) s d = D.set k (some (p, wSet S s d)) ∧ bwQ D q (k : Int) s d = spent q) := by
            have e : bwC D q (k : Int) s d = 0 := by unfold bwC; rw [HS.out, if_pos HC.out, if_pos HW.out]; simp [spendC, hl]
            exact ⟨e, by unfold bwD; rw [if_pos e, HS.out, HPD.out], by unfold bwQ; rw [HS.out, if_pos ⟨HC.out, HW.out⟩]⟩
          have HSC : Hid (spendC q = 0) := by show _ = _; simp [spendC, hl]
          clear hl
          go_enter Tryz.func23, Tryz.ntmps23
          go_wp2_with fail
          refine HL.out.mono ?_
          rintro e w' ⟨rfl, hw'⟩
          obtain rfl : w = w' := hw'.symm
          go_wp2_with fail
          refine HHAS.out.mono ?_
          rintro e w' ⟨rfl, hw'⟩
          obtain rfl : w = w' := hw'.symm
          go_wp2_with fail
          refine HSP.out.mono ?_
          rintro e w1 ⟨rfl, hb1, ht1, hs1⟩
          rw [HSC.out]
          have hd1 : Bytes w1 (.slice aod 128 capd) d := HD.out.turnB ht1 (fun _ j hj e => HOUT.out (by decide) j hj e)
          have HWRI := hide (rwrite_any (hb1.dev k p S HK.out) s (.slice aod 128 capd) d hd1 HWW.out)
          rw [HW.out] at HWRI
          have HB1 := hide hb1
          have HT1 : Hid (Turn F w w1) := ⟨ht1.os, ht1.tape, ht1.output, ht1.size, fun j hj hn => ht1.block j hj (fun e => hn (by rw [e]; exact HAT.out.inB))⟩
          have HS1 := hide hs1
          have k0 := hb1.c0
          have kk : w1.cell? ⟨g, k, none⟩ = some (.pointer (some ⟨p, 0, none⟩)) := by rw [World.cell?_of_block (w := w) (ht1.block g (cell_lt ck) HGB.out)]; exact ck
          clear hb1 ht1 hs1 HSP hd1 c0 ck
          go_wp2_with fail
          refine HWRI.out.mono ?_
          rintro e w2 ⟨rfl, hdk2, ht2⟩
          have hset := HB1.out.set HK.out hdk2 ht2
          have HB2 : Hid (RBk w2 (ext F w w2) b (D.set k (some (p, wSet S s d))) (spent q)) := (show RBk w2 (ext F w1 w2) b _ (spent q) from ⟨_, _, hset.1⟩).mono (fun j hj => by rcases hj with hj | hj; exact .inl hj; exact .inr ⟨by have := HS1.out; omega, hj.2⟩)
          have HT2 : Hid (Turn F w w2) := HT1.out.trans hset.2 (fun _ _ h => h)
          clear hset hdk2 ht2 HWRI
          go_wp2
          go_ret
          rw [HE.out.1, HE.out.2.1, HE.out.2.2]
          exact ⟨rfl, HB2.out, HT2.out⟩
      · have e128 : ((d.length : Int) != 128) = true := by simp; omega
        have HE : Hid (bwC D q (k : Int) s d = 11 ∧ bwD D q (k : Int) s d = D ∧ bwQ D q (k : Int) s d = q) := by
          have e0 : wErr S s d = 11 := by simp [wErr, hhb, h128]
          have e : bwC D q (k : Int) s d = 11 := by unfold bwC; rw [HS.out, if_pos HC.out, e0]; rfl
          exact ⟨e, by unfold bwD; rw [if_neg (by omega)], by unfold bwQ; rw [HS.out, e0, if_neg (by simp)]⟩
        clear hhb HSP h128
        go_enter Tryz.func23, Tryz.ntmps23
        go_wp2_with fail
        refine HL.out.mono ?_
        rintro e w' ⟨rfl, hw'⟩
        obtain rfl : w = w' := hw'.symm
        go_wp2_with fail
        refine HHAS.out.mono ?_
        rintro e w' ⟨rfl, hw'⟩
        obtain rfl : w = w' := hw'.symm
        go_wp2
        go_ret
        rw [HE.out.1, HE.out.2.1, HE.out.2.2]
        exact ⟨rfl, HBK.out.ext_self, Turn.refl _ _⟩
  · have HE : Hid (bwC D q i s d = lookP D q i ∧ bwD D q i s d = D ∧ bwQ D q i s d = q) := by
      have e : bwC D q i s d = lookP D q i := by unfold bwC; rw [if_neg hc]
      exact ⟨e, by unfold bwD; rw [if_neg (by rw [e]; exact hc)], by unfold bwQ; rw [if_neg (fun x => hc x.1)]⟩
    have hcb : (lookP D q i != 0) = true := by simpa using hc
    generalize lookP D q i = lc at *
    clear hc h hww hout
    go_enter Tryz.func23, Tryz.ntmps23
    go_wp2_with fail
    refine HL.out.mono ?_
    rintro e w' ⟨rfl, hw'⟩
    obtain rfl : w = w' := hw'.symm
    go_wp2
    go_ret
    rw [HE.out.1, HE.out.2.1, HE.out.2.2]
    exact ⟨rfl, HBK.out.ext_self, Turn.refl _ _⟩

set_option maxRecDepth 100000 in
set_option maxHeartbeats 1000000 in
theorem rbfill_any {w : World} {F : Nat → Prop} {b : Nat} {D : List Dev} {q : Pw} (h : RBk w F b D q) (hS : SmB D) (i : Int) (dv : Value) (d : List Nat) (hd : Bytes w dv d) (hdl : d.length ≤ 1000) :
    Calls Tryz.prog 32 #[.pointer (some ⟨b, 0, none⟩), .int .i64 i, dv] w (RBTurned F b (bfD D q i d) q (.int .i64 (bfC D q i d)) w) := by
  have HL := hide (rlook_any h i false)
  have HBK := hide h
  have HD := hide hd
  rw [show lookI D q false i = lookC D i from rfl] at HL
  obtain ⟨aod, capd, gd, offd, rfl, -⟩ := hd
  by_cases hc : lookC D i = 0
  · obtain ⟨k, p, S, rfl, hk⟩ := lookC_zero hc
    obtain ⟨v, G, hat⟩ := h
    obtain ⟨g, cap, rfl, c0, ck, -, hlt, hge⟩ := hat.there hk
    have HE : Hid (bfC D q (k : Int) d = 0 ∧ bfD D q (k : Int) d = D.set k (some (p, fillS S d))) := ⟨by unfold bfC; rw [if_pos hc], by unfold bfD; rw [if_pos hc, secsOf_at hk, putDev_at hk]⟩
    have HAT := hide hat
    have HK := hide hk
    have HSS := hide (hS k p S hk)
    have HKL : Hid (k < D.length) := (List.getElem?_eq_some_iff.1 hk).1
    rw [hc] at HL
    clear hc hat hk hS
    go_enter Tryz.func32, Tryz.ntmps32
    go_wp2_with fail
    refine HL.out.mono ?_
    rintro e w' ⟨rfl, hw'⟩
    obtain rfl : w = w' := hw'.symm
    go_wp2_with fail
    have hdr : Below w.heap.size w w.drew := (Below.refl _ _).drew
    refine wp_region_held_drew (S := fun wx => wx.cell? ⟨b, 0, none⟩ = some (.slice (some ⟨g, 0, none⟩) D.length cap) ∧ wx.cell? ⟨g, k, none⟩ = some (.pointer (some ⟨p, 0, none⟩))) (by kernel_rfl) ⟨c0, ck⟩ (fun hS => ?_)
    refine take_run 0 (some 13) (.pointer (some ⟨b, 0, none⟩)) rfl rfl rfl (by kernel_rfl) (by kernel_rfl) (by kernel_rfl) (fun _ _ _ h => h) (fun wx hx => exec_move rfl rfl) hS ?_
    simp only [Act.put, List.setIfInBounds_toArray, List.set_cons_zero, List.set_cons_succ]
    refine take_run 1 (some 14) (.pointer (some ⟨b, 0, none⟩)) rfl rfl rfl (by kernel_rfl) (by kernel_rfl) (by kernel_rfl) (fun _ _ _ h => h) (fun wx hx => exec_nilCheck rfl rfl) hS ?_
    simp only [Act.put, List.setIfInBounds_toArray, List.set_cons_zero, List.set_cons_succ]
    refine take_run 2 (some 15) (.pointer (some ⟨b, 0, none⟩)) rfl rfl rfl (by kernel_rfl) (by kernel_rfl) (by kernel_rfl) (fun _ _ _ h => h) (fun wx hx => exec_field rfl (rbField0 _ wx) rfl) hS ?_
    simp only [Act.put, List.setIfInBounds_toArray, List.set_cons_zero, List.set_cons_succ]
    refine take_run 3 (some 16) (.slice (some ⟨g, 0, none⟩) D.length cap) rfl rfl rfl (by kernel_rfl) (by kernel_rfl) (by kernel_rfl) (fun _ _ _ h => h) (fun wx hx => exec_load rfl (load_rdisks hx.1) rfl) hS ?_
    simp only [Act.put, List.setIfInBounds_toArray, List.set_cons_zero, List.set_cons_succ]
    refine take_run 4 (some 17) (.int .i64 (k : Int)) rfl rfl rfl (by kernel_rfl) (by kernel_rfl) (by kernel_rfl) (fun _ _ _ h => h) (fun wx hx => exec_move rfl rfl) hS ?_
    simp only [Act.put, List.setIfInBounds_toArray, List.set_cons_zero, List.set_cons_succ]
    refine take_run 5 (some 18) (.pointer (some ⟨g, k, none⟩)) rfl rfl rfl (by kernel_rfl) (by kernel_rfl) (by kernel_rfl) (fun _ _ _ h => h) (fun wx hx => exec_index rfl (index_rdisks HKL.out) rfl rfl) hS ?_
    simp only [Act.put, List.setIfInBounds_toArray, List.set_cons_zero, List.set_cons_succ]
    refine take_run 6 (some 19) (.pointer (some ⟨p, 0, none⟩)) rfl rfl rfl (by kernel_rfl) (by kernel_rfl) (by kernel_rfl) (fun _ _ _ h => h) (fun wx hx => exec_load rfl (load_prdisk hx.2) rfl) hS ?_
    simp only [Act.put, List.setIfInBounds_toArray, List.set_cons_zero, List.set_cons_succ]
    refine take_run 7 (some 20) (.slice aod d.length capd) rfl rfl rfl (by kernel_rfl) (by kernel_rfl) (by kernel_rfl) (fun _ _ _ h => h) (fun wx hx => exec_move rfl rfl) hS ?_
    simp only [Act.put, List.setIfInBounds_toArray, List.set_cons_zero, List.set_cons_succ]
    have HCP := hide (copy_any d (.slice aod d.length capd) w.drew (HD.out.below hdr))
    refine only_call 8 (some 21) rfl rfl rfl (by kernel_rfl) (exec_call1 rfl enterCopy rfl rfl) (HCP.out.mono ?_)
    rintro e w4 ⟨u, rfl, hu, hbc⟩
    have hb4 : Below w.heap.size w w4 := hdr.trans (hbc.mono hdr.size)
    have s4 : w4.cell? ⟨b, 0, none⟩ = some (.slice (some ⟨g, 0, none⟩) D.length cap) ∧ w4.cell? ⟨g, k, none⟩ = some (.pointer (some ⟨p, 0, none⟩)) := ⟨by rw [hb4.cell (cell_lt c0)]; exact c0, by rw [hb4.cell (cell_lt ck)]; exact ck⟩
    refine ⟨u, rfl, s4, ?_⟩
    simp only [Act.put, List.setIfInBounds_toArray, List.set_cons_zero, List.set_cons_succ]
    have hat4 := HAT.out.below hb4
    have HF := hide (rfill_any (hat4.dev k p S HK.out) HSS.out u d hu.bytes hdl (fun _ j hj hg => by have h1 := (hu.lt j hj).1; have h2 := HAT.out.lt k j hg; have h3 : w.drew.heap.size = w.heap.size := rfl; omega))
    refine only_call 9 (some 22) rfl rfl rfl (by kernel_rfl) (exec_call2 rfl enterRFill rfl rfl rfl) (HF.out.mono ?_)
    rintro e w5 ⟨rfl, hdk5, ht5⟩
    have s5 : w5.cell? ⟨b, 0, none⟩ = some (.slice (some ⟨g, 0, none⟩) D.length cap) ∧ w5.cell? ⟨g, k, none⟩ = some (.pointer (some ⟨p, 0, none⟩)) := ⟨by rw [World.cell?_of_block (w := w4) (ht5.block b (cell_lt s4.1) (HAT.out.outB k))]; exact s4.1, by rw [World.cell?_of_block (w := w4) (ht5.block g (cell_lt s4.2) (HAT.out.outV g rfl k))]; exact s4.2⟩
    refine ⟨_, rfl, s5, ?_⟩
    simp only [Act.put, List.setIfInBounds_toArray, List.set_cons_zero, List.set_cons_succ]
    refine wpAnyH_done (by kernel_rfl) ?_ _
    have hset := hat4.set HK.out hdk5 ht5
    have HEND : Hid (RBk w5 (ext F w w5) b (D.set k (some (p, fillS S d))) q ∧ Turn F w w5) := ⟨(show RBk w5 (ext F w4 w5) b _ q from ⟨_, _, hset.1⟩).mono (fun j hj => by rcases hj with hj | hj; exact .inl hj; exact .inr ⟨by have := hb4.size; omega, hj.2⟩), (Turn.of_below (F := F) hb4).trans hset.2 (fun _ _ h => h)⟩
    clear hset hdk5 ht5 HF hat4 s4 s5 hb4 hu hbc HCP hS hdr c0 ck
    go_wp2
    go_ret
    rw [HE.out.1, HE.out.2]
    exact ⟨rfl, HEND.out.1, HEND.out.2⟩
  · have HE : Hid (bfC D q i d = lookC D i ∧ bfD D q i d = D) := ⟨by unfold bfC; rw [if_neg hc], by unfold bfD; rw [if_neg hc]⟩
    have hcb : (lookC D i == 0) = false := by simpa using hc
    generalize lookC D i = lc at *
    clear hc h hS
    go_enter Tryz.func32, Tryz.ntmps32
    go_wp2_with fail
    refine HL.out.mono ?_
    rintro e w' ⟨rfl, hw'⟩
    obtain rfl : w = w' := hw'.symm
    go_wp2
    go_ret
    rw [HE.out.1, HE.out.2]
    exact ⟨rfl, HBK.out.ext_self, Turn.refl _ _⟩

set_option maxRecDepth 100000 in
set_option maxHeartbeats 1000000 in
theorem rbbad_any {w : World} {F : Nat → Prop} {b : Nat} {D : List Dev} {q : Pw} (h : RBk w F b D q) (i s : Int) (on : Bool) :
    Calls Tryz.prog 30 #[.pointer (some ⟨b, 0, none⟩), .int .i64 i, .int .i64 s, .bool on] w (RBTurned F b (bbD D q i s on) q (.int .i64 (bbC D q i s on)) w) := by
  have HL := hide (rlook_any h i false)
  have HBK := hide h
  rw [show lookI D q false i = lookC D i from rfl] at HL
  by_cases hc : lookC D i = 0
  · obtain ⟨k, p, S, rfl, hk⟩ := lookC_zero hc
    obtain ⟨v, G, hat⟩ := h
    obtain ⟨g, cap, rfl, c0, ck, -, hlt, hge⟩ := hat.there hk
    have HE : Hid (bbC D q (k : Int) s on = bErr S s ∧ bbD D q (k : Int) s on = D.set k (some (p, bSet S s on))) := ⟨by unfold bbC; rw [if_pos hc, secsOf_at hk], by unfold bbD; rw [if_pos hc, secsOf_at hk, putDev_at hk]⟩
    have HHAS := hide (rhas_any (hat.dev k p S hk) s)
    have HAT := hide hat
    have HK := hide hk
    have hrk := hat.dev k p S hk
    rw [hc] at HL
    cases hhb : hasB S s with
    | false =>
      rw [hhb] at HHAS
      have HSM : Hid (bErr S s = 20 ∧ D.set k (some (p, bSet S s on)) = D) := ⟨by simp [bErr, hhb], by
        rw [bSet_no (by simp [hhb])]
        refine List.ext_getElem? fun j => ?_
        by_cases e : k = j
        · subst e; rw [List.getElem?_set_self (List.getElem?_eq_some_iff.1 hk).1, hk]
        · rw [List.getElem?_set_ne e]⟩
      clear hc hat hk hhb hrk
      go_enter Tryz.func30, Tryz.ntmps30
      go_wp2_with fail
      refine HL.out.mono ?_
      rintro e w' ⟨rfl, hw'⟩
      obtain rfl : w = w' := hw'.symm
      go_wp2_with fail
      refine HHAS.out.mono ?_
      rintro e w' ⟨rfl, hw'⟩
      obtain rfl : w = w' := hw'.symm
      go_wp2
      go_ret
      rw [HE.out.1, HE.out.2, HSM.out.1, HSM.out.2]
      exact ⟨rfl, HBK.out.ext_self, Turn.refl _ _⟩
    | true =>
      rw [hhb] at HHAS
      obtain ⟨m, t, rfl, hm⟩ := hasB_at hhb
      obtain ⟨v2, T, hrat, hTS⟩ := hrk
      obtain ⟨u, hu⟩ := RkAt.get hTS hm
      obtain ⟨ao2, cap2, rfl⟩ := hrat.form
      obtain ⟨g2, rfl, -, d1, d2, cur2, hcur2⟩ := hrat.at_ hu
      have r0 := hrat.cell
      have hTl := RkAt.len hTS
      have hml : (m : Int) < (T.length : Int) := by have := (List.getElem?_eq_some_iff.1 hu).1; omega
      have hm0 : (0 : Int) ≤ (m : Int) := by omega
      have fz : w.frozen? ⟨g2, m * 2 + 1, none⟩ = false := row_frozen hcur2 _
      have hbad := hrat.badB hu on
      have hnew : Rk (w.setCell ⟨g2, m * 2 + 1, none⟩ (.bool on)) (ext (G k) w (w.setCell ⟨g2, m * 2 + 1, none⟩ (.bool on))) p (bSet S (m : Int) on) := by
        refine ⟨_, _, hbad.1, ?_⟩
        rw [List.map_set, hTS]
        unfold bSet
        rw [Int.toNat_natCast, hm]
        simp only [hhb, if_true]
      have HSET := hide (hat.set hk hnew hbad.2)
      have HSM : Hid (bErr S (m : Int) = 0) := by show _ = _; simp [bErr, hhb]
      clear hc hat hk hhb hrat hbad hnew hcur2 hTS hm hu hTl
      go_enter Tryz.func30, Tryz.ntmps30
      go_wp2_with fail
      refine HL.out.mono ?_
      rintro e w' ⟨rfl, hw'⟩
      obtain rfl : w = w' := hw'.symm
      go_wp2_with fail
      refine HHAS.out.mono ?_
      rintro e w' ⟨rfl, hw'⟩
      obtain rfl : w = w' := hw'.symm
      go_wp2
      go_ret
      rw [HE.out.1, HE.out.2, HSM.out]
      exact ⟨rfl, ⟨_, _, HSET.out.1⟩, HSET.out.2⟩
  · have HE : Hid (bbC D q i s on = lookC D i ∧ bbD D q i s on = D) := ⟨by unfold bbC; rw [if_neg hc], by unfold bbD; rw [if_neg hc]⟩
    have hcb : (lookC D i != 0) = true := by simpa using hc
    generalize lookC D i = lc at *
    clear hc h
    go_enter Tryz.func30, Tryz.ntmps30
    go_wp2_with fail
    refine HL.out.mono ?_
    rintro e w' ⟨rfl, hw'⟩
    obtain rfl : w = w' := hw'.symm
    go_wp2
    go_ret
    rw [HE.out.1, HE.out.2]
    exact ⟨rfl, HBK.out.ext_self, Turn.refl _ _⟩

/-- A device more. -/
theorem infoRPd : (Tryz.prog.info? 37).map (fun i => (i.zero, i.size, i.bytes)) = some (some (.pointer none), 1, 8) := by kernel_rfl
theorem RBkAt.add {w w1 w2 : World} {F : Nat → Prop} {b : Nat} {D : List Dev} {q : Pw} {v : Value} {G : Nat → Nat → Prop} (h : RBkAt w F b D q v G) (hlen : D.length < 8) {p : Nat} {S : List Sec} {F1 : Nat → Prop} (hb1 : Below w.heap.size w w1) (hd : Rk w1 F1 p S) (hf : ∀ k, F1 k → w.heap.size ≤ k ∧ k < w1.heap.size)
    (hb2 : Below w1.heap.size w1 w2) {nb : Nat} (hnb : w2.heap[nb]? = some (.cells #[.pointer (some ⟨p, 0, none⟩)] 37 (0, 0))) :
    ∃ v' w3, (∃ ao n cap, v' = .slice ao n cap) ∧ (Builtin.append_ #[34, 34] 34 #[v, .slice (some ⟨nb, 0, none⟩) 1 1]).run Tryz.prog w2 = .ok v' w3 ∧ w3.cell? ⟨b, 0, none⟩ = some v ∧ w3.frozen? ⟨b, 0, none⟩ = false ∧
      RBk (w3.setCell ⟨b, 0, none⟩ v') (ext F w (w3.setCell ⟨b, 0, none⟩ v')) b (D ++ [some (p, S)]) q ∧ Turn F w (w3.setCell ⟨b, 0, none⟩ v') := by
  have hb12 : Below w.heap.size w w2 := hb1.trans (hb2.mono hb1.size)
  have h2 := h.below hb12
  have hd2 := hd.below hb2
  obtain ⟨i0, hi, hz0, hz1, hz2⟩ := info_parts infoRPd
  obtain ⟨v', w3, hrun, hown, hg3, -, hloc⟩ := run_append_own_at (P := Tryz.prog) w2 0 34 34 37 i0 (.pointer none) 1 8 Tryz.underlying34 hi hz0 hz1 hz2 rfl (by decide) _ _ _ h2.row ⟨nb, 0, none⟩ 1 1 [.pointer (some ⟨p, 0, none⟩)]
    rfl (fun j u hu => by
      rw [Addr.add_mid, cell_of_row w2 nb _ _ _ _ hnb, Nat.zero_add]
      cases j with
      | zero => simpa using hu
      | succ j => simp at hu) (by intro u hu; rw [List.mem_singleton.1 hu]; rfl) (by unfold maxLen; omega) (by omega) (Nat.zero_le _)
  have hvb : v.ownBlock ≠ some b := fun e => by
    obtain ⟨cur, hh⟩ := row_block h2.row e
    have := h2.blk
    rw [hh] at this; simp at this
  have hblk3 : w3.heap[b]? = some (.cells (bankC v q) 36 (0, 0)) := by rw [hg3.block b (heap_lt h2.blk) (fun e => hvb e.symm)]; exact h2.blk
  have hstay : ∀ j o, j ≠ b → v.ownBlock ≠ some j → w2.heap[j]? = some o → (w3.setCell ⟨b, 0, none⟩ v').heap[j]? = some o := fun j o h1 h3 h5 => by
    rw [Below.heap_setCell _ _ _ _ h1, hg3.block j (heap_lt h5) (fun e => h3 e.symm)]; exact h5
  have hv'b : v'.ownBlock ≠ some b := fun e => by
    obtain ⟨cur, hh⟩ := row_block hown e
    rw [hblk3] at hh; simp at hh
  have htn : Turn F w (w3.setCell ⟨b, 0, none⟩ v') :=
    (Turn.of_below hb12).trans ((Turn.of_grown (F := F) hg3 (fun j hj => h.inV j hj)).trans (F1 := F) ⟨rfl, rfl, rfl, by simp [World.setCell], fun j _ hn => Below.heap_setCell _ _ _ _ (fun e => hn (by rw [e]; exact h.inB))⟩ (fun _ _ h => h)) (fun _ _ h => h)
  have hs1 := hb1.size
  have hs2 := hb2.size
  have hs3 := hg3.size
  have hbl := heap_lt h.blk
  have hvl : ∀ g, v.ownBlock = some g → g < w.heap.size := fun g hg => by obtain ⟨cur, hh⟩ := row_block h.row hg; exact heap_lt hh
  refine ⟨v', w3, (by obtain ⟨ao', cap', e⟩ := ownsRow_form hown; exact ⟨_, _, _, e⟩), hrun, by rw [cell_of_row w3 b _ _ _ _ hblk3]; rfl, row_frozen hblk3 0, ⟨v', fun j => if j = D.length then F1 else G j, ?_, ?_, fun j p' S' hj => ?_, fun i j k hij hi' => ?_, .inl h.inB, fun g hg => ?_, fun j k hg => ?_, fun j => ?_, fun g hg j => ?_, fun j k hg => ?_, by simp; omega⟩, htn⟩
  · rw [setCell_eq_setRow w3 b 0 _ _ _ v' hblk3, setRow_heap w3 b _ _ _ _ hblk3]; rfl
  · rw [List.length_append, List.map_append]
    refine ownsRow_of_block hown fun g o hv hg => ?_
    rw [Below.heap_setCell _ _ _ _ (fun e => hv'b (by have e' : g = b := e; rw [← e']; exact hv))]; exact hg
  · by_cases e : j = D.length
    · subst e
      rw [List.getElem?_append_right (Nat.le_refl _)] at hj
      simp only [Nat.sub_self, List.getElem?_cons_zero, Option.some.injEq, Prod.mk.injEq] at hj
      obtain ⟨rfl, rfl⟩ := hj
      simp only [if_true]
      exact hd2.of_blocks fun k o hk ho => hstay k o (fun e => by have := (hf k hk).1; omega) (fun e => by have := (hf k hk).1; have := hvl k e; omega) ho
    · have hjl : j < D.length := by
        rcases Nat.lt_or_ge j D.length with x | x
        · exact x
        · rw [List.getElem?_eq_none (by simp; omega)] at hj; cases hj
      rw [List.getElem?_append_left hjl] at hj
      simp only [e, if_false]
      exact (h2.dev j p' S' hj).of_blocks fun k o hk ho => hstay k o (fun e => h.outB j (by rw [← e]; exact hk)) (fun e => h.outV k e j hk) ho
  · by_cases e : i = D.length
    · have e2 : j ≠ D.length := fun x => hij (by rw [e, x])
      simp only [e, if_true] at hi'
      simp only [e2, if_false]
      exact fun x => by have := h.lt j k x; have := (hf k hi').1; omega
    · simp only [e, if_false] at hi'
      by_cases e2 : j = D.length
      · simp only [e2, if_true]
        exact fun x => by have := h.lt i k hi'; have := (hf k x).1; omega
      · simp only [e2, if_false]
        exact h.apart i j k hij hi'
  · rcases hloc with e | e
    · rw [e] at hg; exact .inl (h.inV g hg)
    · rw [e] at hg
      cases hg
      have := (hown.lt w2.heap.size e).2
      exact .inr ⟨by omega, by rw [set_size]; exact this⟩
  · by_cases e : j = D.length
    · simp only [e, if_true] at hg
      have := hf k hg
      exact .inr ⟨this.1, by rw [set_size]; omega⟩
    · simp only [e, if_false] at hg
      exact .inl (h.inG j k hg)
  · by_cases e : j = D.length
    · simp only [e, if_true]
      exact fun x => by have := (hf b x).1; omega
    · simp only [e, if_false]; exact h.outB j
  · have hgg : v.ownBlock = some g ∨ g = w2.heap.size := by
      rcases hloc with e | e
      · rw [e] at hg; exact .inl hg
      · rw [e] at hg; cases hg; exact .inr rfl
    by_cases e : j = D.length
    · simp only [e, if_true]
      intro x
      have := hf g x
      rcases hgg with y | y
      · have := hvl g y; omega
      · omega
    · simp only [e, if_false]
      intro x
      rcases hgg with y | y
      · exact h.outV g y j x
      · have := h.lt j g x; omega
  · rw [set_size]
    by_cases e : j = D.length
    · simp only [e, if_true] at hg
      have := hf k hg
      omega
    · simp only [e, if_false] at hg
      have := h.lt j k hg
      omega


def RBNewed (w : World) (e : Ending) (w' : World) : Prop := ∃ b, e = .returned (.pointer (some ⟨b, 0, none⟩)) ∧ RBk w' (fun k => w.heap.size ≤ k ∧ k < w'.heap.size) b [] pw0 ∧ Below w.heap.size w w'
theorem rbk_made (w : World) : RBk (w.alloc (.cells #[.slice none 0 0, .int .i64 (-1), .bool false, .int .i64 0] 36)) (fun k => w.heap.size ≤ k ∧ k < (w.alloc (.cells #[.slice none 0 0, .int .i64 (-1), .bool false, .int .i64 0] 36)).heap.size) w.heap.size [] pw0 := by
  refine ⟨.slice none 0 0, fun _ _ => False, heap_alloc_new w _, World.ownsRow_nil _ _ _ _, fun i p S h => by simp at h, fun _ _ _ _ h => h.elim, ⟨Nat.le_refl _, by simp⟩, fun g hg => by simp [Value.ownBlock] at hg, fun _ _ h => h.elim, fun _ h => h, fun g hg => by simp [Value.ownBlock] at hg, fun _ _ h => h.elim, by simp⟩
set_option maxRecDepth 100000 in
theorem rbnew_any (w : World) : Calls Tryz.prog 5 #[] w (RBNewed w) := by
  have HB := hide (rbk_made w)
  go_enter Tryz.func5, Tryz.ntmps5
  go_wp2
  go_ret
  exact ⟨_, rfl, HB.out, (Below.refl _ _).alloc (Nat.le_refl _) _⟩
def RBAdded (F : Nat → Prop) (b : Nat) (D : List Dev) (q : Pw) (n : Int) (w : World) (e : Ending) (w' : World) : Prop :=
  Turn F w w' ∧ ((addC D q n ≠ 0 ∧ e = .returned (.tuple #[.int .i64 0, .int .i64 (addC D q n)]) ∧ RBk w' (ext F w w') b D q) ∨
    (addC D q n = 0 ∧ e = .returned (.tuple #[.int .i64 (D.length : Int), .int .i64 0]) ∧ ∃ p, RBk w' (ext F w w') b (D ++ [some (p, fresh n.toNat)]) q))
theorem wpList_appendRD {w w' : World} {ops : Array Oper} {rest : List Oper} {o : Oper} {a : Act} {Q : Exit → Act → World → Prop} {x y : Operand} {v xv yv : Value} (hgd : o.guard = none) (ho : o.op = .call { callee := .builtin .append, args := #[x, y], argTypes := #[34, 34] })
    (hr : (Builtin.append_ #[34, 34] 34 #[xv, yv]).run Tryz.prog w = .ok v w') (hty : o.type = 34) (hx : a.eval x = xv) (hy : a.eval y = yv)
    (h : wpList Tryz.prog ops Q rest (a.put o.dst v) w') : wpList Tryz.prog ops Q (o :: rest) a w :=
  wpList_exec hgd (exec_append ho (by rw [hty]; exact hr) hx hy) h
set_option maxRecDepth 100000 in
set_option maxHeartbeats 1000000 in
theorem rbadd_any {w : World} {F : Nat → Prop} {b : Nat} {D : List Dev} {q : Pw} (h : RBk w F b D q) (n : Int) :
    Calls Tryz.prog 13 #[.pointer (some ⟨b, 0, none⟩), .int .i64 n] w (RBAdded F b D q n w) := by
  have HBK := hide h
  obtain ⟨v, G, h⟩ := h
  have c0 := h.c0
  have c2 := h.c2
  have H := hide h
  obtain ⟨ao, cap, rfl⟩ := h.form
  have HN := hide (rnew_any w n)
  clear h
  cases hd : q.down with
  | true =>
    rw [hd] at c2
    have HE : Hid (addC D q n = 22) := by show _ = _; unfold addC; rw [hd]; rfl
    clear HN
    go_enter Tryz.func13, Tryz.ntmps13
    go_wp2
    go_ret2
    exact ⟨Turn.refl _ _, .inl ⟨by rw [HE.out]; decide, by rw [HE.out]; rfl, HBK.out.ext_self⟩⟩
  | false =>
    rw [hd] at c2
    by_cases h8 : 8 ≤ D.length
    · have HE : Hid (addC D q n = 24) := by show _ = _; unfold addC; rw [hd]; simp [h8]
      have hb : decide (8 ≤ (D.length : Int)) = true := by simp; omega
      clear HN h8
      go_enter Tryz.func13, Tryz.ntmps13
      go_wp2
      go_ret2
      exact ⟨Turn.refl _ _, .inl ⟨by rw [HE.out]; decide, by rw [HE.out]; rfl, HBK.out.ext_self⟩⟩
    · have hb : decide (8 ≤ (D.length : Int)) = false := by simp; omega
      cases hn : newB n with
      | false =>
        have HE : Hid (addC D q n = 20) := by show _ = _; unfold addC; rw [hd]; simp [h8, hn]
        have HN2 := hide hn
        clear h8 hn
        go_enter Tryz.func13, Tryz.ntmps13
        go_wp2_with fail
        refine HN.out.mono ?_
        rintro e w1 ⟨hb1, he⟩
        have HB1 := hide hb1
        rw [HN2.out] at he
        have he' : e = .returned (.pointer none) := he
        subst he'
        clear hb1 he
        go_wp2
        go_ret2
        exact ⟨Turn.of_below HB1.out, .inl ⟨by rw [HE.out]; decide, by rw [HE.out]; rfl, (HBK.out.below HB1.out).mono (fun _ hk => .inl hk)⟩⟩
      | true =>
        have HE : Hid (addC D q n = 0) := by show _ = _; unfold addC; rw [hd]; simp [h8, hn]
        have HN2 := hide hn
        have HD8 : Hid (D.length < 8) := by show _ < _; omega
        clear h8 hn
        go_enter Tryz.func13, Tryz.ntmps13
        go_wp2_with fail
        refine HN.out.mono ?_
        rintro e w1 ⟨hb1, he⟩
        rw [HN2.out] at he
        obtain ⟨p, F1, rfl, hd1, hf1⟩ := he
        have k0 : w1.cell? ⟨b, 0, none⟩ = some (.slice ao D.length cap) := by rw [hb1.cell (cell_lt c0)]; exact c0
        obtain ⟨v', w3, ⟨ao3, n3, cap3, rfl⟩, hr3, k3, f3, hbk, htn⟩ := H.out.add HD8.out hb1 hd1 hf1 ((Below.refl _ _).alloc (Nat.le_refl _) (.cells #[.pointer (some ⟨p, 0, none⟩)] 37)) (heap_alloc_new w1 _)
        have HBK2 := hide hbk
        have HTN2 := hide htn
        have hn3 : n3 = D.length + 1 := by
          obtain ⟨v2, G2, h2⟩ := hbk
          have e1 := h2.c0
          obtain ⟨a2, c2', rfl⟩ := h2.form
          rw [World.cell?_setCell_same _ _ _ (u := .slice ao D.length cap) k3] at e1
          simp at e1
          omega
        subst hn3
        have c3 : (w3.setCell ⟨b, 0, none⟩ (.slice ao3 (D.length + 1) cap3)).cell? ⟨b, 0, none⟩ = some (.slice ao3 (D.length + 1) cap3) := World.cell?_setCell_same _ _ _ (u := .slice ao D.length cap) k3
        have hsub : ((D.length + 1 : Nat) : Int) - 1 = (D.length : Int) := by omega
        have hDl : (D.length : Int) < 100 := by have := HD8.out; omega
        clear hbk htn hd1 hf1 hb1 H HBK
        go_wp2_with (first | ((with_reducible refine wpList_appendRD rfl rfl hr3 ?_ ?_ ?_ ?_); rfl; rfl; rfl))
        go_ret2
        exact ⟨HTN2.out, .inr ⟨HE.out, by go_num, p, HBK2.out⟩⟩
end Go.Proofs.YtliboiajhhnajaaGreatDoor
