import Derived.Test.YtliboiajhhnajaaGreatDoorM28
import Derived.Test.YtliboiajhhnajaaGreatDoorM30
import Derived.Test.YtliboiajhhnajaaGreatDoorM31
/- The document's own bank: Flush and Pending by their contracts; the program's Pending. -/
namespace Go.Proofs.YtliboiajhhnajaaGreatDoor
open Go.RowKit Go.Extern

theorem index_intsO {w : World} {g off n cap i : Nat} (h : i < n) : (Instr.indexAt 29 (.slice (some ⟨g, off, none⟩) n cap) (.int .i64 (i : Int))).run Tryz.prog w = .ok (.pointer (some ⟨g, off + i, none⟩)) w := by
  have h1 : (i : Int) < (n : Int) := by omega
  have h2 : (0 : Int) ≤ (i : Int) := by omega
  go_simp
theorem SmB.put {D : List Dev} (h : SmB D) {i : Int} {S' : List Sec} (hS : S'.length ≤ 4096) : SmB (putDev D i S') := by
  unfold putDev
  split
  · rename_i p S0 hi
    intro k p' S hk
    by_cases e : i.toNat = k
    · subst e
      rw [List.getElem?_set_self (List.getElem?_eq_some_iff.1 hi).1] at hk
      cases hk
      exact hS
    · rw [List.getElem?_set_ne e] at hk
      exact h k p' S hk
  · exact h
theorem SmB.secs {D : List Dev} (h : SmB D) (i : Int) : (secsOf D i).length ≤ 4096 := by
  unfold secsOf
  split
  · rename_i p S hi
    exact h _ _ _ hi
  · simp
theorem SmB.fl1 {D : List Dev} {q : Pw} (h : SmB D) (i : Int) : SmB (fl1D D q i) := by
  unfold fl1D
  split
  · exact h.put (by rw [List.length_map]; exact h.secs i)
  · exact h
def RBFlushed (F : Nat → Prop) (b : Nat) (r : List Dev × Pw × Int × Int) (w : World) (e : Ending) (w' : World) : Prop := RBTurned F b r.1 r.2.1 (.tuple #[.int .i64 r.2.2.1, .int .i64 r.2.2.2]) w e w'

set_option maxRecDepth 100000 in
set_option maxHeartbeats 2000000 in
theorem rbflush_any {w : World} {F : Nat → Prop} {b : Nat} {D : List Dev} {q : Pw} (h : RBk w F b D q) {n0 : Int} (hq : SmallN q n0) (hww : WlB D 1000000) (hsm : SmB D) (pv : Value) (ns : List Int) (hp : Ints w pv ns) (hout : 0 < ns.length → ∀ k, pv.ownBlock = some k → ¬ F k ∧ k < w.heap.size) (hn : n0 + ns.length ≤ 1000000) (hl : ns.length ≤ 1000) :
    Calls Tryz.prog 24 #[.pointer (some ⟨b, 0, none⟩), pv] w (RBFlushed F b (flAll D q ns) w) := by
  have HBK := hide h
  have HQ := hide hq
  have HWW := hide hww
  have HSB := hide hsm
  have HN := hide hn
  have HL := hide hl
  obtain ⟨ao, cap, g, off, rfl, h2, h3, -⟩ := hp
  have H2 := hide h2
  have H3 := hide h3
  have HOUT := hide hout
  clear h hq hww h2 h3 hout hn hl hsm
  go_enter Tryz.func24, Tryz.ntmps24
  go_wp2_with fail
  go_loopg [6] ns.length (fun gk i wr => ∃ j D' q', j + gk = ns.length ∧ i = .int .i64 (j : Int) ∧ RBk wr (ext F w wr) b D' q' ∧ Turn F w wr ∧ flAll D' q' (ns.drop j) = flAll D q ns ∧ SmallN q' (n0 + j) ∧ WlB D' 1000000 ∧ SmB D')
  case atStart => exact ⟨0, D, q, by omega, rfl, HBK.out.ext_self, Turn.refl _ _, rfl, HQ.out.mono (by omega), HWW.out, HSB.out⟩
  case round =>
    obtain ⟨j, D', q', hj, rfl, hbk, htn, hfl, hsm, hwl, hsb⟩ := hrel
    have HB := hide hbk
    have HT := hide htn
    have HF := hide hfl
    have HS := hide hsm
    have HW := hide hwl
    have HSB' := hide hsb
    clear hbk htn hfl hsm hwl hsb HBK HQ HWW HSB
    cases gk with
    | zero =>
      have hend : ¬ (j : Int) < (ns.length : Int) := by omega
      have HE : Hid (flAll D q ns = (D', q', 0, 0)) := by
        have := HF.out
        rw [List.drop_of_length_le (by omega)] at this
        exact this.symm
      clear hj
      go_wp2
      go_ret2
      rw [HE.out]
      exact ⟨rfl, HB.out, HT.out⟩
    | succ m =>
      have hlt : (j : Int) < (ns.length : Int) := by omega
      have hb0 : (0 : Int) ≤ (j : Int) := by omega
      have hjl : j < ns.length := by omega
      obtain rfl := H2.out (by omega)
      obtain ⟨i, hi⟩ : ∃ i, ns[j]? = some i := ⟨ns[j], by simp⟩
      have HJL := hide hjl
      have hgo := HOUT.out (by omega) g rfl
      have cj : wr.cell? ⟨g, off + j, none⟩ = some (.int .i64 i) := by
        have hc := H3.out j i hi
        rw [World.cell?_of_block (w := w) (HT.out.block g (cell_lt hc) hgo.1)]; exact hc
      have HGE : Hid (¬ ext F w wr g) := fun hx => by
        rcases hx with x | x
        · exact hgo.1 x
        · omega
      have hdr : ns.drop j = i :: ns.drop (j + 1) := by
        rw [List.drop_eq_getElem_cons hjl]; congr 1; exact (List.getElem?_eq_some_iff.1 hi).2
      have HDR := hide hdr
      have HSM : Hid (Small q') := HS.out.small (by have := HN.out; omega)
      have HLK := hide (rlook_any HB.out i true)
      rw [show lookI D' q' true i = lookP D' q' i from rfl] at HLK
      have hjj : (j : Int) + 1 < 1002 := by have := HL.out; omega
      clear hi hdr hgo hjl
      by_cases hc : lookP D' q' i = 0
      · obtain ⟨hdn, k, p, S, rfl, hk, -⟩ := lookP_zero hc
        obtain ⟨v, G, hat⟩ := HB.out
        obtain ⟨gd, capd, rfl, c0, ck, -, hlt2, hge2⟩ := hat.there hk
        have HKL : Hid (k < D'.length) := (List.getElem?_eq_some_iff.1 hk).1
        have HCT := hide (rcount_any hat HSM.out)
        have HAT := hide hat
        have HK := hide hk
        have HGB : Hid (gd ≠ b) := fun e => by
          obtain ⟨cur, hh⟩ := row_block hat.row (g := gd) rfl
          have := hat.blk
          rw [← e, hh] at this; simp at this
        have HGBg : Hid (g ≠ b) := fun e => HGE.out (by rw [e]; exact hat.inB)
        have HF1 : Hid (∀ c : Int, spendC q' = c → fl1C D' q' (k : Int) = c) := fun c hcc => by unfold fl1C; rw [if_pos hc]; exact hcc
        have HFQ : Hid (fl1Q D' q' (k : Int) = spent q') := by show _ = _; unfold fl1Q; rw [if_pos hc]
        have HWK := hide (HW.out k p S hk)
        have HSK := hide (HSB'.out k p S hk)
        have HFD : Hid (fl1C D' q' (k : Int) = 0 → fl1D D' q' (k : Int) = D'.set k (some (p, S.map Sec.flushed))) := fun h0 => by unfold fl1D; rw [if_pos h0, secsOf_at hk, putDev_at hk]
        rw [hc] at HLK
        clear hc hdn hat hk
        by_cases hl0 : q'.left = 0
        · have HSC : Hid (spendC q' = 22) := by show _ = _; simp [spendC, hl0]
          have HE : Hid (flAll D q ns = (D', spent q', 22, (k : Int))) := by
            show _ = _
            have := HF.out
            have hc22 := HF1.out 22 HSC.out
            rw [HDR.out] at this
            simp only [flAll, hc22] at this
            rw [if_neg (by decide)] at this
            rw [← this, HFQ.out]
            have : fl1D D' q' (k : Int) = D' := by unfold fl1D; rw [if_neg (by rw [hc22]; decide)]
            rw [this]
          clear hl0
          go_wp2_with fail
          refine HLK.out.mono ?_
          rintro e w' ⟨rfl, hw'⟩
          obtain rfl : wr = w' := hw'.symm
          go_wp2_with fail
          refine HCT.out.mono ?_
          rintro e w1 ⟨rfl, hb1, ht1, hs1⟩
          rw [HSC.out]
          have kj : w1.drew.cell? ⟨g, off + j, none⟩ = some (.int .i64 (k : Int)) := by show w1.cell? _ = _; rw [World.cell?_of_block (w := wr) (ht1.block g (cell_lt cj) HGBg.out)]; exact cj
          have HB1 : Hid (RBk w1.drew (ext F w w1.drew) b D' (spent q') ∧ Turn F w w1.drew) := by
            have h1 : RBk w1 (ext F w wr) b D' (spent q') := ⟨_, _, hb1⟩
            have hd : Below w1.heap.size w1 w1.drew := (Below.refl _ _).drew
            have ht : Turn F w w1 := HT.out.trans (F1 := fun k => k = b) ht1 (fun x hx e => by subst e; rcases HAT.out.inB with y | y; exact y; omega)
            exact ⟨(h1.below hd).mono (fun x hx => by rcases hx with y | y; exact .inl y; exact .inr ⟨y.1, by have : w1.drew.heap.size = w1.heap.size := rfl; omega⟩), ht.trans (Turn.of_below (F := F) hd) (fun _ _ h => h)⟩
          clear hb1 ht1 hs1 HCT HLK
          go_wp2_with fail
          refine wp_region_held_drew (S := fun wx => wx.cell? ⟨g, off + j, none⟩ = some (.int .i64 (k : Int))) (by kernel_rfl) kj (fun hS => ?_)
          refine take_run 0 (some 26) (.int .i64 22) rfl rfl rfl (by kernel_rfl) (by kernel_rfl) (by kernel_rfl) (fun _ _ _ h => h) (fun wx hx => exec_move rfl rfl) hS ?_
          simp only [Act.put, List.setIfInBounds_toArray, List.set_cons_zero, List.set_cons_succ]
          refine take_run 1 (some 27) (.slice (some ⟨g, off, none⟩) ns.length cap) rfl rfl rfl (by kernel_rfl) (by kernel_rfl) (by kernel_rfl) (fun _ _ _ h => h) (fun wx hx => exec_move rfl rfl) hS ?_
          simp only [Act.put, List.setIfInBounds_toArray, List.set_cons_zero, List.set_cons_succ]
          refine take_run 2 (some 28) (.int .i64 (j : Int)) rfl rfl rfl (by kernel_rfl) (by kernel_rfl) (by kernel_rfl) (fun _ _ _ h => h) (fun wx hx => exec_move rfl rfl) hS ?_
          simp only [Act.put, List.setIfInBounds_toArray, List.set_cons_zero, List.set_cons_succ]
          refine take_run 3 (some 29) (.pointer (some ⟨g, off + j, none⟩)) rfl rfl rfl (by kernel_rfl) (by kernel_rfl) (by kernel_rfl) (fun _ _ _ h => h) (fun wx hx => exec_index rfl (index_intsO HJL.out) rfl rfl) hS ?_
          simp only [Act.put, List.setIfInBounds_toArray, List.set_cons_zero, List.set_cons_succ]
          refine take_run 4 (some 30) (.int .i64 (k : Int)) rfl rfl rfl (by kernel_rfl) (by kernel_rfl) (by kernel_rfl) (fun _ _ _ h => h) (fun wx hx => exec_load rfl (load_int hx) rfl) hS ?_
          simp only [Act.put, List.setIfInBounds_toArray, List.set_cons_zero, List.set_cons_succ]
          refine take_run 5 (some 4) (.int .i64 22) rfl rfl rfl (by kernel_rfl) (by kernel_rfl) (by kernel_rfl) (fun _ _ _ h => h) (fun wx hx => exec_assign rfl rfl) hS ?_
          simp only [Act.put, List.setIfInBounds_toArray, List.set_cons_zero, List.set_cons_succ]
          refine take_run 6 (some 5) (.int .i64 (k : Int)) rfl rfl rfl (by kernel_rfl) (by kernel_rfl) (by kernel_rfl) (fun _ _ _ h => h) (fun wx hx => exec_assign rfl rfl) hS ?_
          simp only [Act.put, List.setIfInBounds_toArray, List.set_cons_zero, List.set_cons_succ]
          refine wpAnyH_done (by kernel_rfl) ?_ _
          clear hS kj
          go_wp2
          go_ret2
          rw [HE.out]
          exact ⟨rfl, HB1.out.1, HB1.out.2⟩
        · have HSC : Hid (spendC q' = 0) := by show _ = _; simp [spendC, hl0]
          clear hl0
          go_wp2_with fail
          refine HLK.out.mono ?_
          rintro e w' ⟨rfl, hw'⟩
          obtain rfl : wr = w' := hw'.symm
          go_wp2_with fail
          refine HCT.out.mono ?_
          rintro e w1 ⟨rfl, hb1, ht1, hs1⟩
          rw [HSC.out]
          have kj : w1.drew.cell? ⟨g, off + j, none⟩ = some (.int .i64 (k : Int)) := by show w1.cell? _ = _; rw [World.cell?_of_block (w := wr) (ht1.block g (cell_lt cj) HGBg.out)]; exact cj
          have k0 : w1.drew.cell? ⟨b, 0, none⟩ = some (.slice (some ⟨gd, 0, none⟩) D'.length capd) := by show w1.cell? _ = _; exact hb1.c0
          have kk : w1.drew.cell? ⟨gd, k, none⟩ = some (.pointer (some ⟨p, 0, none⟩)) := by show w1.cell? _ = _; rw [World.cell?_of_block (w := wr) (ht1.block gd (cell_lt ck) HGB.out)]; exact ck
          have hd : Below w1.heap.size w1 w1.drew := (Below.refl _ _).drew
          have hatd := hb1.below hd
          have HFL := hide (rflush_any (hatd.dev k p S HK.out) HSK.out HWK.out)
          have HT1 : Hid (Turn F w w1.drew) := (HT.out.trans (F1 := fun k => k = b) ht1 (fun x hx e => by subst e; rcases HAT.out.inB with y | y; exact y; omega)).trans (Turn.of_below (F := F) hd) (fun _ _ h => h)
          have hsz1 : w1.drew.heap.size = wr.heap.size := hs1
          clear ht1 HCT HLK
          go_wp2_with fail
          refine wp_region_held_drew (S := fun wx => wx.cell? ⟨b, 0, none⟩ = some (.slice (some ⟨gd, 0, none⟩) D'.length capd) ∧ wx.cell? ⟨gd, k, none⟩ = some (.pointer (some ⟨p, 0, none⟩)) ∧ wx.cell? ⟨g, off + j, none⟩ = some (.int .i64 (k : Int))) (by kernel_rfl) ⟨k0, kk, kj⟩ (fun hS => ?_)
          refine take_run 0 (some 31) (.pointer (some ⟨b, 0, none⟩)) rfl rfl rfl (by kernel_rfl) (by kernel_rfl) (by kernel_rfl) (fun _ _ _ h => h) (fun wx hx => exec_move rfl rfl) hS ?_
          simp only [Act.put, List.setIfInBounds_toArray, List.set_cons_zero, List.set_cons_succ]
          refine take_run 1 (some 32) (.pointer (some ⟨b, 0, none⟩)) rfl rfl rfl (by kernel_rfl) (by kernel_rfl) (by kernel_rfl) (fun _ _ _ h => h) (fun wx hx => exec_nilCheck rfl rfl) hS ?_
          simp only [Act.put, List.setIfInBounds_toArray, List.set_cons_zero, List.set_cons_succ]
          refine take_run 2 (some 33) (.pointer (some ⟨b, 0, none⟩)) rfl rfl rfl (by kernel_rfl) (by kernel_rfl) (by kernel_rfl) (fun _ _ _ h => h) (fun wx hx => exec_field rfl (rbField0 _ wx) rfl) hS ?_
          simp only [Act.put, List.setIfInBounds_toArray, List.set_cons_zero, List.set_cons_succ]
          refine take_run 3 (some 34) (.slice (some ⟨gd, 0, none⟩) D'.length capd) rfl rfl rfl (by kernel_rfl) (by kernel_rfl) (by kernel_rfl) (fun _ _ _ h => h) (fun wx hx => exec_load rfl (load_rdisks hx.1) rfl) hS ?_
          simp only [Act.put, List.setIfInBounds_toArray, List.set_cons_zero, List.set_cons_succ]
          refine take_run 4 (some 35) (.slice (some ⟨g, off, none⟩) ns.length cap) rfl rfl rfl (by kernel_rfl) (by kernel_rfl) (by kernel_rfl) (fun _ _ _ h => h) (fun wx hx => exec_move rfl rfl) hS ?_
          simp only [Act.put, List.setIfInBounds_toArray, List.set_cons_zero, List.set_cons_succ]
          refine take_run 5 (some 36) (.int .i64 (j : Int)) rfl rfl rfl (by kernel_rfl) (by kernel_rfl) (by kernel_rfl) (fun _ _ _ h => h) (fun wx hx => exec_move rfl rfl) hS ?_
          simp only [Act.put, List.setIfInBounds_toArray, List.set_cons_zero, List.set_cons_succ]
          refine take_run 6 (some 37) (.pointer (some ⟨g, off + j, none⟩)) rfl rfl rfl (by kernel_rfl) (by kernel_rfl) (by kernel_rfl) (fun _ _ _ h => h) (fun wx hx => exec_index rfl (index_intsO HJL.out) rfl rfl) hS ?_
          simp only [Act.put, List.setIfInBounds_toArray, List.set_cons_zero, List.set_cons_succ]
          refine take_run 7 (some 38) (.int .i64 (k : Int)) rfl rfl rfl (by kernel_rfl) (by kernel_rfl) (by kernel_rfl) (fun _ _ _ h => h) (fun wx hx => exec_load rfl (load_int hx.2.2) rfl) hS ?_
          simp only [Act.put, List.setIfInBounds_toArray, List.set_cons_zero, List.set_cons_succ]
          refine take_run 8 (some 39) (.pointer (some ⟨gd, k, none⟩)) rfl rfl rfl (by kernel_rfl) (by kernel_rfl) (by kernel_rfl) (fun _ _ _ h => h) (fun wx hx => exec_index rfl (index_rdisks HKL.out) rfl rfl) hS ?_
          simp only [Act.put, List.setIfInBounds_toArray, List.set_cons_zero, List.set_cons_succ]
          refine take_run 9 (some 40) (.pointer (some ⟨p, 0, none⟩)) rfl rfl rfl (by kernel_rfl) (by kernel_rfl) (by kernel_rfl) (fun _ _ _ h => h) (fun wx hx => exec_load rfl (load_prdisk hx.2.1) rfl) hS ?_
          simp only [Act.put, List.setIfInBounds_toArray, List.set_cons_zero, List.set_cons_succ]
          refine only_call 10 (some 41) rfl rfl rfl (by kernel_rfl) (exec_call1 rfl enterRFlush rfl rfl) (HFL.out.mono ?_)
          rintro e w2 ⟨rfl, hdk2, ht2⟩
          have s2 : w2.cell? ⟨b, 0, none⟩ = some (.slice (some ⟨gd, 0, none⟩) D'.length capd) ∧ w2.cell? ⟨gd, k, none⟩ = some (.pointer (some ⟨p, 0, none⟩)) ∧ w2.cell? ⟨g, off + j, none⟩ = some (.int .i64 (k : Int)) := ⟨by rw [World.cell?_of_block (w := w1.drew) (ht2.block b (cell_lt k0) (HAT.out.outB k))]; exact k0, by rw [World.cell?_of_block (w := w1.drew) (ht2.block gd (cell_lt kk) (HAT.out.outV gd rfl k))]; exact kk, by rw [World.cell?_of_block (w := w1.drew) (ht2.block g (cell_lt kj) (fun hx => HGE.out (HAT.out.inG k g hx)))]; exact kj⟩
          refine ⟨_, rfl, s2, ?_⟩
          simp only [Act.put, List.setIfInBounds_toArray, List.set_cons_zero, List.set_cons_succ]
          refine wpAnyH_done (by kernel_rfl) ?_ _
          have hset := hatd.set HK.out hdk2 ht2
          have HEND : Hid (RBk w2 (ext F w w2) b (D'.set k (some (p, S.map Sec.flushed))) (spent q') ∧ Turn F w w2) := by
            have hw := HT.out.size
            have h2 := ht2.size
            refine ⟨(show RBk w2 (ext (ext F w wr) w1.drew w2) b _ _ from ⟨_, _, hset.1⟩).mono (fun x hx => ?_), HT1.out.trans hset.2 (fun x hx h => ?_)⟩
            · rcases hx with (y | y) | y
              · exact .inl y
              · exact .inr ⟨y.1, by omega⟩
              · exact .inr ⟨by omega, y.2⟩
            · rcases h with y | y
              · exact y
              · omega
          clear hset hdk2 ht2 HFL hatd hd hb1 s2 k0 kk kj hsz1 hs1 hS cj c0 ck
          go_wp2
          go_roundg m
          case measure => omega
          case rel =>
            have hc0 := HF1.out 0 HSC.out
            refine ⟨j + 1, _, _, by omega, by go_num, HEND.out.1, HEND.out.2, ?_, ?_, ?_, ?_⟩
            · have := HF.out
              rw [HDR.out] at this
              simp only [flAll, hc0, if_true] at this
              rw [HFQ.out, HFD.out hc0] at this
              exact this
            · have := (HS.out.fl1 (D := D') (k : Int)).mono (m := n0 + ((j + 1 : Nat) : Int)) (by omega)
              rw [HFQ.out] at this; exact this
            · have := HW.out.fl1 (q := q') (k : Int)
              rw [HFD.out hc0] at this; exact this
            · have := HSB'.out.fl1 (q := q') (k : Int)
              rw [HFD.out hc0] at this; exact this
      · have HE : Hid (flAll D q ns = (D', q', lookP D' q' i, i)) := by
          show _ = _
          have := HF.out
          have hcc : fl1C D' q' i = lookP D' q' i := by unfold fl1C; rw [if_neg hc]
          rw [HDR.out] at this
          simp only [flAll, hcc, hc, if_false] at this
          rw [← this]
          have e1 : fl1D D' q' i = D' := by unfold fl1D; rw [if_neg (by rw [hcc]; exact hc)]
          have e2 : fl1Q D' q' i = q' := by unfold fl1Q; rw [if_neg hc]
          rw [e1, e2]
        have hcb : (lookP D' q' i == 0) = false := by simpa using hc
        have hcb2 : (lookP D' q' i != 0) = true := by simpa using hc
        generalize lookP D' q' i = lc at *
        clear hc
        go_wp2_with fail
        refine HLK.out.mono ?_
        rintro e w' ⟨rfl, hw'⟩
        obtain rfl : wr = w' := hw'.symm
        have kj : wr.drew.cell? ⟨g, off + j, none⟩ = some (.int .i64 i) := cj
        have HB1 : Hid (RBk wr.drew (ext F w wr.drew) b D' q' ∧ Turn F w wr.drew) := by
          have hd : Below wr.heap.size wr wr.drew := (Below.refl _ _).drew
          exact ⟨(HB.out.below hd).mono (fun x hx => by rcases hx with y | y; exact .inl y; exact .inr ⟨y.1, by have : wr.drew.heap.size = wr.heap.size := rfl; omega⟩), HT.out.trans (Turn.of_below (F := F) hd) (fun _ _ h => h)⟩
        go_wp2_with fail
        refine wp_region_held_drew (S := fun wx => wx.cell? ⟨g, off + j, none⟩ = some (.int .i64 i)) (by kernel_rfl) kj (fun hS => ?_)
        refine take_run 0 (some 26) (.int .i64 lc) rfl rfl rfl (by kernel_rfl) (by kernel_rfl) (by kernel_rfl) (fun _ _ _ h => h) (fun wx hx => exec_move rfl rfl) hS ?_
        simp only [Act.put, List.setIfInBounds_toArray, List.set_cons_zero, List.set_cons_succ]
        refine take_run 1 (some 27) (.slice (some ⟨g, off, none⟩) ns.length cap) rfl rfl rfl (by kernel_rfl) (by kernel_rfl) (by kernel_rfl) (fun _ _ _ h => h) (fun wx hx => exec_move rfl rfl) hS ?_
        simp only [Act.put, List.setIfInBounds_toArray, List.set_cons_zero, List.set_cons_succ]
        refine take_run 2 (some 28) (.int .i64 (j : Int)) rfl rfl rfl (by kernel_rfl) (by kernel_rfl) (by kernel_rfl) (fun _ _ _ h => h) (fun wx hx => exec_move rfl rfl) hS ?_
        simp only [Act.put, List.setIfInBounds_toArray, List.set_cons_zero, List.set_cons_succ]
        refine take_run 3 (some 29) (.pointer (some ⟨g, off + j, none⟩)) rfl rfl rfl (by kernel_rfl) (by kernel_rfl) (by kernel_rfl) (fun _ _ _ h => h) (fun wx hx => exec_index rfl (index_intsO HJL.out) rfl rfl) hS ?_
        simp only [Act.put, List.setIfInBounds_toArray, List.set_cons_zero, List.set_cons_succ]
        refine take_run 4 (some 30) (.int .i64 i) rfl rfl rfl (by kernel_rfl) (by kernel_rfl) (by kernel_rfl) (fun _ _ _ h => h) (fun wx hx => exec_load rfl (load_int hx) rfl) hS ?_
        simp only [Act.put, List.setIfInBounds_toArray, List.set_cons_zero, List.set_cons_succ]
        refine take_run 5 (some 4) (.int .i64 lc) rfl rfl rfl (by kernel_rfl) (by kernel_rfl) (by kernel_rfl) (fun _ _ _ h => h) (fun wx hx => exec_assign rfl rfl) hS ?_
        simp only [Act.put, List.setIfInBounds_toArray, List.set_cons_zero, List.set_cons_succ]
        refine take_run 6 (some 5) (.int .i64 i) rfl rfl rfl (by kernel_rfl) (by kernel_rfl) (by kernel_rfl) (fun _ _ _ h => h) (fun wx hx => exec_assign rfl rfl) hS ?_
        simp only [Act.put, List.setIfInBounds_toArray, List.set_cons_zero, List.set_cons_succ]
        refine wpAnyH_done (by kernel_rfl) ?_ _
        clear hS kj
        go_wp2
        go_ret2
        rw [HE.out]
        exact ⟨rfl, HB1.out.1, HB1.out.2⟩

def pendB (D : List Dev) : Nat := (D.map waitN).sum
theorem pendB_snoc {D : List Dev} {j : Nat} {d : Dev} (h : D[j]? = some d) : pendB (D.take (j + 1)) = pendB (D.take j) + waitN d := by
  unfold pendB
  rw [take_snoc h, List.map_append, List.sum_append]; simp
theorem waitN_le {D : List Dev} (h : SmB D) {j : Nat} {d : Dev} (hd : D[j]? = some d) : waitN d ≤ 4096 := by
  unfold waitN
  split
  · exact Nat.le_trans (pend_length _) (h _ _ _ hd)
  · exact Nat.zero_le _
set_option maxRecDepth 100000 in
set_option maxHeartbeats 1000000 in
theorem rbpending_any {w : World} {F : Nat → Prop} {b : Nat} {D : List Dev} {q : Pw} (h : RBk w F b D q) (hsm : SmB D) (hww : WlB D 1000000) :
    Calls Tryz.prog 36 #[.pointer (some ⟨b, 0, none⟩)] w fun e w' => e = .returned (.int .i64 (pendB D : Int)) ∧ Below w.heap.size w w' := by
  obtain ⟨v, G, h⟩ := h
  have H := hide h
  have HSM := hide hsm
  have HWW := hide hww
  have HL8 := hide h.few
  obtain ⟨ao, cap, rfl⟩ := h.form
  clear h hsm hww
  go_enter Tryz.func36, Tryz.ntmps36
  go_wp2_with fail
  go_loopg [4, 3] D.length (fun gk i n wr => ∃ j, j + gk = D.length ∧ i = .int .i64 (j : Int) ∧ n = .int .i64 ((pendB (D.take j) : Nat) : Int) ∧ pendB (D.take j) ≤ 4096 * j ∧ Below w.heap.size w wr)
  case atStart => exact ⟨0, by omega, rfl, by simp [pendB], by simp [pendB], Below.refl _ _⟩
  case round =>
    obtain ⟨j, hj, rfl, rfl, hle, hbw⟩ := hrel
    have HBW := hide hbw
    have hat := H.out.below hbw
    have c0 := hat.c0
    obtain ⟨pb, hpb⟩ : ∃ pb, pb = pendB (D.take j) := ⟨_, rfl⟩
    rw [← hpb] at hle
    rw [← hpb]
    have HPB := hide hpb
    clear hpb hbw
    cases gk with
    | zero =>
      have hend : ¬ (j : Int) < (D.length : Int) := by omega
      have HE : Hid (pb = pendB D) := by show _ = _; rw [HPB.out, List.take_of_length_le (by omega)]
      clear hat hj
      go_wp2
      go_ret
      exact ⟨by rw [← HE.out]; rfl, HBW.out⟩
    | succ m =>
      have hlt : (j : Int) < (D.length : Int) := by omega
      have hjl : j < D.length := by omega
      obtain ⟨d, hd⟩ : ∃ d, D[j]? = some d := ⟨D[j], by simp⟩
      obtain ⟨g, rfl, -, ck, -⟩ := hat.at_ hd
      have hjj : (j : Int) + 1 < 10 := by have := HL8.out; omega
      have hb0 : (0 : Int) ≤ (j : Int) := by omega
      have HSN := hide (pendB_snoc hd)
      have hpb1 : (pb : Int) ≤ 40000 := by have := HL8.out; omega
      have HLE := hide hle
      cases d with
      | none =>
        rw [ptrV_none] at ck
        clear hd hat hjl hle
        go_wp2
        go_roundg m
        case measure => omega
        case rel => exact ⟨j + 1, by omega, by go_num, by rw [HSN.out, ← HPB.out]; rfl, by rw [HSN.out, ← HPB.out]; have := HLE.out; show pb + 0 ≤ _; omega, HBW.out⟩
      | some d =>
        obtain ⟨p, S⟩ := d
        rw [ptrV_some] at ck
        have HPE := hide (rpending_any (hat.dev j p S hd) (HSM.out j p S hd) (HWW.out j p S hd))
        have hwn := waitN_le HSM.out hd
        have HWN : Hid (waitN (some (p, S)) ≤ 4096) := hwn
        clear hd hat hjl hle hwn
        go_wp2_with fail
        refine HPE.out.mono ?_
        rintro e w2 ⟨v2, rfl, hv2, hb2⟩
        have HB2 := hide (HBW.out.trans (hb2.mono HBW.out.size))
        obtain ⟨ao2, cap2, rfl⟩ := ownsRow_form hv2
        rw [pendI_length]
        rw [show waitN (some (p, S)) = (pend S).length from rfl] at HSN HWN
        clear hv2 hb2 HPE
        generalize (pend S).length = pn at *
        have hpn : (pn : Int) ≤ 4096 := by have := HWN.out; omega
        go_wp2
        go_roundg m
        case measure => omega
        case rel => exact ⟨j + 1, by omega, by go_num, by rw [HSN.out, ← HPB.out]; go_num, by rw [HSN.out, ← HPB.out]; have := HLE.out; have := HWN.out; omega, HB2.out⟩
set_option maxRecDepth 100000 in
set_option maxHeartbeats 1000000 in
theorem bpending_any {w : World} {F : Nat → Prop} {b : Nat} {D : List Dev} {q : Pw} (h : Bk w F b D q) :
    Calls Tryz.prog 35 #[.pointer (some ⟨b, 0, none⟩)] w fun e w' => e = .returned (.int .i64 (pendB D : Int)) ∧ Below w.heap.size w w' := by
  obtain ⟨v, G, h⟩ := h
  have H := hide h
  have HL8 := hide h.few
  have HSM : Hid (SmB D) := fun i p S hi => (h.dev i p S hi).good.1
  have c0 := h.c0
  obtain ⟨ao, cap, rfl⟩ := h.form
  clear h
  go_enter Tryz.func35, Tryz.ntmps35
  go_wp2_with fail
  go_loopg [11, 3] D.length (fun gk i n wr => ∃ j, j + gk = D.length ∧ i = .int .i64 (j : Int) ∧ n = .int .i64 ((pendB (D.take j) : Nat) : Int) ∧ pendB (D.take j) ≤ 4096 * j ∧ Below w.heap.size w wr)
  case atStart => exact ⟨0, by omega, rfl, by simp [pendB], by simp [pendB], Below.refl _ _⟩
  case round =>
    obtain ⟨j, hj, rfl, rfl, hle, hbw⟩ := hrel
    have HBW := hide hbw
    have hat := H.out.below hbw
    obtain ⟨pb, hpb⟩ : ∃ pb, pb = pendB (D.take j) := ⟨_, rfl⟩
    rw [← hpb] at hle
    rw [← hpb]
    have HPB := hide hpb
    clear hpb hbw
    cases gk with
    | zero =>
      have hend : ¬ (j : Int) < (D.length : Int) := by omega
      have HE : Hid (pb = pendB D) := by show _ = _; rw [HPB.out, List.take_of_length_le (by omega)]
      clear hat hj
      go_wp2
      go_ret
      exact ⟨by rw [← HE.out]; rfl, HBW.out⟩
    | succ m =>
      have hlt : (j : Int) < (D.length : Int) := by omega
      have hjl : j < D.length := by omega
      obtain ⟨d, hd⟩ : ∃ d, D[j]? = some d := ⟨D[j], by simp⟩
      obtain ⟨g, rfl, -, ck, -⟩ := hat.at_ hd
      have hjj : (j : Int) + 1 < 10 := by have := HL8.out; omega
      have hb0 : (0 : Int) ≤ (j : Int) := by omega
      have HSN := hide (pendB_snoc hd)
      have hpb1 : (pb : Int) ≤ 40000 := by have := HL8.out; omega
      have HLE := hide hle
      cases d with
      | none =>
        rw [ptrV_none] at ck
        have HWT := hide (bwaiting_none wr)
        clear hd hat hjl hle
        go_wp2_with fail
        refine HWT.out.mono ?_
        rintro e w' ⟨rfl, hw'⟩
        obtain rfl : wr = w' := hw'.symm
        go_wp2
        go_roundg m
        case measure => omega
        case rel => exact ⟨j + 1, by omega, by go_num, by rw [HSN.out, ← HPB.out]; rfl, by rw [HSN.out, ← HPB.out]; have := HLE.out; show pb + 0 ≤ _; omega, HBW.out⟩
      | some d =>
        obtain ⟨p, S⟩ := d
        rw [ptrV_some] at ck
        have HWT := hide (bwaiting_any (hat.dev j p S hd))
        have HWN : Hid (waitN (some (p, S)) ≤ 4096) := waitN_le HSM.out hd
        clear hd hat hjl hle
        go_wp2_with fail
        refine HWT.out.mono ?_
        rintro e w2 ⟨rfl, hb2⟩
        have HB2 := hide (HBW.out.trans (hb2.mono HBW.out.size))
        rw [show waitN (some (p, S)) = (pend S).length from rfl] at HSN HWN
        clear hb2 HWT
        generalize (pend S).length = pn at *
        have hpn : (pn : Int) ≤ 4096 := by have := HWN.out; omega
        go_wp2
        go_roundg m
        case measure => omega
        case rel => exact ⟨j + 1, by omega, by go_num, by rw [HSN.out, ← HPB.out]; go_num, by rw [HSN.out, ← HPB.out]; have := HLE.out; have := HWN.out; omega, HB2.out⟩

end Go.Proofs.YtliboiajhhnajaaGreatDoor
