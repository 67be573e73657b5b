import Derived.Test.YtliboiajhhnajaaGreatDoorM19
/- The document's own disk behind a crash. -/
namespace Go.Proofs.YtliboiajhhnajaaGreatDoor
open Go.RowKit Go.Extern

def crG (L : List Nat) (ps : List Int) (i : Nat) (s : Sec) : Sec := match placeOf L i with | some p => ⟨s.pick (ps.getD p 0), s.bad, []⟩ | none => s
theorem crG_nil (ps : List Int) (S : List Sec) : partS S (crG [] ps) = S := by
  apply List.ext_getElem?
  intro i
  rw [partS_get]
  cases S[i]? <;> rfl
theorem crG_step {S : List Sec} {L : List Nat} {ps : List Int} {i : Nat} {s : Sec} (hs : S[i]? = some s) (hi : i ∉ L) : (partS S (crG L ps)).set i ⟨s.pick (ps.getD L.length 0), s.bad, []⟩ = partS S (crG (L ++ [i]) ps) := by
  refine partS_set hs ?_ (fun j t hj => ?_)
  · simp [crG, placeOf_snoc_self hi]
  · simp [crG, placeOf_snoc_other hj]
theorem crG_fresh {L : List Nat} {ps : List Int} {i : Nat} (s : Sec) (hi : i ∉ L) : crG L ps i s = s := by
  unfold crG; rw [placeOf_none hi]
theorem crG_end (S : List Sec) (ps : List Int) : partS S (crG (pend S) ps) = crS S ps := by
  unfold crS
  apply List.ext_getElem?
  intro i
  rw [partS_get, List.getElem?_map, partS_get]
  cases hs : S[i]? with
  | none => rfl
  | some s =>
    simp only [Option.map_some, crG, crF]
    cases hp : placeOf (pend S) i with
    | some p => rfl
    | none =>
      have hw : s.wait = [] := by
        by_cases hw : s.wait = []
        · exact hw
        · have hm : i ∈ pend S := mem_pend.2 ⟨s, hs, hw⟩
          have : ∀ l : List Nat, i ∈ l → placeOf l i ≠ none := by
            intro l
            induction l with
            | nil => intro h; simp at h
            | cons a l ih =>
              intro h
              by_cases e : a = i
              · simp [placeOf, e]
              · have := ih (by simpa [e, Ne.symm e, fun h : i = a => e h.symm] using h)
                simp only [placeOf, if_neg e]
                intro h2
                exact this (Option.map_eq_none_iff.1 h2)
          exact absurd hp (this _ hm)
      simp [Sec.let, ← hw]
theorem pick_at (s : Sec) (z : Int) : (s.dur :: s.wait)[min z.toNat s.wait.length]? = some (s.pick z) := by
  unfold Sec.pick
  by_cases hz : z < 1
  · rw [if_pos hz, show z.toNat = 0 by omega, Nat.zero_min]; rfl
  · rw [if_neg hz]
    rcases Nat.eq_zero_or_pos s.wait.length with h | h
    · rw [h, Nat.min_zero]
      simp [List.length_eq_zero_iff.1 h]
    · obtain ⟨m, hm⟩ : ∃ m, min z.toNat s.wait.length = m + 1 := ⟨min z.toNat s.wait.length - 1, by omega⟩
      rw [hm, List.getElem?_cons_succ, Nat.add_sub_cancel, List.getD_eq_getElem?_getD, List.getElem?_eq_getElem (by omega)]
      rfl
theorem index_ints {w : World} {g n cap i : Nat} (h : i < n) : (Instr.indexAt 29 (.slice (some ⟨g, 0, none⟩) n cap) (.int .i64 (i : Int))).run Tryz.prog w = .ok (.pointer (some ⟨g, i, none⟩)) w := by
  have hlt : (i : Int) < (n : Int) := by omega
  have hge : (0 : Int) ≤ (i : Int) := by omega
  go_simp

set_option maxRecDepth 100000 in
set_option maxHeartbeats 4000000 in
theorem rcrash_any {w : World} {G : Nat → Prop} {b : Nat} {S : List Sec} (h : Rk w G b S) (hl : S.length ≤ 4096) (hww : ∀ s ∈ S, s.wait.length ≤ 1000000) (pv : Value) (ps : List Int) (hps : Ints w pv ps) (hout : 0 < ps.length → ∀ k, pv.ownBlock = some k → ¬ G k) :
    Calls Tryz.prog 59 #[.pointer (some ⟨b, 0, none⟩), pv] w (RTurned G b (crS S ps) (.tuple #[]) w) := by
  have HP := hide (rpending_any h hl hww)
  have HR := hide h
  have HL := hide hl
  have HWW := hide hww
  obtain ⟨aop, capp, gp, offp, rfl, p2, p3, p4, p5, -⟩ := hps
  have P2 := hide p2
  have P3 := hide p3
  have P4 := hide p4
  have HO := hide hout
  clear h hl hww p2 p3 p4 p5 hout
  go_enter Tryz.func59, Tryz.ntmps59
  go_wp2_with (go_at_call 58; refine HP.out.mono ?_; rintro e w0 ⟨lv, rfl, hrow, hb0⟩; obtain ⟨aol, capl, gl, rfl, l2, l3⟩ := ints_cell hrow rfl; rw [pendI_length] at *)
  obtain ⟨ln, hln⟩ : ∃ ln, (pend S).length = ln := ⟨_, rfl⟩
  rw [hln] at l2 ⊢
  have L2 := hide l2
  have L3 := hide l3
  have HB0 := hide hb0
  have HLN := hide hln
  have HLL : Hid (ln ≤ 4096) := by show _ ≤ _; have := pend_length S; have := HL.out; omega
  clear hrow l2 l3 hb0 HP hln
  go_loopg [5] ln (fun gk i wr => ∃ q, q + gk = ln ∧ i = .int .i64 (q : Int) ∧ Rk wr (ext G w wr) b (partS S (crG ((pend S).take q) ps)) ∧ Turn G w wr ∧ (0 < ln → wr.heap[gl]? = w0.heap[gl]?))
  case atStart => exact ⟨0, by omega, rfl, by rw [List.take_zero, crG_nil]; exact (HR.out.below HB0.out).mono (fun _ hk => .inl hk), Turn.of_below HB0.out, fun _ => rfl⟩
  case round =>
    obtain ⟨q, hq, rfl, hrk, htn, hcl⟩ := hrel
    cases gk with
    | zero =>
      have hend : ¬ (q : Int) < (ln : Int) := by omega
      have HFIN : Hid (Rk wr (ext G w wr) b (crS S ps) ∧ Turn G w wr) := ⟨by rw [← crG_end, ← List.take_of_length_le (i := q) (l := pend S) (by have := HLN.out; omega)]; exact hrk, htn⟩
      clear hrk htn hcl hq
      go_wp2_with fail
      go_end0
      exact ⟨rfl, HFIN.out.1, HFIN.out.2⟩
    | succ m =>
      obtain ⟨v, T, hat, hTS⟩ := hrk
      have hTl := RkAt.len hTS
      rw [partS_length] at hTl
      obtain ⟨tn, htnn⟩ : ∃ tn, T.length = tn := ⟨_, rfl⟩
      obtain ⟨ao, cap, hvf⟩ := hat.form
      rw [htnn] at hvf
      subst hvf
      have c0 := hat.cell
      have hql : q < ln := by omega
      have hlt : (q : Int) < (ln : Int) := by omega
      have hb0 : (0 : Int) ≤ (q : Int) := by omega
      obtain ⟨i, hpq⟩ : ∃ i, (pend S)[q]? = some i := ⟨(pend S)[q]'(by rw [HLN.out]; exact hql), by simp⟩
      have hiq : (pendI S)[q]? = some (i : Int) := by unfold pendI; rw [List.getElem?_map, hpq]; rfl
      have hgl := hcl (by omega)
      have kq : wr.cell? ⟨gl, q, none⟩ = some (.int .i64 (i : Int)) := by rw [World.cell?_of_block (w := w0) hgl]; exact L3.out q _ hiq
      obtain ⟨rfl, curl, hcurl, -⟩ := L2.out (by omega)
      rw [← hgl] at hcurl
      obtain ⟨s, hs, hw⟩ := mem_pend.1 (List.mem_of_getElem? hpq)
      have hni := take_notin (pend_nodup S) hpq
      have hsP : (partS S (crG ((pend S).take q) ps))[i]? = some s := by rw [partS_get, hs, Option.map_some, crG_fresh s hni]
      obtain ⟨u, hu⟩ := RkAt.get hTS hsP
      obtain ⟨g, rfl, -, c1, -, cur, hgc⟩ := hat.at_ hu
      have hit : i < tn := by rw [← htnn]; exact (List.getElem?_eq_some_iff.1 hu).1
      have hit1 : (i : Int) < (tn : Int) := by omega
      have hit0 : (0 : Int) ≤ (i : Int) := by omega
      have hglg : gl ≠ g := fun e => by have h1 := hcurl; rw [e, hgc] at h1; simp at h1
      have hval := hat.val i _ hu
      have hwl := HWW.out s (List.mem_of_getElem? hs)
      obtain ⟨aou, capu, huf⟩ := hval.form
      simp only at huf
      subst huf
      obtain ⟨n, hn⟩ : ∃ n, s.wait.length = n := ⟨_, rfl⟩
      have hnb : (n : Int) ≤ 1000000 := by omega
      have hn0 : (0 : Int) ≤ (n : Int) := by omega
      have HLQ : Hid (((pend S).take q).length = q) := by show _ = _; rw [List.length_take, HLN.out]; omega
      obtain ⟨z, hz0, hcase⟩ : ∃ z : Int, z = ps.getD ((pend S).take q).length 0 ∧ ((q < ps.length ∧ ps[q]? = some z) ∨ (¬ q < ps.length ∧ z = 0)) := by
        rw [HLQ.out]
        by_cases h : q < ps.length
        · exact ⟨ps[q], by simp [h], .inl ⟨h, by simp [h]⟩⟩
        · exact ⟨0, by simp [h], .inr ⟨h, rfl⟩⟩
      have hz : (⟨s.pick z, s.bad, []⟩ : Sec) = ⟨s.pick (ps.getD ((pend S).take q).length 0), s.bad, []⟩ := by rw [hz0]
      obtain ⟨pp, hpp0⟩ : ∃ pp, min z.toNat s.wait.length = pp := ⟨_, rfl⟩
      have hpk := pick_at s z
      rw [hpp0] at hpk
      obtain ⟨gu, x, rfl, c3, hx, hxG⟩ := hval.at_ hpk
      rw [hn] at hpp0
      have hpp : pp < n + 1 := by omega
      obtain ⟨aox, capx, hxf⟩ := hx.form
      obtain ⟨xn, hxn⟩ : ∃ xn, (s.pick z).length = xn := ⟨_, rfl⟩
      rw [hxn] at hxf
      subst hxf
      have hgug : gu ≠ g := by
        intro e
        obtain ⟨us, h1, -⟩ := hval
        obtain ⟨cur1, hh1⟩ := row_block h1 (g := gu) rfl
        rw [e, hgc] at hh1
        simp at hh1
      have hqq : (q : Int) + 1 < 4098 := by have := HLL.out; omega
      have hba : Below wr.heap.size wr (wr.drew.drew.alloc (.cells #[.slice aox xn capx] 28)) := (Below.refl _ _).drew.drew.alloc (Nat.le_refl _) _
      have hsa : (wr.drew.drew.alloc (.cells #[.slice aox xn capx] 28)).heap.size = wr.heap.size + 1 := by simp
      have hat5 := hat.below hba
      obtain ⟨g5, e5, -, c5, -, cur5, hg5⟩ := hat5.at_ hu
      obtain rfl : g = g5 := by simpa using e5
      have hone : HadG (ext (ext G w wr) wr (wr.drew.drew.alloc (.cells #[.slice aox xn capx] 28))) (wr.drew.drew.alloc (.cells #[.slice aox xn capx] 28)) (.slice (some ⟨wr.heap.size, 0, none⟩) 1 1) [s.pick z] := HadG.one (w := wr.drew.drew) (hx.below (Below.refl _ _).drew.drew) (fun k hk => .inl (hxG k hk)) (.inr ⟨Nat.le_refl _, by rw [hsa]; exact Nat.lt_succ_self _⟩)
      obtain ⟨hat6, htn6⟩ := hat.values (s' := ⟨s.pick z, s.bad, []⟩) hu hba hone rfl
      have HSA : Hid ((wr.drew.drew.alloc (.cells #[.slice aox xn capx] 28)).cell? ⟨b, 0, none⟩ = some (.slice (some ⟨g, 0, none⟩) tn cap) ∧ (wr.drew.drew.alloc (.cells #[.slice aox xn capx] 28)).cell? ⟨gl, q, none⟩ = some (.int .i64 (i : Int)) ∧ (wr.drew.drew.alloc (.cells #[.slice aox xn capx] 28)).cell? ⟨gu, pp, none⟩ = some (.slice aox xn capx)) := ⟨hat5.cell, by rw [hba.cell (cell_lt kq)]; exact kq, by rw [hba.cell (cell_lt c3)]; exact c3⟩
      have HC5 : Hid ((wr.drew.drew.alloc (.cells #[.slice aox xn capx] 28)).cell? ⟨g, i * 2, none⟩ = some (.slice (some ⟨gu, 0, none⟩) (n + 1) capu) ∧ (wr.drew.drew.alloc (.cells #[.slice aox xn capx] 28)).frozen? ⟨g, i * 2, none⟩ = false) := ⟨by rw [← hn]; exact c5, row_frozen hg5 _⟩
      have HS6 : Hid (((wr.drew.drew.alloc (.cells #[.slice aox xn capx] 28)).setCell ⟨g, i * 2, none⟩ (.slice (some ⟨wr.heap.size, 0, none⟩) 1 1)).cell? ⟨b, 0, none⟩ = some (.slice (some ⟨g, 0, none⟩) tn cap) ∧ ((wr.drew.drew.alloc (.cells #[.slice aox xn capx] 28)).setCell ⟨g, i * 2, none⟩ (.slice (some ⟨wr.heap.size, 0, none⟩) 1 1)).cell? ⟨gl, q, none⟩ = some (.int .i64 (i : Int)) ∧ ((wr.drew.drew.alloc (.cells #[.slice aox xn capx] 28)).setCell ⟨g, i * 2, none⟩ (.slice (some ⟨wr.heap.size, 0, none⟩) 1 1)).cell? ⟨gu, pp, none⟩ = some (.slice aox xn capx)) := ⟨hat6.cell, by rw [World.cell?_of_block (Below.heap_setCell _ _ _ _ hglg)]; exact HSA.out.2.1, by rw [World.cell?_of_block (Below.heap_setCell _ _ _ _ hgug)]; exact HSA.out.2.2⟩
      have HEND : Hid (Rk ((wr.drew.drew.alloc (.cells #[.slice aox xn capx] 28)).setCell ⟨g, i * 2, none⟩ (.slice (some ⟨wr.heap.size, 0, none⟩) 1 1)) (ext G w ((wr.drew.drew.alloc (.cells #[.slice aox xn capx] 28)).setCell ⟨g, i * 2, none⟩ (.slice (some ⟨wr.heap.size, 0, none⟩) 1 1))) b (partS S (crG ((pend S).take (q + 1)) ps)) ∧ Turn G w ((wr.drew.drew.alloc (.cells #[.slice aox xn capx] 28)).setCell ⟨g, i * 2, none⟩ (.slice (some ⟨wr.heap.size, 0, none⟩) 1 1)) ∧ ((wr.drew.drew.alloc (.cells #[.slice aox xn capx] 28)).setCell ⟨g, i * 2, none⟩ (.slice (some ⟨wr.heap.size, 0, none⟩) 1 1)).heap[gl]? = w0.heap[gl]?) := by
        refine ⟨⟨_, _, hat6.mono (fun k hk => ext_ext htn.size htn6.size k hk), ?_⟩, htn.trans htn6 (fun k hk h => ?_), ?_⟩
        · rw [map_set2, hTS, hz, crG_step hs hni, ← take_snoc hpq]
        · rcases h with h | h
          · exact h
          · omega
        · rw [Below.heap_setCell _ _ _ _ hglg, hba.block gl (cell_lt kq)]; exact hgl
      simp only [List.length_cons, hn] at c1
      have HC0 := hide c0
      have HKQ := hide kq
      have HC3 := hide c3
      have HTN := hide htn
      clear hba hsa hat5 c5 hg5 hone hat6 htn6 hx hxG hgug hval hwl hu hsP hni hs hw hcurl hgl hiq hpq hat hTS hTl htnn htn hcl hgc hpk hxn hz hz0 c3 hn
      rcases hcase with ⟨h1, h2⟩ | ⟨h1, rfl⟩
      · have hlt2 : (q : Int) < (ps.length : Int) := by omega
        obtain rfl := P2.out (by omega)
        have kp : wr.cell? ⟨gp, offp + q, none⟩ = some (.int .i64 z) := by
          have h3 := P3.out q z h2
          rw [World.cell?_of_block (w := w) (HTN.out.block gp (cell_lt h3) (HO.out (by omega) gp rfl))]; exact h3
        clear h1 h2
        by_cases hz1 : (0 : Int) < z
        · obtain ⟨zn, rfl⟩ : ∃ zn : Nat, z = (zn : Int) := ⟨z.toNat, by omega⟩
          by_cases hz2 : (n : Int) < (zn : Int)
          · obtain rfl : n = pp := by omega
            go_wp2_with fail
            go_region
            go_wp2_with fail
            refine wp_region_held_drew (S := fun wx => wx.cell? ⟨b, 0, none⟩ = some (.slice (some ⟨g, 0, none⟩) tn cap) ∧ wx.cell? ⟨gl, q, none⟩ = some (.int .i64 (i : Int)) ∧ wx.cell? ⟨gu, n, none⟩ = some (.slice aox xn capx)) (by kernel_rfl) ⟨HC0.out, HKQ.out, HC3.out⟩ (fun hS => ?_)
            refine take_run 0 (some 50) (.pointer (some ⟨b, 0, none⟩)) rfl rfl rfl (by kernel_rfl) (by kernel_rfl) (by kernel_rfl) (fun _ _ _ h => h) (fun wx hx => exec_move rfl rfl) hS ?_
            simp only [Act.put, List.setIfInBounds_toArray, List.set_cons_zero, List.set_cons_succ]
            refine take_run 1 (some 51) (.pointer (some ⟨b, 0, none⟩)) rfl rfl rfl (by kernel_rfl) (by kernel_rfl) (by kernel_rfl) (fun _ _ _ h => h) (fun wx hx => exec_nilCheck rfl rfl) hS ?_
            simp only [Act.put, List.setIfInBounds_toArray, List.set_cons_zero, List.set_cons_succ]
            refine take_run 2 (some 52) (.pointer (some ⟨b, 0, none⟩)) rfl rfl rfl (by kernel_rfl) (by kernel_rfl) (by kernel_rfl) (fun _ _ _ h => h) (fun wx hx => exec_field rfl (rfield0 b wx) rfl) hS ?_
            simp only [Act.put, List.setIfInBounds_toArray, List.set_cons_zero, List.set_cons_succ]
            refine take_run 3 (some 53) (.slice (some ⟨g, 0, none⟩) tn cap) rfl rfl rfl (by kernel_rfl) (by kernel_rfl) (by kernel_rfl) (fun _ _ _ h => h) (fun wx hx => exec_load rfl (load_rsectors hx.1) rfl) hS ?_
            simp only [Act.put, List.setIfInBounds_toArray, List.set_cons_zero, List.set_cons_succ]
            refine take_run 4 (some 54) (.slice (some ⟨gl, 0, none⟩) ln capl) rfl rfl rfl (by kernel_rfl) (by kernel_rfl) (by kernel_rfl) (fun _ _ _ h => h) (fun wx hx => exec_move rfl rfl) hS ?_
            simp only [Act.put, List.setIfInBounds_toArray, List.set_cons_zero, List.set_cons_succ]
            refine take_run 5 (some 55) (.int .i64 (q : Int)) rfl rfl rfl (by kernel_rfl) (by kernel_rfl) (by kernel_rfl) (fun _ _ _ h => h) (fun wx hx => exec_move rfl rfl) hS ?_
            simp only [Act.put, List.setIfInBounds_toArray, List.set_cons_zero, List.set_cons_succ]
            refine take_run 6 (some 56) (.pointer (some ⟨gl, q, none⟩)) rfl rfl rfl (by kernel_rfl) (by kernel_rfl) (by kernel_rfl) (fun _ _ _ h => h) (fun wx hx => exec_index rfl (index_ints hql) rfl rfl) hS ?_
            simp only [Act.put, List.setIfInBounds_toArray, List.set_cons_zero, List.set_cons_succ]
            refine take_run 7 (some 57) (.int .i64 (i : Int)) rfl rfl rfl (by kernel_rfl) (by kernel_rfl) (by kernel_rfl) (fun _ _ _ h => h) (fun wx hx => exec_load rfl (load_int hx.2.1) rfl) hS ?_
            simp only [Act.put, List.setIfInBounds_toArray, List.set_cons_zero, List.set_cons_succ]
            refine take_run 8 (some 58) (.slice (some ⟨gu, 0, none⟩) (n + 1) capu) rfl rfl rfl (by kernel_rfl) (by kernel_rfl) (by kernel_rfl) (fun _ _ _ h => h) (fun wx hx => exec_move rfl rfl) hS ?_
            simp only [Act.put, List.setIfInBounds_toArray, List.set_cons_zero, List.set_cons_succ]
            refine take_run 9 (some 59) (.int .i64 (n : Int)) rfl rfl rfl (by kernel_rfl) (by kernel_rfl) (by kernel_rfl) (fun _ _ _ h => h) (fun wx hx => exec_move rfl rfl) hS ?_
            simp only [Act.put, List.setIfInBounds_toArray, List.set_cons_zero, List.set_cons_succ]
            refine take_run 10 (some 60) (.pointer (some ⟨gu, n, none⟩)) rfl rfl rfl (by kernel_rfl) (by kernel_rfl) (by kernel_rfl) (fun _ _ _ h => h) (fun wx hx => exec_index rfl (index_bytess hpp) rfl rfl) hS ?_
            simp only [Act.put, List.setIfInBounds_toArray, List.set_cons_zero, List.set_cons_succ]
            refine take_run 11 (some 61) (.slice aox xn capx) rfl rfl rfl (by kernel_rfl) (by kernel_rfl) (by kernel_rfl) (fun _ _ _ h => h) (fun wx hx => exec_load rfl (load_bytes hx.2.2) rfl) hS ?_
            simp only [Act.put, List.setIfInBounds_toArray, List.set_cons_zero, List.set_cons_succ]
            refine only_value 12 (some 62) rfl rfl rfl (by kernel_rfl) (exec_one rfl (run_oneB _ _ _ _) rfl) HSA.out ?_
            simp only [Act.put, List.setIfInBounds_toArray, List.set_cons_zero, List.set_cons_succ]
            refine only_value 13 (some 63) (v := .pointer (some ⟨g, i * 2, none⟩)) rfl rfl rfl (by kernel_rfl) (exec_index rfl (index_rsec hit) rfl rfl) HSA.out ?_
            simp only [Act.put, List.setIfInBounds_toArray, List.set_cons_zero, List.set_cons_succ]
            refine only_value 14 (some 64) (v := .pointer (some ⟨g, i * 2, none⟩)) rfl rfl rfl (by kernel_rfl) (exec_field rfl (rsField0 g _ _) rfl) HSA.out ?_
            simp only [Act.put, List.setIfInBounds_toArray, List.set_cons_zero, List.set_cons_succ]
            refine only_skip 15 none rfl rfl rfl (by kernel_rfl) (exec_store rfl (store_bytess _ _ _ HC5.out.1 HC5.out.2) rfl rfl) HS6.out ?_
            refine wpAnyH_done (by kernel_rfl) ?_ _
            clear hS
            go_wp2_with fail
            go_roundg m
            case measure => omega
            case rel => exact ⟨q + 1, by omega, by go_num, HEND.out.1, HEND.out.2.1, fun _ => HEND.out.2.2⟩
          · obtain rfl : zn = pp := by omega
            go_wp2_with fail
            go_region
            go_wp2_with fail
            refine wp_region_held_drew (S := fun wx => wx.cell? ⟨b, 0, none⟩ = some (.slice (some ⟨g, 0, none⟩) tn cap) ∧ wx.cell? ⟨gl, q, none⟩ = some (.int .i64 (i : Int)) ∧ wx.cell? ⟨gu, zn, none⟩ = some (.slice aox xn capx)) (by kernel_rfl) ⟨HC0.out, HKQ.out, HC3.out⟩ (fun hS => ?_)
            refine take_run 0 (some 50) (.pointer (some ⟨b, 0, none⟩)) rfl rfl rfl (by kernel_rfl) (by kernel_rfl) (by kernel_rfl) (fun _ _ _ h => h) (fun wx hx => exec_move rfl rfl) hS ?_
            simp only [Act.put, List.setIfInBounds_toArray, List.set_cons_zero, List.set_cons_succ]
            refine take_run 1 (some 51) (.pointer (some ⟨b, 0, none⟩)) rfl rfl rfl (by kernel_rfl) (by kernel_rfl) (by kernel_rfl) (fun _ _ _ h => h) (fun wx hx => exec_nilCheck rfl rfl) hS ?_
            simp only [Act.put, List.setIfInBounds_toArray, List.set_cons_zero, List.set_cons_succ]
            refine take_run 2 (some 52) (.pointer (some ⟨b, 0, none⟩)) rfl rfl rfl (by kernel_rfl) (by kernel_rfl) (by kernel_rfl) (fun _ _ _ h => h) (fun wx hx => exec_field rfl (rfield0 b wx) rfl) hS ?_
            simp only [Act.put, List.setIfInBounds_toArray, List.set_cons_zero, List.set_cons_succ]
            refine take_run 3 (some 53) (.slice (some ⟨g, 0, none⟩) tn cap) rfl rfl rfl (by kernel_rfl) (by kernel_rfl) (by kernel_rfl) (fun _ _ _ h => h) (fun wx hx => exec_load rfl (load_rsectors hx.1) rfl) hS ?_
            simp only [Act.put, List.setIfInBounds_toArray, List.set_cons_zero, List.set_cons_succ]
            refine take_run 4 (some 54) (.slice (some ⟨gl, 0, none⟩) ln capl) rfl rfl rfl (by kernel_rfl) (by kernel_rfl) (by kernel_rfl) (fun _ _ _ h => h) (fun wx hx => exec_move rfl rfl) hS ?_
            simp only [Act.put, List.setIfInBounds_toArray, List.set_cons_zero, List.set_cons_succ]
            refine take_run 5 (some 55) (.int .i64 (q : Int)) rfl rfl rfl (by kernel_rfl) (by kernel_rfl) (by kernel_rfl) (fun _ _ _ h => h) (fun wx hx => exec_move rfl rfl) hS ?_
            simp only [Act.put, List.setIfInBounds_toArray, List.set_cons_zero, List.set_cons_succ]
            refine take_run 6 (some 56) (.pointer (some ⟨gl, q, none⟩)) rfl rfl rfl (by kernel_rfl) (by kernel_rfl) (by kernel_rfl) (fun _ _ _ h => h) (fun wx hx => exec_index rfl (index_ints hql) rfl rfl) hS ?_
            simp only [Act.put, List.setIfInBounds_toArray, List.set_cons_zero, List.set_cons_succ]
            refine take_run 7 (some 57) (.int .i64 (i : Int)) rfl rfl rfl (by kernel_rfl) (by kernel_rfl) (by kernel_rfl) (fun _ _ _ h => h) (fun wx hx => exec_load rfl (load_int hx.2.1) rfl) hS ?_
            simp only [Act.put, List.setIfInBounds_toArray, List.set_cons_zero, List.set_cons_succ]
            refine take_run 8 (some 58) (.slice (some ⟨gu, 0, none⟩) (n + 1) capu) rfl rfl rfl (by kernel_rfl) (by kernel_rfl) (by kernel_rfl) (fun _ _ _ h => h) (fun wx hx => exec_move rfl rfl) hS ?_
            simp only [Act.put, List.setIfInBounds_toArray, List.set_cons_zero, List.set_cons_succ]
            refine take_run 9 (some 59) (.int .i64 (zn : Int)) rfl rfl rfl (by kernel_rfl) (by kernel_rfl) (by kernel_rfl) (fun _ _ _ h => h) (fun wx hx => exec_move rfl rfl) hS ?_
            simp only [Act.put, List.setIfInBounds_toArray, List.set_cons_zero, List.set_cons_succ]
            refine take_run 10 (some 60) (.pointer (some ⟨gu, zn, none⟩)) rfl rfl rfl (by kernel_rfl) (by kernel_rfl) (by kernel_rfl) (fun _ _ _ h => h) (fun wx hx => exec_index rfl (index_bytess hpp) rfl rfl) hS ?_
            simp only [Act.put, List.setIfInBounds_toArray, List.set_cons_zero, List.set_cons_succ]
            refine take_run 11 (some 61) (.slice aox xn capx) rfl rfl rfl (by kernel_rfl) (by kernel_rfl) (by kernel_rfl) (fun _ _ _ h => h) (fun wx hx => exec_load rfl (load_bytes hx.2.2) rfl) hS ?_
            simp only [Act.put, List.setIfInBounds_toArray, List.set_cons_zero, List.set_cons_succ]
            refine only_value 12 (some 62) rfl rfl rfl (by kernel_rfl) (exec_one rfl (run_oneB _ _ _ _) rfl) HSA.out ?_
            simp only [Act.put, List.setIfInBounds_toArray, List.set_cons_zero, List.set_cons_succ]
            refine only_value 13 (some 63) (v := .pointer (some ⟨g, i * 2, none⟩)) rfl rfl rfl (by kernel_rfl) (exec_index rfl (index_rsec hit) rfl rfl) HSA.out ?_
            simp only [Act.put, List.setIfInBounds_toArray, List.set_cons_zero, List.set_cons_succ]
            refine only_value 14 (some 64) (v := .pointer (some ⟨g, i * 2, none⟩)) rfl rfl rfl (by kernel_rfl) (exec_field rfl (rsField0 g _ _) rfl) HSA.out ?_
            simp only [Act.put, List.setIfInBounds_toArray, List.set_cons_zero, List.set_cons_succ]
            refine only_skip 15 none rfl rfl rfl (by kernel_rfl) (exec_store rfl (store_bytess _ _ _ HC5.out.1 HC5.out.2) rfl rfl) HS6.out ?_
            refine wpAnyH_done (by kernel_rfl) ?_ _
            clear hS
            go_wp2_with fail
            go_roundg m
            case measure => omega
            case rel => exact ⟨q + 1, by omega, by go_num, HEND.out.1, HEND.out.2.1, fun _ => HEND.out.2.2⟩
        · obtain rfl : 0 = pp := by omega
          have hz3 : ¬ (n : Int) < 0 := by omega
          go_wp2_with fail
          go_region
          go_wp2_with fail
          refine wp_region_held_drew (S := fun wx => wx.cell? ⟨b, 0, none⟩ = some (.slice (some ⟨g, 0, none⟩) tn cap) ∧ wx.cell? ⟨gl, q, none⟩ = some (.int .i64 (i : Int)) ∧ wx.cell? ⟨gu, (0 : Nat), none⟩ = some (.slice aox xn capx)) (by kernel_rfl) ⟨HC0.out, HKQ.out, HC3.out⟩ (fun hS => ?_)
          refine take_run 0 (some 50) (.pointer (some ⟨b, 0, none⟩)) rfl rfl rfl (by kernel_rfl) (by kernel_rfl) (by kernel_rfl) (fun _ _ _ h => h) (fun wx hx => exec_move rfl rfl) hS ?_
          simp only [Act.put, List.setIfInBounds_toArray, List.set_cons_zero, List.set_cons_succ]
          refine take_run 1 (some 51) (.pointer (some ⟨b, 0, none⟩)) rfl rfl rfl (by kernel_rfl) (by kernel_rfl) (by kernel_rfl) (fun _ _ _ h => h) (fun wx hx => exec_nilCheck rfl rfl) hS ?_
          simp only [Act.put, List.setIfInBounds_toArray, List.set_cons_zero, List.set_cons_succ]
          refine take_run 2 (some 52) (.pointer (some ⟨b, 0, none⟩)) rfl rfl rfl (by kernel_rfl) (by kernel_rfl) (by kernel_rfl) (fun _ _ _ h => h) (fun wx hx => exec_field rfl (rfield0 b wx) rfl) hS ?_
          simp only [Act.put, List.setIfInBounds_toArray, List.set_cons_zero, List.set_cons_succ]
          refine take_run 3 (some 53) (.slice (some ⟨g, 0, none⟩) tn cap) rfl rfl rfl (by kernel_rfl) (by kernel_rfl) (by kernel_rfl) (fun _ _ _ h => h) (fun wx hx => exec_load rfl (load_rsectors hx.1) rfl) hS ?_
          simp only [Act.put, List.setIfInBounds_toArray, List.set_cons_zero, List.set_cons_succ]
          refine take_run 4 (some 54) (.slice (some ⟨gl, 0, none⟩) ln capl) rfl rfl rfl (by kernel_rfl) (by kernel_rfl) (by kernel_rfl) (fun _ _ _ h => h) (fun wx hx => exec_move rfl rfl) hS ?_
          simp only [Act.put, List.setIfInBounds_toArray, List.set_cons_zero, List.set_cons_succ]
          refine take_run 5 (some 55) (.int .i64 (q : Int)) rfl rfl rfl (by kernel_rfl) (by kernel_rfl) (by kernel_rfl) (fun _ _ _ h => h) (fun wx hx => exec_move rfl rfl) hS ?_
          simp only [Act.put, List.setIfInBounds_toArray, List.set_cons_zero, List.set_cons_succ]
          refine take_run 6 (some 56) (.pointer (some ⟨gl, q, none⟩)) rfl rfl rfl (by kernel_rfl) (by kernel_rfl) (by kernel_rfl) (fun _ _ _ h => h) (fun wx hx => exec_index rfl (index_ints hql) rfl rfl) hS ?_
          simp only [Act.put, List.setIfInBounds_toArray, List.set_cons_zero, List.set_cons_succ]
          refine take_run 7 (some 57) (.int .i64 (i : Int)) rfl rfl rfl (by kernel_rfl) (by kernel_rfl) (by kernel_rfl) (fun _ _ _ h => h) (fun wx hx => exec_load rfl (load_int hx.2.1) rfl) hS ?_
          simp only [Act.put, List.setIfInBounds_toArray, List.set_cons_zero, List.set_cons_succ]
          refine take_run 8 (some 58) (.slice (some ⟨gu, 0, none⟩) (n + 1) capu) rfl rfl rfl (by kernel_rfl) (by kernel_rfl) (by kernel_rfl) (fun _ _ _ h => h) (fun wx hx => exec_move rfl rfl) hS ?_
          simp only [Act.put, List.setIfInBounds_toArray, List.set_cons_zero, List.set_cons_succ]
          refine take_run 9 (some 59) (.int .i64 ((0 : Nat) : Int)) rfl rfl rfl (by kernel_rfl) (by kernel_rfl) (by kernel_rfl) (fun _ _ _ h => h) (fun wx hx => exec_move rfl rfl) hS ?_
          simp only [Act.put, List.setIfInBounds_toArray, List.set_cons_zero, List.set_cons_succ]
          refine take_run 10 (some 60) (.pointer (some ⟨gu, (0 : Nat), none⟩)) rfl rfl rfl (by kernel_rfl) (by kernel_rfl) (by kernel_rfl) (fun _ _ _ h => h) (fun wx hx => exec_index rfl (index_bytess hpp) rfl rfl) hS ?_
          simp only [Act.put, List.setIfInBounds_toArray, List.set_cons_zero, List.set_cons_succ]
          refine take_run 11 (some 61) (.slice aox xn capx) rfl rfl rfl (by kernel_rfl) (by kernel_rfl) (by kernel_rfl) (fun _ _ _ h => h) (fun wx hx => exec_load rfl (load_bytes hx.2.2) rfl) hS ?_
          simp only [Act.put, List.setIfInBounds_toArray, List.set_cons_zero, List.set_cons_succ]
          refine only_value 12 (some 62) rfl rfl rfl (by kernel_rfl) (exec_one rfl (run_oneB _ _ _ _) rfl) HSA.out ?_
          simp only [Act.put, List.setIfInBounds_toArray, List.set_cons_zero, List.set_cons_succ]
          refine only_value 13 (some 63) (v := .pointer (some ⟨g, i * 2, none⟩)) rfl rfl rfl (by kernel_rfl) (exec_index rfl (index_rsec hit) rfl rfl) HSA.out ?_
          simp only [Act.put, List.setIfInBounds_toArray, List.set_cons_zero, List.set_cons_succ]
          refine only_value 14 (some 64) (v := .pointer (some ⟨g, i * 2, none⟩)) rfl rfl rfl (by kernel_rfl) (exec_field rfl (rsField0 g _ _) rfl) HSA.out ?_
          simp only [Act.put, List.setIfInBounds_toArray, List.set_cons_zero, List.set_cons_succ]
          refine only_skip 15 none rfl rfl rfl (by kernel_rfl) (exec_store rfl (store_bytess _ _ _ HC5.out.1 HC5.out.2) rfl rfl) HS6.out ?_
          refine wpAnyH_done (by kernel_rfl) ?_ _
          clear hS
          go_wp2_with fail
          go_roundg m
          case measure => omega
          case rel => exact ⟨q + 1, by omega, by go_num, HEND.out.1, HEND.out.2.1, fun _ => HEND.out.2.2⟩
      · have hlt2 : ¬ (q : Int) < (ps.length : Int) := by omega
        obtain rfl : 0 = pp := by have : (0 : Int).toNat = 0 := rfl; omega
        have hz3 : ¬ (n : Int) < 0 := by omega
        clear h1
        go_wp2_with fail
        go_region
        go_wp2_with fail
        refine wp_region_held_drew (S := fun wx => wx.cell? ⟨b, 0, none⟩ = some (.slice (some ⟨g, 0, none⟩) tn cap) ∧ wx.cell? ⟨gl, q, none⟩ = some (.int .i64 (i : Int)) ∧ wx.cell? ⟨gu, (0 : Nat), none⟩ = some (.slice aox xn capx)) (by kernel_rfl) ⟨HC0.out, HKQ.out, HC3.out⟩ (fun hS => ?_)
        refine take_run 0 (some 50) (.pointer (some ⟨b, 0, none⟩)) rfl rfl rfl (by kernel_rfl) (by kernel_rfl) (by kernel_rfl) (fun _ _ _ h => h) (fun wx hx => exec_move rfl rfl) hS ?_
        simp only [Act.put, List.setIfInBounds_toArray, List.set_cons_zero, List.set_cons_succ]
        refine take_run 1 (some 51) (.pointer (some ⟨b, 0, none⟩)) rfl rfl rfl (by kernel_rfl) (by kernel_rfl) (by kernel_rfl) (fun _ _ _ h => h) (fun wx hx => exec_nilCheck rfl rfl) hS ?_
        simp only [Act.put, List.setIfInBounds_toArray, List.set_cons_zero, List.set_cons_succ]
        refine take_run 2 (some 52) (.pointer (some ⟨b, 0, none⟩)) rfl rfl rfl (by kernel_rfl) (by kernel_rfl) (by kernel_rfl) (fun _ _ _ h => h) (fun wx hx => exec_field rfl (rfield0 b wx) rfl) hS ?_
        simp only [Act.put, List.setIfInBounds_toArray, List.set_cons_zero, List.set_cons_succ]
        refine take_run 3 (some 53) (.slice (some ⟨g, 0, none⟩) tn cap) rfl rfl rfl (by kernel_rfl) (by kernel_rfl) (by kernel_rfl) (fun _ _ _ h => h) (fun wx hx => exec_load rfl (load_rsectors hx.1) rfl) hS ?_
        simp only [Act.put, List.setIfInBounds_toArray, List.set_cons_zero, List.set_cons_succ]
        refine take_run 4 (some 54) (.slice (some ⟨gl, 0, none⟩) ln capl) rfl rfl rfl (by kernel_rfl) (by kernel_rfl) (by kernel_rfl) (fun _ _ _ h => h) (fun wx hx => exec_move rfl rfl) hS ?_
        simp only [Act.put, List.setIfInBounds_toArray, List.set_cons_zero, List.set_cons_succ]
        refine take_run 5 (some 55) (.int .i64 (q : Int)) rfl rfl rfl (by kernel_rfl) (by kernel_rfl) (by kernel_rfl) (fun _ _ _ h => h) (fun wx hx => exec_move rfl rfl) hS ?_
        simp only [Act.put, List.setIfInBounds_toArray, List.set_cons_zero, List.set_cons_succ]
        refine take_run 6 (some 56) (.pointer (some ⟨gl, q, none⟩)) rfl rfl rfl (by kernel_rfl) (by kernel_rfl) (by kernel_rfl) (fun _ _ _ h => h) (fun wx hx => exec_index rfl (index_ints hql) rfl rfl) hS ?_
        simp only [Act.put, List.setIfInBounds_toArray, List.set_cons_zero, List.set_cons_succ]
        refine take_run 7 (some 57) (.int .i64 (i : Int)) rfl rfl rfl (by kernel_rfl) (by kernel_rfl) (by kernel_rfl) (fun _ _ _ h => h) (fun wx hx => exec_load rfl (load_int hx.2.1) rfl) hS ?_
        simp only [Act.put, List.setIfInBounds_toArray, List.set_cons_zero, List.set_cons_succ]
        refine take_run 8 (some 58) (.slice (some ⟨gu, 0, none⟩) (n + 1) capu) rfl rfl rfl (by kernel_rfl) (by kernel_rfl) (by kernel_rfl) (fun _ _ _ h => h) (fun wx hx => exec_move rfl rfl) hS ?_
        simp only [Act.put, List.setIfInBounds_toArray, List.set_cons_zero, List.set_cons_succ]
        refine take_run 9 (some 59) (.int .i64 ((0 : Nat) : Int)) rfl rfl rfl (by kernel_rfl) (by kernel_rfl) (by kernel_rfl) (fun _ _ _ h => h) (fun wx hx => exec_move rfl rfl) hS ?_
        simp only [Act.put, List.setIfInBounds_toArray, List.set_cons_zero, List.set_cons_succ]
        refine take_run 10 (some 60) (.pointer (some ⟨gu, (0 : Nat), none⟩)) rfl rfl rfl (by kernel_rfl) (by kernel_rfl) (by kernel_rfl) (fun _ _ _ h => h) (fun wx hx => exec_index rfl (index_bytess hpp) rfl rfl) hS ?_
        simp only [Act.put, List.setIfInBounds_toArray, List.set_cons_zero, List.set_cons_succ]
        refine take_run 11 (some 61) (.slice aox xn capx) rfl rfl rfl (by kernel_rfl) (by kernel_rfl) (by kernel_rfl) (fun _ _ _ h => h) (fun wx hx => exec_load rfl (load_bytes hx.2.2) rfl) hS ?_
        simp only [Act.put, List.setIfInBounds_toArray, List.set_cons_zero, List.set_cons_succ]
        refine only_value 12 (some 62) rfl rfl rfl (by kernel_rfl) (exec_one rfl (run_oneB _ _ _ _) rfl) HSA.out ?_
        simp only [Act.put, List.setIfInBounds_toArray, List.set_cons_zero, List.set_cons_succ]
        refine only_value 13 (some 63) (v := .pointer (some ⟨g, i * 2, none⟩)) rfl rfl rfl (by kernel_rfl) (exec_index rfl (index_rsec hit) rfl rfl) HSA.out ?_
        simp only [Act.put, List.setIfInBounds_toArray, List.set_cons_zero, List.set_cons_succ]
        refine only_value 14 (some 64) (v := .pointer (some ⟨g, i * 2, none⟩)) rfl rfl rfl (by kernel_rfl) (exec_field rfl (rsField0 g _ _) rfl) HSA.out ?_
        simp only [Act.put, List.setIfInBounds_toArray, List.set_cons_zero, List.set_cons_succ]
        refine only_skip 15 none rfl rfl rfl (by kernel_rfl) (exec_store rfl (store_bytess _ _ _ HC5.out.1 HC5.out.2) rfl rfl) HS6.out ?_
        refine wpAnyH_done (by kernel_rfl) ?_ _
        clear hS
        go_wp2_with fail
        go_roundg m
        case measure => omega
        case rel => exact ⟨q + 1, by omega, by go_num, HEND.out.1, HEND.out.2.1, fun _ => HEND.out.2.2⟩
end Go.Proofs.YtliboiajhhnajaaGreatDoor
