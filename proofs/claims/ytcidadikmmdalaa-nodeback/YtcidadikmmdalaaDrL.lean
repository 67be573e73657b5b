/- The law NodeDrops. -/
import Derived.Test.YtcidadikmmdalaaAw
import Derived.Test.YtcidadikmmdalaaRi
namespace Go.Proofs.Ytcidadikmmdalaa
open Go.RowKit Go.Extern

theorem exec_remN {ρ : Operand → Value} {o : Oper} {w : World} {x y : Operand} {n m k : Int} {T : TypeId} (ho : o.op = .binOp .rem 3 x y T) (hx : ρ x = .int .i64 n) (hy : ρ y = .int .i64 m) (h : n.tmod m = k) (hm : 0 < m) : (execOp ρ o).run Try.prog w = .ok (.value (.int .i64 k)) w := by
  subst h
  have h0 : ¬ m = 0 := by omega
  have h1 : ¬ m = -1 := by omega
  have hb : (m == 0) = false := by simpa using h0
  unfold execOp; simp only [ho, hx, hy]; go_simp
theorem drop_len {l : List En} (hu : Up (l.map Prod.fst)) {k : Int} (hk : k ∈ l.map Prod.fst) : (dropS l k).length + 1 = l.length := by
  obtain ⟨i, hi⟩ := List.mem_iff_getElem?.1 hk
  have hs : Spot (l.map Prod.fst) k i := ⟨by have := (List.getElem?_eq_some_iff.1 hi).1; omega, fun j x hx hj => hu.lt hx hi hj, fun j x hx hj => hu.le hi hx hj⟩
  rw [← dropS_del hu hs hi]
  have := (List.getElem?_eq_some_iff.1 hi).1
  simp at this ⊢; omega
theorem drop_not {l : List En} (k : Int) : k ∉ (dropS l k).map Prod.fst := fun h => by
  obtain ⟨p, hp, e⟩ := List.mem_map.1 h
  rcases List.mem_append.1 hp with h1 | h1
  · have := (mem_loS.1 h1).2; omega
  · have := (mem_hiS.1 h1).2; omega
theorem pick_in (p c : Int) (hc : 0 < c) : 0 ≤ (p.tmod c + c).tmod c ∧ (p.tmod c + c).tmod c < c ∧ -c < p.tmod c ∧ p.tmod c < c := by
  have h1 := Int.tmod_lt_of_pos p hc
  have h2 : -c < p.tmod c := by
    rcases Int.le_total 0 p with h | h
    · have := Int.tmod_nonneg c h; omega
    · have := Int.tmod_lt_of_pos (-p) hc
      rw [Int.neg_tmod] at this; omega
  exact ⟨Int.tmod_nonneg _ (by omega), Int.tmod_lt_of_pos _ hc, h2, h1⟩
theorem found_none {K : List Int} {k at_ : Int} {ex : Bool} (hk : k ∉ K) (h : Found K k at_ ex) : ex = false := by
  obtain ⟨m, hs, ⟨rfl, hm, rfl⟩ | ⟨rfl, hm, rfl⟩⟩ := h
  · exact absurd (List.mem_of_getElem? hm) hk
  · rfl
theorem rt_of {L : Int} (hL : 0 ≤ L ∧ L ≤ 20) {l : List En} (h : Ris l) (h1 : 1 ≤ l.length) (h7 : l.length ≤ 7) : Rt L (l.map Prod.fst) (l.map Prod.snd) := ⟨hL, by simpa using h1, by simpa using h7, by simp, by rw [zip_maps]; exact h⟩
/-- What is left, in memory. -/
structure DlW (w : World) (b : Nat) (L : Int) (l : List En) (kv vv : Value) (wr : World) : Prop where
  box : BoxN 26 wr b L kv vv
  hk : Ints wr kv (l.map Prod.fst)
  hv : Ints wr vv (l.map Prod.snd)
  ris : Ris l
  bel : Below w.heap.size w wr
theorem DlW.below {w : World} {b : Nat} {L : Int} {l : List En} {kv vv : Value} {wr wx : World} (h : DlW w b L l kv vv wr) (hb : Below wr.heap.size wr wx) : DlW w b L l kv vv wx := ⟨h.box.below hb, h.hk.below hb, h.hv.below hb, h.ris, nextB h.bel hb⟩

set_option maxRecDepth 100000 in
set_option maxHeartbeats 4000000 in
theorem dropsL_any {w : World} {kv vv pv : Value} {K V P : List Int} (L : Int) (hk : Ints w kv K) (hv : Ints w vv V) (hp : Ints w pv P) :
    Calls Try.prog 7 #[.agg #[.int .i64 L, kv, vv], pv] w fun e w' => e = .returned (.bool true) ∧ Below w.heap.size w w' := by
  have HBA := hide (bel_alloc w (.cells #[.int .i64 L, kv, vv] 24))
  have HK := hide (hk.below HBA.out)
  have HV := hide (hv.below HBA.out)
  have HX := hide (BoxN.new 24 w L kv vv)
  obtain ⟨aK, n, cK, hkf, hn⟩ := hk.form
  obtain ⟨aV, nV, cV, hvf, -⟩ := hv.form
  obtain ⟨aP, cP, gP, oP, hpf, hP1, hP2⟩ := hp.at_
  obtain ⟨np, hnp⟩ : ∃ n, P.length = n := ⟨_, rfl⟩
  rw [hnp] at hpf
  have HPL := hide hnp
  have HP1 := hide hP1
  have HP2 := hide hP2
  have hpl := hp.len
  rw [hnp] at hpl
  clear hk hv hp hP1 hP2 hnp
  subst hkf hvf hpf
  by_cases hR : Rt L K V
  rotate_left
  · have hrt := rtB_false.2 hR
    clear hR
    go_enter Try.func7, Try.ntmps7
    go_wp2_with (first
      | (go_at_call 13; refine (right_any L HK.out HV.out).mono ?_; rintro e w1 ⟨rfl, hb1⟩; rw [hrt]; have HB1 := hide (nextB HBA.out hb1); clear hb1)
      | (go_at_call 8; refine (awake_any _).mono ?_; rintro e w3 ⟨rfl, hb3⟩; have HB3 := hide (nextB HB1.out hb3); clear hb3))
    go_ret
    exact ⟨rfl, HB3.out⟩
  have hrt := rtB_iff.2 hR
  have HR := hide hR
  have hpos := hR.pos
  have hfew := hR.few
  rw [← hn.out] at hpos hfew
  clear hR
  by_cases hpn : (np : Int) < (n : Int)
  · go_enter Try.func7, Try.ntmps7
    go_wp2_with (first
      | (go_at_call 13; refine (right_any L HK.out HV.out).mono ?_; rintro e w1 ⟨rfl, hb1⟩; rw [hrt]; have HB1 := hide (nextB HBA.out hb1); obtain ⟨x0, x1, x2⟩ := (HX.out.below hb1).cells; clear hb1)
      | (go_at_call 8; refine (awake_any _).mono ?_; rintro e w3 ⟨rfl, hb3⟩; have HB3 := hide (nextB HB1.out hb3); clear hb3))
    go_ret
    exact ⟨rfl, HB3.out⟩
  obtain rfl := HP1.out (by rw [HPL.out]; omega)
  go_enter Try.func7, Try.ntmps7
  go_wp2_with fail
  refine (right_any L HK.out HV.out).mono ?_
  rintro e w1 ⟨rfl, hb1⟩
  rw [hrt]
  have HB1 := hide hb1
  obtain ⟨x0, x1, x2⟩ := (HX.out.below hb1).cells
  clear hb1
  go_wp2_with fail
  clear x0 x1 x2
  refine (of_any L (HK.out.below HB1.out) (HV.out.below HB1.out) (by rw [← hn.out]; omega) (by rw [HR.out.same, ← hn.out]; omega)).mono ?_
  rintro e w3 ⟨kv3, vv3, rfl, ht3, hb3⟩
  obtain ⟨aK3, nK3, cK3, rfl, -⟩ := ht3.hk.form
  obtain ⟨aV3, nV3, cV3, rfl, -⟩ := ht3.hv.form
  have hbX := bel_alloc w3 (.cells #[.int .i64 L, .slice aK3 nK3 cK3, .slice aV3 nV3 cV3] 26)
  have HX3 := hide (HX.out.below (nextB (nextB HB1.out hb3) hbX))
  have HBX := hide (nextB HBA.out (nextB (nextB HB1.out hb3) hbX))
  have HDW : Hid (DlW w w3.heap.size L (K.zip V) (.slice aK3 nK3 cK3) (.slice aV3 nV3 cV3) (w3.alloc (.cells #[.int .i64 L, .slice aK3 nK3 cK3, .slice aV3 nV3 cV3] 26))) :=
    hide ⟨BoxN.new _ _ _ _ _, by rw [zip_fst HR.out.same]; exact ht3.ints.1.below hbX, by rw [zip_snd HR.out.same]; exact ht3.ints.2.below hbX, HR.out.ris, HBX.out⟩
  obtain ⟨x0, x1, x2⟩ := HX3.out.cells
  obtain ⟨b, hb⟩ : ∃ b, w3.heap.size = b := ⟨_, rfl⟩
  have hwb : w.heap.size < b := by have h1 := HBA.out.size; have h2 := HB1.out.size; have h3 := hb3.size; simp at h1 h2; omega
  have HBE := hide hb
  have HWB := hide hwb
  clear ht3 hb3 hbX hb hwb
  go_wp2_with fail
  clear x0 x1 x2
  obtain ⟨wX, hwX⟩ : ∃ wX, w3.alloc (.cells #[.int .i64 L, .slice aK3 nK3 cK3, .slice aV3 nV3 cV3] 26) = wX := ⟨_, rfl⟩
  rw [HBE.out] at HDW ⊢
  simp only [hwX] at HDW HX3 HBX ⊢
  clear hwX HBE
  go_loopg [33] n (fun t i wr => ∃ (j : Nat) (l : List En) (kv vv : Value), j + t = n ∧ i = .int .i64 (j : Int) ∧ Hid (DlW w b L l kv vv wr) ∧ Hid (l.length = t))
  case atStart => exact ⟨0, _, _, _, by omega, rfl, HDW, hide (by rw [HR.out.len]; exact hn.out.symm)⟩
  case round =>
    obtain ⟨j, l, kv, vv, hj, rfl, HD, HL⟩ := hrel
    obtain ⟨y0, y1, y2⟩ := HD.out.box.cells
    obtain ⟨aKx, c, cKx, hkx, hcx⟩ := HD.out.hk.form
    obtain ⟨aVx, cV0, cVx, hvx, -⟩ := HD.out.hv.form
    have HCL : Hid (c = l.length) := hide (by rw [hcx.out]; simp)
    subst hkx hvx
    clear hcx
    have HWB' := HWB.out
    cases gk with
    | zero =>
      have hnl : ¬ (j : Int) < (n : Int) := by omega
      obtain rfl : l = [] := List.length_eq_zero_iff.1 HL.out
      obtain rfl : c = 0 := HCL.out
      go_wp2_with fail
      refine (drop_bad HD.out.hk HD.out.hv (fun h => by have := h.pos; simp at this) 1).mono ?_
      rintro e w4 ⟨k4, v4, rfl, ht4, hb4⟩
      obtain ⟨aK4, nK4, cK4, rfl, -⟩ := ht4.hk.form
      obtain ⟨aV4, nV4, cV4, rfl, -⟩ := ht4.hv.form
      have hbY := bel_alloc w4 (.cells #[.int .i64 0, .slice aK4 nK4 cK4, .slice aV4 nV4 cV4] 26)
      obtain ⟨y0, y1, y2⟩ := (HD.out.box.below (nextB hb4 hbY)).cells
      have HB4 := hide (nextB HD.out.bel (nextB hb4 hbY))
      clear ht4 hb4 hbY
      go_wp2_with (first
        | (go_at_call 14; refine (is_any 70 70 _).mono ?_; rintro e w5 ⟨rfl, rfl⟩)
        | (go_at_call 8; refine (awake_any _).mono ?_; rintro e w6 ⟨rfl, hb6⟩; have HB6 := hide (nextB HB4.out hb6); clear hb6))
      go_ret
      exact ⟨rfl, HB6.out⟩
    | succ m =>
      have hlt : (j : Int) < (n : Int) := by omega
      have hb0 : (0 : Int) ≤ (j : Int) := by omega
      have hc1 : 1 ≤ c := by rw [HCL.out, HL.out]; omega
      have hc7 : c ≤ 7 := by rw [HCL.out, HL.out]; omega
      have hcl := HCL.out
      obtain ⟨pk, hpk0⟩ : ∃ p, P[j]? = some p := ⟨P[j]'(by rw [HPL.out]; omega), by rw [List.getElem?_eq_getElem]⟩
      have HCP := hide (cell_bel HD.out.bel (HP2.out j pk hpk0))
      obtain ⟨hq1, hq2, hq3, hq4⟩ := pick_in pk (c : Int) (by omega)
      obtain ⟨r, hr⟩ : ∃ r : Nat, (pk.tmod (c : Int) + (c : Int)).tmod (c : Int) = (r : Int) := ⟨((pk.tmod (c : Int) + (c : Int)).tmod (c : Int)).toNat, by omega⟩
      have hrc0 : r < c := by omega
      obtain ⟨⟨k, v⟩, hkr⟩ : ∃ p, l[r]? = some p := ⟨l[r]'(by omega), by rw [List.getElem?_eq_getElem]⟩
      have hkk : (l.map Prod.fst)[r]? = some k := key_at.2 ⟨v, hkr⟩
      have hkm : k ∈ l.map Prod.fst := List.mem_of_getElem? hkk
      have hup : Up (l.map Prod.fst) := HD.out.ris.up
      have hdl := drop_len hup hkm
      have HRT := hide (rt_of HR.out.lev HD.out.ris (by omega) (by omega))
      have HKM := hide hkm
      have HDL := hide hdl
      obtain ⟨aK0, cK0, gK, oK, hsl, hk1, hk2⟩ := HD.out.hk.at_
      simp only [Value.slice.injEq] at hsl
      obtain ⟨rfl, -, rfl⟩ := hsl
      obtain rfl := hk1 (by simp; omega)
      have HCK := hide (hk2 r k hkk)
      have HFACT := hide (And.intro hr (And.intro hrc0 (And.intro hq3 hq4)))
      have HSB := hide (below_drew0 wr)
      have HY1 := hide y1
      have HJ := hide hj
      clear hpk0 hkr hkk hkm hup hdl hk1 hk2 hr hrc0 hq1 hq2 hq3 hq4 hcl
      go_wp2_with fail
      obtain ⟨hp3, hrc, hq3, hq4⟩ := HFACT.out
      have X1 := HY1.out
      have CP := HCP.out
      have CK := HCK.out
      have hjp : j < np := by have := HJ.out; omega
      have hc0 : (0 : Int) < (c : Int) := by omega
      obtain ⟨p1, hp1⟩ : ∃ p, pk.tmod (c : Int) = p := ⟨_, rfl⟩
      rw [hp1] at hp3 hq3 hq4
      obtain ⟨p2, hp2⟩ : ∃ p, p1 + (c : Int) = p := ⟨_, rfl⟩
      rw [hp2] at hp3
      have hp2a : (-9223372036854775808 : Int) ≤ p2 := by omega
      have hp2b : p2 < 9223372036854775808 := by omega
      refine wp_region_held_drew (S := Below wr.heap.size wr) (by kernel_rfl) HSB.out (fun hS => ?_)
      refine take_want 0 (some 36) (.pointer (some ⟨b, 0 + 1, none⟩)) rfl rfl rfl (by kernel_rfl) (by kernel_rfl) (by kernel_rfl) (fun _ _ _ h => h) (fun wx hx => exec_field rfl (fldN1 _ _ wx) rfl) hS ?_
      simp only [Act.put, List.setIfInBounds_toArray, List.set_cons_zero, List.set_cons_succ]
      refine take_want 1 (some 37) (.slice (some ⟨gK, oK, none⟩) c cKx) rfl rfl rfl (by kernel_rfl) (by kernel_rfl) (by kernel_rfl) (fun _ _ _ h => h) (fun wx hx => exec_load rfl (load_intsP (cell_bel hx X1)) rfl) hS ?_
      simp only [Act.put, List.setIfInBounds_toArray, List.set_cons_zero, List.set_cons_succ]
      refine take_want 2 (some 38) (.slice (some ⟨gP, oP, none⟩) np cP) rfl rfl rfl (by kernel_rfl) (by kernel_rfl) (by kernel_rfl) (fun _ _ _ h => h) (fun wx hx => exec_move rfl rfl) hS ?_
      simp only [Act.put, List.setIfInBounds_toArray, List.set_cons_zero, List.set_cons_succ]
      refine take_want 3 (some 39) (.int .i64 (j : Int)) rfl rfl rfl (by kernel_rfl) (by kernel_rfl) (by kernel_rfl) (fun _ _ _ h => h) (fun wx hx => exec_move rfl rfl) hS ?_
      simp only [Act.put, List.setIfInBounds_toArray, List.set_cons_zero, List.set_cons_succ]
      refine take_want 4 (some 40) (.pointer (some ⟨gP, oP + j, none⟩)) rfl rfl rfl (by kernel_rfl) (by kernel_rfl) (by kernel_rfl) (fun _ _ _ h => h) (fun wx hx => exec_index rfl (index_ints hjp) rfl rfl) hS ?_
      simp only [Act.put, List.setIfInBounds_toArray, List.set_cons_zero, List.set_cons_succ]
      refine take_want 5 (some 41) (.int .i64 pk) rfl rfl rfl (by kernel_rfl) (by kernel_rfl) (by kernel_rfl) (fun _ _ _ h => h) (fun wx hx => exec_load rfl (load_intP (cell_bel hx CP)) rfl) hS ?_
      simp only [Act.put, List.setIfInBounds_toArray, List.set_cons_zero, List.set_cons_succ]
      refine take_want 6 (some 42) (.pointer (some ⟨b, 0 + 1, none⟩)) rfl rfl rfl (by kernel_rfl) (by kernel_rfl) (by kernel_rfl) (fun _ _ _ h => h) (fun wx hx => exec_field rfl (fldN1 _ _ wx) rfl) hS ?_
      simp only [Act.put, List.setIfInBounds_toArray, List.set_cons_zero, List.set_cons_succ]
      refine take_want 7 (some 43) (.slice (some ⟨gK, oK, none⟩) c cKx) rfl rfl rfl (by kernel_rfl) (by kernel_rfl) (by kernel_rfl) (fun _ _ _ h => h) (fun wx hx => exec_load rfl (load_intsP (cell_bel hx X1)) rfl) hS ?_
      simp only [Act.put, List.setIfInBounds_toArray, List.set_cons_zero, List.set_cons_succ]
      refine take_want 8 (some 44) (.int .i64 (c : Int)) rfl rfl rfl (by kernel_rfl) (by kernel_rfl) (by kernel_rfl) (fun _ _ _ h => h) (fun wx hx => exec_len rfl (len_ints _ _ _ _) rfl) hS ?_
      simp only [Act.put, List.setIfInBounds_toArray, List.set_cons_zero, List.set_cons_succ]
      refine take_want 9 (some 45) (.int .i64 p1) rfl rfl rfl (by kernel_rfl) (by kernel_rfl) (by kernel_rfl) (fun _ _ _ h => h) (fun wx hx => exec_remN rfl rfl rfl hp1 hc0) hS ?_
      simp only [Act.put, List.setIfInBounds_toArray, List.set_cons_zero, List.set_cons_succ]
      refine take_want 10 (some 46) (.pointer (some ⟨b, 0 + 1, none⟩)) rfl rfl rfl (by kernel_rfl) (by kernel_rfl) (by kernel_rfl) (fun _ _ _ h => h) (fun wx hx => exec_field rfl (fldN1 _ _ wx) rfl) hS ?_
      simp only [Act.put, List.setIfInBounds_toArray, List.set_cons_zero, List.set_cons_succ]
      refine take_want 11 (some 47) (.slice (some ⟨gK, oK, none⟩) c cKx) rfl rfl rfl (by kernel_rfl) (by kernel_rfl) (by kernel_rfl) (fun _ _ _ h => h) (fun wx hx => exec_load rfl (load_intsP (cell_bel hx X1)) rfl) hS ?_
      simp only [Act.put, List.setIfInBounds_toArray, List.set_cons_zero, List.set_cons_succ]
      refine take_want 12 (some 48) (.int .i64 (c : Int)) rfl rfl rfl (by kernel_rfl) (by kernel_rfl) (by kernel_rfl) (fun _ _ _ h => h) (fun wx hx => exec_len rfl (len_ints _ _ _ _) rfl) hS ?_
      simp only [Act.put, List.setIfInBounds_toArray, List.set_cons_zero, List.set_cons_succ]
      refine take_want 13 (some 49) (.int .i64 p2) rfl rfl rfl (by kernel_rfl) (by kernel_rfl) (by kernel_rfl) (fun _ _ _ h => h) (fun wx hx => exec_addN rfl rfl rfl hp2 hp2a hp2b) hS ?_
      simp only [Act.put, List.setIfInBounds_toArray, List.set_cons_zero, List.set_cons_succ]
      refine take_want 14 (some 50) (.pointer (some ⟨b, 0 + 1, none⟩)) rfl rfl rfl (by kernel_rfl) (by kernel_rfl) (by kernel_rfl) (fun _ _ _ h => h) (fun wx hx => exec_field rfl (fldN1 _ _ wx) rfl) hS ?_
      simp only [Act.put, List.setIfInBounds_toArray, List.set_cons_zero, List.set_cons_succ]
      refine take_want 15 (some 51) (.slice (some ⟨gK, oK, none⟩) c cKx) rfl rfl rfl (by kernel_rfl) (by kernel_rfl) (by kernel_rfl) (fun _ _ _ h => h) (fun wx hx => exec_load rfl (load_intsP (cell_bel hx X1)) rfl) hS ?_
      simp only [Act.put, List.setIfInBounds_toArray, List.set_cons_zero, List.set_cons_succ]
      refine take_want 16 (some 52) (.int .i64 (c : Int)) rfl rfl rfl (by kernel_rfl) (by kernel_rfl) (by kernel_rfl) (fun _ _ _ h => h) (fun wx hx => exec_len rfl (len_ints _ _ _ _) rfl) hS ?_
      simp only [Act.put, List.setIfInBounds_toArray, List.set_cons_zero, List.set_cons_succ]
      refine take_want 17 (some 53) (.int .i64 (r : Int)) rfl rfl rfl (by kernel_rfl) (by kernel_rfl) (by kernel_rfl) (fun _ _ _ h => h) (fun wx hx => exec_remN rfl rfl rfl hp3 hc0) hS ?_
      simp only [Act.put, List.setIfInBounds_toArray, List.set_cons_zero, List.set_cons_succ]
      refine take_want 18 (some 54) (.pointer (some ⟨gK, oK + r, none⟩)) rfl rfl rfl (by kernel_rfl) (by kernel_rfl) (by kernel_rfl) (fun _ _ _ h => h) (fun wx hx => exec_index rfl (index_ints hrc) rfl rfl) hS ?_
      simp only [Act.put, List.setIfInBounds_toArray, List.set_cons_zero, List.set_cons_succ]
      refine take_want 19 (some 55) (.int .i64 k) rfl rfl rfl (by kernel_rfl) (by kernel_rfl) (by kernel_rfl) (fun _ _ _ h => h) (fun wx hx => exec_load rfl (load_intP (cell_bel hx CK)) rfl) hS ?_
      simp only [Act.put, List.setIfInBounds_toArray, List.set_cons_zero, List.set_cons_succ]
      refine take_want 20 (some 7) (.int .i64 k) rfl rfl rfl (by kernel_rfl) (by kernel_rfl) (by kernel_rfl) (fun _ _ _ h => h) (fun wx hx => exec_assign rfl rfl) hS ?_
      simp only [Act.put, List.setIfInBounds_toArray, List.set_cons_zero, List.set_cons_succ]
      refine wpAnyH_done (by kernel_rfl) ?_ _
      clear hp3 hrc hq3 hq4 X1 CP CK hjp hc0 hp1 hp2 hp2a hp2b y0 y1 y2
      obtain ⟨w4, hw4⟩ : ∃ x, wr.drew = x := ⟨_, rfl⟩
      simp only [hw4] at hS ⊢
      clear hw4
      have HD4 := hide (HD.out.below hS)
      clear hS
      obtain ⟨y0, y1, y2⟩ := HD4.out.box.cells
      go_wp2_with fail
      clear y0 y1 y2
      refine (drop_ok HD4.out.hk HD4.out.hv HRT.out HKM.out).mono ?_
      rintro e w5 ⟨k5, v5, rfl, ht5, hb5⟩
      rw [zip_maps] at ht5
      rw [errV_zero]
      obtain ⟨l5, hl5⟩ : ∃ l5, dropS l k = l5 := ⟨_, rfl⟩
      have hr5 := ris_dropS HD.out.ris k
      have hn5 := drop_not (l := l) k
      have hd5 := HDL.out
      rw [hl5] at ht5 hr5 hn5 hd5
      clear hl5
      obtain ⟨aK5, c5, cK5, rfl, hc5⟩ := ht5.hk.form
      obtain ⟨aV5, nV5, cV5, rfl, -⟩ := ht5.hv.form
      have hc5l : c5 = l5.length := by rw [hc5.out]; simp
      have hcl := HCL.out
      have hc5c : (c5 : Int) = (c : Int) - 1 := by omega
      have hbY := bel_alloc w5 (.cells #[.int .i64 L, .slice aK5 c5 cK5, .slice aV5 nV5 cV5] 26)
      have HDY := hide (HD4.out.below (nextB hb5 hbY))
      have hbw4 : b < w4.heap.size := heap_lt HD4.out.box
      have HT5 := hide ((ht5.base (base' := b + 1) (by omega)).below hbY)
      have HYB := hide (BoxN.new 26 w5 L (.slice aK5 c5 cK5) (.slice aV5 nV5 cV5))
      have HR5 := hide hr5
      have HN5 := hide hn5
      have HC5 := hide hc5l
      have hb5s := hb5.size
      have hne5 : ¬ b = w5.heap.size := by omega
      obtain ⟨y0, y1, y2⟩ := HDY.out.box.cells
      obtain ⟨z0, z1, z2⟩ := HYB.out.cells
      have e1 : IntKind.i64.wrap ((c : Int) - 1) = (c : Int) - 1 := IntWalk.i64_in _ ⟨by omega, by omega⟩
      have e2 : ((c5 : Int) == (c : Int) - 1) = true := by simp; omega
      have e3 : ((c5 : Int) != (c : Int) - 1) = false := by simp; omega
      obtain ⟨b8, hb8⟩ : ∃ b8, w5.heap.size = b8 := ⟨_, rfl⟩
      have HB8 := hide hb8
      have HCC := hide hc5c
      clear ht5 hr5 hn5 hd5 hbY hb5 hb5s hcl hc5l hc5c hc5 hb8
      go_wp2_with fail
      clear y0 y1 y2 z0 z1 z2 e1 e2 e3
      obtain ⟨wY, hwY⟩ : ∃ x, w5.alloc (.cells #[.int .i64 L, .slice aK5 c5 cK5, .slice aV5 nV5 cV5] 26) = x := ⟨_, rfl⟩
      simp only [hwY, HB8.out] at HDY HT5 HYB ⊢
      clear hwY
      have hup5 : Up (l5.map Prod.fst) := HR5.out.up
      refine (find_any L HT5.out.ints.1 hup5 (by rw [List.length_map, ← HC5.out]; have := HCC.out; omega) k ⟨_, _, _, rfl⟩).mono ?_
      rintro e w6 ⟨⟨at_, ex, rfl, hfd⟩, hb6⟩
      obtain rfl := found_none HN5.out hfd
      have HB6 := hide hb6
      clear hfd hup5 hb6
      have HY6 := hide (HYB.out.below HB6.out)
      by_cases h5 : c5 = 0
      · have h50 : ¬ (0 : Int) < (c5 : Int) := by omega
        have HX6 := hide (HDY.out.below HB6.out)
        obtain ⟨z0, z1, z2⟩ := HY6.out.cells
        have d0 := row_cell HX6.out.box 0
        have d1 := row_cell HX6.out.box 1
        have d2 := row_cell HX6.out.box 2
        simp at d0 d1 d2
        have f0 := row_frozen HX6.out.box 0
        have f1 := row_frozen HX6.out.box 1
        have f2 := row_frozen HX6.out.box 2
        have e7 : IntKind.i64.wrap ((j : Int) + 1) = (j : Int) + 1 := IntWalk.i64_in _ ⟨by omega, by omega⟩
        clear h5
        go_wp2_with fail
        go_roundg m
        case measure => omega
        case rel =>
          have ht := (HT5.out.below HB6.out).stN (b := b) (by omega) L (.slice aK5 c5 cK5) (.slice aV5 nV5 cV5)
          exact ⟨j + 1, l5, _, _, by omega, by go_num, hide ⟨stN_at HX6.out.box _ _ _, ht.ints.1, ht.ints.2, HR5.out, stN_below HX6.out.bel (by omega) _ _ _⟩, hide (by have := HC5.out; have := HCC.out; have := HCL.out; have := HL.out; omega)⟩
      · have h50 : (0 : Int) < (c5 : Int) := by omega
        have HRT5 := hide (rt_of HR.out.lev HR5.out (by have := HC5.out; omega) (by have := HC5.out; have := HCC.out; omega))
        obtain ⟨z0, z1, z2⟩ := HY6.out.cells
        clear h5
        go_wp2_with fail
        clear z0 z1 z2
        refine (drop_miss (HT5.out.ints.1.below HB6.out) (HT5.out.ints.2.below HB6.out) HRT5.out HN5.out).mono ?_
        rintro e w7 ⟨k7, v7, rfl, ht7, hb7⟩
        obtain ⟨aK7, nK7, cK7, rfl, -⟩ := ht7.hk.form
        obtain ⟨aV7, nV7, cV7, rfl, -⟩ := ht7.hv.form
        have hb8 := nextB hb7 (bel_alloc w7 (.cells #[.int .i64 0, .slice aK7 nK7 cK7, .slice aV7 nV7 cV7] 26))
        have HB9 := hide (nextB HB6.out hb8)
        have HX9 := hide (HDY.out.below HB9.out)
        have HY9 := hide (HYB.out.below HB9.out)
        obtain ⟨z0, z1, z2⟩ := HY9.out.cells
        have d0 := row_cell HX9.out.box 0
        have d1 := row_cell HX9.out.box 1
        have d2 := row_cell HX9.out.box 2
        simp at d0 d1 d2
        have f0 := row_frozen HX9.out.box 0
        have f1 := row_frozen HX9.out.box 1
        have f2 := row_frozen HX9.out.box 2
        have e7 : IntKind.i64.wrap ((j : Int) + 1) = (j : Int) + 1 := IntWalk.i64_in _ ⟨by omega, by omega⟩
        clear ht7 hb7 hb8
        go_wp2_with (go_at_call 14; refine (is_any 81 81 _).mono ?_; rintro e w8 ⟨rfl, rfl⟩)
        go_roundg m
        case measure => omega
        case rel =>
          have ht := (HT5.out.below HB9.out).stN (b := b) (by omega) L (.slice aK5 c5 cK5) (.slice aV5 nV5 cV5)
          exact ⟨j + 1, l5, _, _, by omega, by go_num, hide ⟨stN_at HX9.out.box _ _ _, ht.ints.1, ht.ints.2, HR5.out, stN_below HX9.out.bel (by omega) _ _ _⟩, hide (by have := HC5.out; have := HCC.out; have := HCL.out; have := HL.out; omega)⟩
end Go.Proofs.Ytcidadikmmdalaa
