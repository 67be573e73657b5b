/- DiskPlays walked. -/
import Derived.Test.YtphmhepbilhkjaaPTake
namespace Go.Proofs.Ytphmhepbilhkjaa
open Go.RowKit Go.Extern

set_option maxRecDepth 100000 in
set_option maxHeartbeats 8000000 in
theorem playsL_any (w : World) (n : Int) (v : Value) (l : List OpR) (_ : I64 n) (hv : Script w v l) : Calls Try.prog 3 #[.int .i64 n, v] w fun e w' => e = .returned (.bool true) ∧ Below w.heap.size w w' := by
  obtain ⟨ao, cap, gl, ol, rfl, h2, h3⟩ := hv
  have H2 := hide h2
  have H3 := hide h3
  clear h2 h3
  have HN := hide (new_any w n)
  go_enter Try.func3, Try.ntmps3
  go_wp2_with fail
  refine HN.out.mono ?_
  rintro e w1 ⟨hb1, hif⟩
  have HX := hide (rnew_any w1 n)
  cases hnb : newB n with
  | false =>
    rw [hnb] at hif
    simp only [Bool.false_eq_true, if_false] at hif
    subst hif
    rw [errV_20]
    have HIS := hide (fun w => is_same 20 w)
    rw [errV_20] at HIS
    have HB1 := hide hb1
    clear HN hb1
    go_wp2_with fail
    refine HX.out.mono ?_
    rintro e w2 ⟨hb2, hif⟩
    rw [hnb] at hif
    simp only [Bool.false_eq_true, if_false] at hif
    subst hif
    have HA := hide (awake_any w2)
    have HB2 : Hid (Below w.heap.size w w2) := HB1.out.trans (hb2.mono HB1.out.size)
    clear hb2 hnb HX
    go_wp2_with (first | (go_at_call 11; refine (HIS.out _).mono ?_; rintro e w' ⟨rfl, hww⟩; subst hww) | (go_at_call 12; refine HA.out.mono ?_; rintro e w' ⟨rfl, hb⟩; have HBB := hide (HB2.out.trans (hb.mono HB2.out.size)); clear hb))
    go_ret
    exact ⟨rfl, HBB.out⟩
  | true =>
    rw [hnb] at hif
    simp only [if_true] at hif
    obtain ⟨bd, F, rfl, hdk, hF⟩ := hif
    rw [errV_zero]
    clear HN
    go_wp2_with fail
    refine HX.out.mono ?_
    rintro e w2 ⟨hb2, hif⟩
    rw [hnb] at hif
    simp only [if_true] at hif
    obtain ⟨bx, G, rfl, hrk, hG⟩ := hif
    have HP0 : Hid (Pl none w w2 bd bx (fresh n.toNat) (fresh n.toNat)) := by
      have z1 := hb1.size
      have z2 := hb2.size
      refine ⟨F, G, hdk.below hb2, hrk, fun k hk => ?_, fun k hk => ?_, fun k hk hx => ?_, hb1.trans (hb2.mono z1), ?_⟩
      · have := hF k hk; omega
      · have := hG k hk; omega
      · have h1 := hF k hk; have h2 := hG k hx; omega
      · intro _ _ h; cases h
    have HBW : Hid (Below w.heap.size w w2) := HP0.out.bel
    clear hb1 hb2 hdk hrk hF hG HX hnb
    by_cases hlen : (64 : Int) < n ∨ (150 : Int) < (l.length : Int)
    · have HA := hide (awake_any w2)
      have hdd : decide ((64 : Int) < n) = true ∨ (decide ((64 : Int) < n) = false ∧ decide ((150 : Int) < (l.length : Int)) = true) := by
        by_cases h0 : (64 : Int) < n
        · exact .inl (by simpa using h0)
        · exact .inr ⟨by simpa using h0, by simp; omega⟩
      clear hlen
      rcases hdd with hd1 | ⟨hd1, hd2⟩
      all_goals
        go_wp2_with (go_at_call 12; refine HA.out.mono ?_; rintro e w' ⟨rfl, hb⟩; have HBB := hide (HBW.out.trans (hb.mono HBW.out.size)); clear hb)
        go_ret
        exact ⟨rfl, HBB.out⟩
    · have hd1 : decide ((64 : Int) < n) = false := by simp; omega
      have hd2 : decide ((150 : Int) < (l.length : Int)) = false := by simp; omega
      have HL : Hid (l.length ≤ 150) := by show _ ≤ _; omega
      clear hlen HBW
      go_wp2_with fail
      go_loopg [8, 56] l.length (fun gk gr i wr => ∃ j q S, j + gk = l.length ∧ i = .int .i64 (j : Int) ∧ gr = .int .i64 ((q : Nat) : Int) ∧ q ≤ 100 * j ∧ Pl none w wr bd bx S S ∧ Wl S j)
      case atStart => exact ⟨0, 0, _, by omega, rfl, rfl, by omega, HP0.out, fun s hs => by rw [fresh_wait s hs]; exact Nat.zero_le _⟩
      case round =>
        clear HP0
        obtain ⟨j, q, S, hj, rfl, rfl, hq, hpl, hwl⟩ := hrel
        have HPL := hide hpl
        have HWL := hide hwl
        have HQ := hide hq
        clear hpl hwl hq
        cases gk with
        | succ m =>
          have hjl : j < l.length := by omega
          have hlt : (j : Int) < (l.length : Int) := by omega
          have hb0 : (0 : Int) ≤ (j : Int) := by omega
          obtain ⟨o, ho⟩ : ∃ o, l[j]? = some o := ⟨l[j], by simp [hjl]⟩
          obtain rfl := H2.out (by omega)
          have hop0 := H3.out j o ho
          have hop := hop0.below HPL.out.bel
          obtain ⟨kind, oi, on, dv, d, opv, ops⟩ := o
          have q0 : wr.cell? ⟨gl, ol + j * 5, none⟩ = some (.int .i64 kind) := hop.c0
          have q1 : wr.cell? ⟨gl, ol + j * 5 + 1, none⟩ = some (.int .i64 oi) := hop.c1
          have q2 : wr.cell? ⟨gl, ol + j * 5 + 2, none⟩ = some (.int .i64 on) := hop.c2
          have q3 : wr.cell? ⟨gl, ol + j * 5 + 3, none⟩ = some dv := hop.c3
          have q4 : wr.cell? ⟨gl, ol + j * 5 + 4, none⟩ = some opv := hop.c4
          have HDW : Hid (Bytes w dv d) := hop0.hd
          have HPW : Hid (Ints w opv ops) := hop0.hp
          have HII : Hid (I64 oi) := hop.hi
          have hgl := cell_lt q0
          have hjj : (j : Int) + 1 < 152 := by have := HL.out; omega
          have hqb : (q : Int) ≤ 15000 := by have := HL.out; have := HQ.out; omega
          obtain ⟨aod, capd, gd, offd, hdv, -⟩ := hop.hd
          obtain ⟨aop, capp, gp, offp, hpv, -⟩ := hop.hp
          have hdv' : dv = .slice aod d.length capd := hdv
          have hpv' : opv = .slice aop ops.length capp := hpv
          clear hdv hpv
          subst hdv' hpv'
          obtain ⟨dn, hdn⟩ : ∃ dn, d.length = dn := ⟨_, rfl⟩
          obtain ⟨pn, hpn⟩ : ∃ pn, ops.length = pn := ⟨_, rfl⟩
          rw [hdn] at q3 HDW
          rw [hpn] at q4 HPW
          have HDN := hide hdn
          have HPN := hide hpn
          clear hop hop0 ho hdn hpn
          go_upto_region 13 with fail
          go_cut [8, 56, 67] (fun g8 i56 s67 wc => g8 = .int .i64 ((q : Nat) : Int) ∧ i56 = .int .i64 (j : Int) ∧ wc = wr.alloc (.cells #[.int .i64 kind, .int .i64 oi, .int .i64 on, .slice aod dn capd, .slice aop pn capp] 35) ∧ ∃ c : Bool, s67 = .bool c ∧ (c = true → 0 < on))
          case first =>
            by_cases hk : kind = 4
            · have b4 : (kind == 4) = true := by simpa using hk
              clear hk
              by_cases hon : 0 < on
              · go_wp2_with fail
                go_meet
                exact ⟨rfl, rfl, rfl, _, rfl, fun _ => hon⟩
              · have hon' : decide ((0 : Int) < on) = false := by simpa using hon
                go_wp2_with fail
                go_meet
                exact ⟨rfl, rfl, rfl, _, rfl, fun h => by cases h⟩
            · have b4 : (kind == 4) = false := by simpa using hk
              go_wp2_with fail
              go_meet
              exact ⟨rfl, rfl, rfl, _, rfl, fun h => by cases h⟩
          case rest =>
            obtain ⟨rfl, rfl, rfl, c, rfl, hc⟩ := hcut
            go_upto_if 67 with fail
            go_cut [8, 56] (fun g8 i56 wc => i56 = .int .i64 (j : Int) ∧ wc = wr.alloc (.cells #[.int .i64 kind, .int .i64 oi, .int .i64 on, .slice aod dn capd, .slice aop pn capp] 35) ∧ ∃ q' : Nat, g8 = .int .i64 (q' : Int) ∧ q' ≤ 100 * (j + 1))
            case first =>
              cases c with
              | false =>
                go_wp2_with fail
                go_meet
                exact ⟨rfl, rfl, q, rfl, by have := HQ.out; omega⟩
              | true =>
                have hon := hc rfl
                obtain ⟨mm, hmm, hm1⟩ : ∃ mm : Nat, min on 100 = (mm : Int) ∧ mm ≤ 100 := ⟨(min on 100).toNat, by omega, by omega⟩
                have hmb : (mm : Int) ≤ 100 := by omega
                clear hc
                go_wp2_with fail
                go_meet
                exact ⟨rfl, rfl, q + mm, by go_num, by have := HQ.out; omega⟩
            case rest =>
              clear hc hqb HQ
              obtain ⟨rfl, rfl, q', rfl, hq'⟩ := hcut
              have HQ := hide hq'
              have hqb : (q' : Int) ≤ 15100 := by have := HL.out; omega
              clear hq'
              go_upto_region 15 with fail
              go_cut [8, 56, 96] (fun g8 i56 s96 wc => g8 = .int .i64 (q' : Int) ∧ i56 = .int .i64 (j : Int) ∧ wc = wr.alloc (.cells #[.int .i64 kind, .int .i64 oi, .int .i64 on, .slice aod dn capd, .slice aop pn capp] 35) ∧ ∃ c : Bool, s96 = .bool c ∧ (c = false → dn ≤ 1000 ∧ pn ≤ 1000))
              case first =>
                by_cases hD : (1000 : Int) < (dn : Int)
                · have bD : decide ((1000 : Int) < (dn : Int)) = true := by simpa using hD
                  clear hD
                  go_wp2_with fail
                  go_meet
                  exact ⟨rfl, rfl, rfl, _, rfl, fun h => by cases h⟩
                have bD : decide ((1000 : Int) < (dn : Int)) = false := by simpa using hD
                by_cases hP : (1000 : Int) < (pn : Int)
                · have bP : decide ((1000 : Int) < (pn : Int)) = true := by simpa using hP
                  clear hD hP
                  go_wp2_with fail
                  go_meet
                  exact ⟨rfl, rfl, rfl, _, rfl, fun h => by cases h⟩
                have bP : decide ((1000 : Int) < (pn : Int)) = false := by simpa using hP
                have HDP : Hid (dn ≤ 1000 ∧ pn ≤ 1000) := ⟨by omega, by omega⟩
                clear hD hP
                by_cases hQ : (100 : Int) < (q' : Int)
                · have bQ : decide ((100 : Int) < (q' : Int)) = true := by simpa using hQ
                  clear hQ
                  by_cases hk : kind = 4
                  · have b4 : (kind == 4) = true := by simpa using hk
                    clear hk
                    by_cases hN : on < 4096
                    · have bN : decide (on < (4096 : Int)) = true := by simpa using hN
                      clear hN
                      go_wp2_with fail
                      go_meet
                      exact ⟨rfl, rfl, rfl, _, rfl, fun _ => HDP.out⟩
                    · have bN : decide (on < (4096 : Int)) = false := by simpa using hN
                      clear hN
                      go_wp2_with fail
                      go_meet
                      exact ⟨rfl, rfl, rfl, _, rfl, fun _ => HDP.out⟩
                  · have b4 : (kind == 4) = false := by simpa using hk
                    clear hk
                    go_wp2_with fail
                    go_meet
                    exact ⟨rfl, rfl, rfl, _, rfl, fun _ => HDP.out⟩
                · have bQ : decide ((100 : Int) < (q' : Int)) = false := by simpa using hQ
                  clear hQ
                  go_wp2_with fail
                  go_meet
                  exact ⟨rfl, rfl, rfl, _, rfl, fun _ => HDP.out⟩
              case rest =>
                obtain ⟨rfl, rfl, rfl, c, rfl, hcc⟩ := hcut
                have HAL : Hid (Below wr.heap.size wr (wr.alloc (.cells #[.int .i64 kind, .int .i64 oi, .int .i64 on, .slice aod dn capd, .slice aop pn capp] 35))) := (Below.refl _ _).alloc (Nat.le_refl _) _
                cases c with
                | true =>
                  have HA := hide (awake_any (wr.alloc (.cells #[.int .i64 kind, .int .i64 oi, .int .i64 on, .slice aod dn capd, .slice aop pn capp] 35)))
                  have HBW : Hid (Below w.heap.size w (wr.alloc (.cells #[.int .i64 kind, .int .i64 oi, .int .i64 on, .slice aod dn capd, .slice aop pn capp] 35))) := HPL.out.bel.trans (HAL.out.mono HPL.out.bel.size)
                  clear hcc
                  go_wp2_with (go_at_call 12; refine HA.out.mono ?_; rintro e w' ⟨rfl, hb⟩; have HBB := hide (HBW.out.trans (hb.mono HBW.out.size)); clear hb)
                  go_ret
                  exact ⟨rfl, HBB.out⟩
                | false =>
                  obtain ⟨hd1000, hp1000⟩ := hcc rfl
                  have HST : Hid (Calls Try.prog 13 #[.pointer (some ⟨bd, 0, none⟩), .pointer (some ⟨bx, 0, none⟩), .agg #[.int .i64 kind, .int .i64 oi, .int .i64 on, .slice aod dn capd, .slice aop pn capp]] (wr.alloc (.cells #[.int .i64 kind, .int .i64 oi, .int .i64 on, .slice aod dn capd, .slice aop pn capp] 35)) (Stepped (some (wr.heap.size, .cells (opC kind oi on aod dn capd aop pn capp) 35)) w bd bx j)) :=
                    step_any (HPL.out.new (.cells (opC kind oi on aod dn capd aop pn capp) 35) (heap_alloc_new wr _)) HWL.out (by have := HL.out; omega) kind oi on aod dn capd aop pn capp d HDW.out (by rw [HDN.out]; exact hd1000) ops HPW.out (by rw [HPN.out]; exact hp1000)
                  clear hcc hd1000 hp1000
                  go_wp2_with fail
                  refine HST.out.mono ?_
                  rintro e w3 ⟨rfl, S3, hp3, hw3⟩
                  obtain ⟨F3, G3, h3⟩ := hp3
                  have H3 := hide h3
                  have HW3 := hide hw3
                  have HSL : Hid (S3.length ≤ 4096) := h3.len
                  have HWW : Hid (∀ s ∈ S3, s.wait.length ≤ 1000000) := fun s hs => by have := hw3 s hs; have := HL.out; omega
                  have HRD := hide (read_any h3.d oi HII.out HWW.out)
                  obtain ⟨p1, -, -, -⟩ := opC_cells (h3.pb _ _ rfl).1
                  clear h3 hw3 HST
                  go_wp2_with fail
                  refine HRD.out.mono ?_
                  rintro e w4 ⟨ub, rfl, hub, hb4⟩
                  have h4 := H3.out.below hb4
                  have HRR := hide (rread_any h4.x oi HWW.out)
                  obtain ⟨p1', -, -, -⟩ := opC_cells (h4.pb _ _ rfl).1
                  obtain ⟨bn, hbn⟩ : ∃ bn, (rDat S3 oi).length = bn := ⟨_, rfl⟩
                  have HBN := hide hbn
                  obtain ⟨aob, capb, hubf⟩ := hub.form
                  rw [hbn] at hubf
                  subst hubf
                  have HUB := hide hub
                  have H4 := hide h4
                  generalize hev : errV (rErr S3 oi) = ev
                  have HEV := hide hev
                  clear h4 hub hb4 HRD p1 hbn hev
                  go_wp2_with fail
                  refine HRR.out.mono ?_
                  rintro e w5 ⟨uc, rfl, huc, hb5⟩
                  have h5 := H4.out.below hb5
                  have HB45 := hide hb5
                  obtain ⟨aoc, capc, gcc, offc, hucf, -⟩ := id huc
                  rw [HBN.out] at hucf
                  subst hucf
                  have HSM := hide (same_same (rDat S3 oi) (.slice aob bn capb) (.slice aoc bn capc) w5.drew ((HUB.out.bytes.below hb5).below (Below.refl _ _).drew) (huc.below (Below.refl _ _).drew))
                  have HIS : Hid (∀ w, Calls Try.prog 11 #[ev, .int .i64 (rErr S3 oi)] w fun e w' => e = .returned (.bool true) ∧ w' = w) := fun w => by rw [← HEV.out]; exact is_same (rErr S3 oi) w
                  obtain ⟨ec, hec⟩ : ∃ ec, rErr S3 oi = ec := ⟨_, rfl⟩
                  rw [hec] at HIS ⊢
                  obtain ⟨sn, hsn⟩ : ∃ sn, S3.length = sn := ⟨_, rfl⟩
                  have HSZ := hide (size_any (h5.below (Below.refl _ _).drew).d)
                  rw [hsn] at HSZ
                  have HPE := hide (pending_any (h5.below (Below.refl _ _).drew).d)
                  obtain ⟨vx, T, hat, hTS⟩ := h5.x
                  have hTl := RkAt.len hTS
                  rw [hsn] at hTl
                  obtain ⟨aox, capx, hvf⟩ := hat.form
                  rw [hTl] at hvf
                  subst hvf
                  have HCX := hide hat.cell
                  have H5 := hide h5
                  have HAT := hide hat
                  have HTS := hide hTS
                  have HSN := hide hsn
                  have HTL := hide hTl
                  clear huc hb5 h5 hat hTS hsn hTl hec HRR p1'
                  go_wp2_with fail
                  refine wp_region_held_drew (S := fun wx => wx.cell? ⟨bx, 0, none⟩ = some (.slice aox sn capx)) (by kernel_rfl) HCX.out (fun hS => ?_)
                  refine take_run 0 (some 117) ev rfl rfl rfl (by kernel_rfl) (by kernel_rfl) (by kernel_rfl) (fun _ _ _ h => h) (fun wx hx => exec_move rfl rfl) hS ?_
                  simp only [Act.put, List.setIfInBounds_toArray, List.set_cons_zero, List.set_cons_succ]
                  refine take_run 1 (some 118) (.int .i64 ec) rfl rfl rfl (by kernel_rfl) (by kernel_rfl) (by kernel_rfl) (fun _ _ _ h => h) (fun wx hx => exec_move rfl rfl) hS ?_
                  simp only [Act.put, List.setIfInBounds_toArray, List.set_cons_zero, List.set_cons_succ]
                  refine only_call 2 (some 119) rfl rfl rfl (by kernel_rfl) (exec_call2 rfl enterIs rfl rfl rfl) ((HIS.out w5.drew).mono ?_)
                  rintro e w' ⟨rfl, hww⟩
                  obtain rfl : w5.drew = w' := hww.symm
                  refine ⟨_, rfl, hS, ?_⟩
                  simp only [Act.put, List.setIfInBounds_toArray, List.set_cons_zero, List.set_cons_succ]
                  refine take_run 3 (some 120) (.bool false) rfl rfl rfl (by kernel_rfl) (by kernel_rfl) (by kernel_rfl) (fun _ _ _ h => h) (fun wx hx => exec_not (b := true) rfl rfl) hS ?_
                  simp only [Act.put, List.setIfInBounds_toArray, List.set_cons_zero, List.set_cons_succ]
                  refine take_run 4 (some 121) (.bool false) rfl rfl rfl (by kernel_rfl) (by kernel_rfl) (by kernel_rfl) (fun _ _ _ h => h) (fun wx hx => exec_move rfl rfl) hS ?_
                  simp only [Act.put, List.setIfInBounds_toArray, List.set_cons_zero, List.set_cons_succ]
                  refine take_want 5 (some 122) (.slice aob bn capb) rfl rfl rfl (by kernel_rfl) (by kernel_rfl) (by kernel_rfl) (fun _ _ _ h => h) (fun wx hx => exec_move rfl rfl) hS ?_
                  simp only [Act.put, List.setIfInBounds_toArray, List.set_cons_zero, List.set_cons_succ]
                  refine take_want 6 (some 123) (.slice aoc bn capc) rfl rfl rfl (by kernel_rfl) (by kernel_rfl) (by kernel_rfl) (fun _ _ _ h => h) (fun wx hx => exec_move rfl rfl) hS ?_
                  simp only [Act.put, List.setIfInBounds_toArray, List.set_cons_zero, List.set_cons_succ]
                  refine call_want 7 (some 124) rfl rfl rfl (by kernel_rfl) (exec_call2 rfl enterSame rfl rfl rfl) (HSM.out.mono ?_)
                  rintro e w' ⟨rfl, hww⟩
                  obtain rfl : w5.drew = w' := hww.symm
                  refine ⟨_, rfl, hS, ?_⟩
                  simp only [Act.put, List.setIfInBounds_toArray, List.set_cons_zero, List.set_cons_succ]
                  refine take_want 8 (some 125) (.bool false) rfl rfl rfl (by kernel_rfl) (by kernel_rfl) (by kernel_rfl) (fun _ _ _ h => h) (fun wx hx => exec_not (b := true) rfl rfl) hS ?_
                  simp only [Act.put, List.setIfInBounds_toArray, List.set_cons_zero, List.set_cons_succ]
                  refine take_run 9 (some 126) (.bool false) rfl rfl rfl (by kernel_rfl) (by kernel_rfl) (by kernel_rfl) (fun _ _ _ h => h) (fun wx hx => exec_pickF rfl rfl rfl) hS ?_
                  simp only [Act.put, List.setIfInBounds_toArray, List.set_cons_zero, List.set_cons_succ]
                  refine take_run 10 (some 127) (.bool false) rfl rfl rfl (by kernel_rfl) (by kernel_rfl) (by kernel_rfl) (fun _ _ _ h => h) (fun wx hx => exec_move rfl rfl) hS ?_
                  simp only [Act.put, List.setIfInBounds_toArray, List.set_cons_zero, List.set_cons_succ]
                  refine take_want 11 (some 128) (.pointer (some ⟨bd, 0, none⟩)) rfl rfl rfl (by kernel_rfl) (by kernel_rfl) (by kernel_rfl) (fun _ _ _ h => h) (fun wx hx => exec_move rfl rfl) hS ?_
                  simp only [Act.put, List.setIfInBounds_toArray, List.set_cons_zero, List.set_cons_succ]
                  refine take_want 13 (some 130) (.pointer (some ⟨bx, 0, none⟩)) rfl rfl rfl (by kernel_rfl) (by kernel_rfl) (by kernel_rfl) (fun _ _ _ h => h) (fun wx hx => exec_move rfl rfl) hS ?_
                  simp only [Act.put, List.setIfInBounds_toArray, List.set_cons_zero, List.set_cons_succ]
                  refine take_want 14 (some 131) (.pointer (some ⟨bx, 0, none⟩)) rfl rfl rfl (by kernel_rfl) (by kernel_rfl) (by kernel_rfl) (fun _ _ _ h => h) (fun wx hx => exec_nilCheck rfl rfl) hS ?_
                  simp only [Act.put, List.setIfInBounds_toArray, List.set_cons_zero, List.set_cons_succ]
                  refine take_want 15 (some 132) (.pointer (some ⟨bx, 0, none⟩)) rfl rfl rfl (by kernel_rfl) (by kernel_rfl) (by kernel_rfl) (fun _ _ _ h => h) (fun wx hx => exec_field rfl (rfield0 bx wx) rfl) hS ?_
                  simp only [Act.put, List.setIfInBounds_toArray, List.set_cons_zero, List.set_cons_succ]
                  refine take_want 16 (some 133) (.slice aox sn capx) rfl rfl rfl (by kernel_rfl) (by kernel_rfl) (by kernel_rfl) (fun _ _ _ h => h) (fun wx hx => exec_load rfl (load_rsectors hx) rfl) hS ?_
                  simp only [Act.put, List.setIfInBounds_toArray, List.set_cons_zero, List.set_cons_succ]
                  refine take_want 17 (some 134) (.int .i64 (sn : Int)) rfl rfl rfl (by kernel_rfl) (by kernel_rfl) (by kernel_rfl) (fun _ _ _ h => h) (fun wx hx => exec_len rfl (len_rsecs wx _ _ _) rfl) hS ?_
                  simp only [Act.put, List.setIfInBounds_toArray, List.set_cons_zero, List.set_cons_succ]
                  refine call_want 12 (some 129) rfl rfl rfl (by kernel_rfl) (exec_call1 rfl enterSize rfl rfl) (HSZ.out.mono ?_)
                  rintro e w' ⟨rfl, hww⟩
                  obtain rfl : w5.drew = w' := hww.symm
                  refine ⟨_, rfl, hS, ?_⟩
                  simp only [Act.put, List.setIfInBounds_toArray, List.set_cons_zero, List.set_cons_succ]
                  refine take_want 18 (some 135) (.bool false) rfl rfl rfl (by kernel_rfl) (by kernel_rfl) (by kernel_rfl) (fun _ _ _ h => h) (fun wx hx => exec_neqN rfl rfl rfl) hS ?_
                  simp only [Act.put, List.setIfInBounds_toArray, List.set_cons_zero, List.set_cons_succ]
                  refine take_run 19 (some 136) (.bool false) rfl rfl rfl (by kernel_rfl) (by kernel_rfl) (by kernel_rfl) (fun _ _ _ h => h) (fun wx hx => exec_pickF rfl rfl rfl) hS ?_
                  simp only [Act.put, List.setIfInBounds_toArray, List.set_cons_zero, List.set_cons_succ]
                  refine take_run 20 (some 137) (.bool false) rfl rfl rfl (by kernel_rfl) (by kernel_rfl) (by kernel_rfl) (fun _ _ _ h => h) (fun wx hx => exec_move rfl rfl) hS ?_
                  simp only [Act.put, List.setIfInBounds_toArray, List.set_cons_zero, List.set_cons_succ]
                  refine take_want 21 (some 138) (.pointer (some ⟨bd, 0, none⟩)) rfl rfl rfl (by kernel_rfl) (by kernel_rfl) (by kernel_rfl) (fun _ _ _ h => h) (fun wx hx => exec_move rfl rfl) hS ?_
                  simp only [Act.put, List.setIfInBounds_toArray, List.set_cons_zero, List.set_cons_succ]
                  refine take_want 23 (some 140) (.pointer (some ⟨bx, 0, none⟩)) rfl rfl rfl (by kernel_rfl) (by kernel_rfl) (by kernel_rfl) (fun _ _ _ h => h) (fun wx hx => exec_move rfl rfl) hS ?_
                  simp only [Act.put, List.setIfInBounds_toArray, List.set_cons_zero, List.set_cons_succ]
                  refine call_want 22 (some 139) rfl rfl rfl (by kernel_rfl) (exec_call1 rfl enterPending rfl rfl) (HPE.out.mono ?_)
                  rintro e w6 ⟨v6, rfl, hrow6, hb6⟩
                  have hS6 : w6.cell? ⟨bx, 0, none⟩ = some (.slice aox sn capx) := by rw [hb6.cell (cell_lt hS)]; exact hS
                  refine ⟨_, rfl, hS6, ?_⟩
                  simp only [Act.put, List.setIfInBounds_toArray, List.set_cons_zero, List.set_cons_succ]
                  have h6 := (H5.out.below (Below.refl _ _).drew).below hb6
                  refine call_want 24 (some 141) rfl rfl rfl (by kernel_rfl) (exec_call1 rfl enterRPending rfl rfl) ((rpending_any h6.x HSL.out HWW.out).mono ?_)
                  rintro e w7 ⟨v7, rfl, hrow7, hb7⟩
                  have hS7 : w7.cell? ⟨bx, 0, none⟩ = some (.slice aox sn capx) := by rw [hb7.cell (cell_lt hS6)]; exact hS6
                  refine ⟨_, rfl, hS7, ?_⟩
                  simp only [Act.put, List.setIfInBounds_toArray, List.set_cons_zero, List.set_cons_succ]
                  have h7 := h6.below hb7
                  refine call_want 25 (some 142) rfl rfl rfl (by kernel_rfl) (exec_call2 rfl enterInts rfl rfl rfl) ((ints_same w7 v6 v7 (pendI S3) ((pend_ints hrow6 HSL.out).below hb7) (pend_ints hrow7 HSL.out) (by rw [pendI_length]; have := pend_length S3; have := HSL.out; omega)).mono ?_)
                  rintro e w8 ⟨rfl, hb8⟩
                  have hS8 : w8.cell? ⟨bx, 0, none⟩ = some (.slice aox sn capx) := by rw [hb8.cell (cell_lt hS7)]; exact hS7
                  refine ⟨_, rfl, hS8, ?_⟩
                  simp only [Act.put, List.setIfInBounds_toArray, List.set_cons_zero, List.set_cons_succ]
                  refine take_want 26 (some 143) (.bool false) rfl rfl rfl (by kernel_rfl) (by kernel_rfl) (by kernel_rfl) (fun _ _ _ h => h) (fun wx hx => exec_not (b := true) rfl rfl) hS8 ?_
                  simp only [Act.put, List.setIfInBounds_toArray, List.set_cons_zero, List.set_cons_succ]
                  refine take_run 27 (some 144) (.bool false) rfl rfl rfl (by kernel_rfl) (by kernel_rfl) (by kernel_rfl) (fun _ _ _ h => h) (fun wx hx => exec_pickF rfl rfl rfl) hS8 ?_
                  simp only [Act.put, List.setIfInBounds_toArray, List.set_cons_zero, List.set_cons_succ]
                  refine wpAnyH_done (by kernel_rfl) ?_ _
                  have h8 := h7.below hb8
                  have hb58 : Below w5.heap.size w5 w8 := (((Below.refl w5.heap.size w5).drew.trans (hb6.mono (Nat.le_refl _))).trans (hb7.mono hb6.size)).trans (hb8.mono (Nat.le_trans hb6.size hb7.size))
                  have H8 := hide h8
                  have HB58 := hide hb58
                  have HAT8 := hide (HAT.out.below hb58)
                  have HHA := hide (rhas_any h8.x oi)
                  have HWT := hide (waiting_any h8.d HII.out)
                  obtain ⟨p1, -, -, -⟩ := opC_cells (h8.pb _ _ rfl).1
                  have HBL : Hid (bn ≤ 128) := by
                    show _ ≤ _
                    have hg := h8.d.good
                    rw [← HBN.out]
                    unfold rDat
                    cases hh : hasB S3 oi with
                    | false => simp
                    | true =>
                      obtain ⟨k, s, rfl, hs⟩ := hasB_at hh
                      simp only [if_true, Int.toNat_natCast, hs]
                      split
                      · simp
                      · exact Nat.le_of_eq (s.top_con (hg.2 s (List.mem_of_getElem? hs))).1
                  clear h6 h7 h8 hb6 hb7 hb8 hb58 hrow6 hrow7 hS hS6 hS7 hS8 HSM HIS HSZ HPE
                  cases hh : hasB S3 oi with
                  | false =>
                    rw [hh] at HHA
                    rw [wt_out (by simpa [hasB] using hh)] at HWT
                    simp only [List.length_nil] at HWT
                    clear hh
                    have hov := Over.start (((HUB.out.below HB45.out).below HB58.out))
                    rw [HBN.out] at hov
                    have HOV := hide hov
                    clear hov
                    obtain ⟨wo, hwo⟩ : ∃ wo, wo = wr := ⟨_, rfl⟩
                    subst hwo
                    go_wp2_with (first | (go_at_call 21; refine HHA.out.mono ?_; rintro e w' ⟨rfl, hww⟩; obtain rfl : w8 = w' := hww.symm) | (go_at_call 22; refine HWT.out.mono ?_; rintro e w' ⟨rfl, hww⟩; obtain rfl : w8 = w' := hww.symm))
                    go_loopg [168] bn (fun gk y wz => ∃ k, k + gk = bn ∧ y = .int .i64 (k : Int) ∧ Over w8 wz (.slice aob bn capb) bn)
                    case atStart => exact ⟨0, by omega, rfl, HOV.out⟩
                    case round =>
                      obtain ⟨k, hk, rfl, hov⟩ := hrel
                      cases gk with
                      | zero =>
                        have hend : ¬ (k : Int) < (bn : Int) := by omega
                        have HEND : Hid (Pl none w wr bd bx S3 S3) := by
                          have ht9 : Turn (fun k => (Value.slice aob bn capb).ownBlock = some k) w8 wr := Turn.of_grown hov.2 (fun k hk => hk)
                          refine ⟨_, _, ((H8.out).guard (Z' := none) (fun _ _ h => by cases h)).turn ht9 (fun k hf hv => ?_) (fun k hg hv => ?_) (fun k hv => ?_) (fun _ _ h => by cases h)⟩
                          · have := (HUB.out.lt k hv).1; have := (H3.out.fb k hf).2; omega
                          · have := (HUB.out.lt k hv).1; have := (H3.out.gb k hg).2; omega
                          · have := (HUB.out.lt k hv).1; have := H3.out.bel.size; omega
                        clear hov hk
                        go_wp2_with fail
                        go_roundg m
                        case measure => omega
                        case rel => exact ⟨j + 1, q', S3, by omega, by go_num, rfl, HQ.out, HEND.out, HW3.out⟩
                      | succ mi =>
                        have hlt2 : (k : Int) < (bn : Int) := by omega
                        have hk0 : (0 : Int) ≤ (k : Int) := by omega
                        have hkl : k < bn := by omega
                        have hkk : (k : Int) + 1 < 130 := by have := HBL.out; omega
                        obtain ⟨gb, rfl⟩ := hov.form (by omega)
                        obtain ⟨x, -, cx, fx, hset⟩ := hov.at_ hkl
                        have HNX := hide (hset 9 (by decide))
                        clear hov hset
                        go_wp2_with fail
                        go_roundg mi
                        case measure => omega
                        case rel => exact ⟨k + 1, by omega, by go_num, HNX.out⟩
                  | true =>
                    rw [hh] at HHA
                    obtain ⟨ki, s, rfl, hs⟩ := hasB_at hh
                    have HWT2 := hide (waiting_any (H8.out.below (Below.refl _ _).drew).d HII.out)
                    rw [wt_at hs] at HWT2
                    obtain ⟨u, hu⟩ := RkAt.get HTS.out hs
                    obtain ⟨g, rfl, -, c1, -, -⟩ := HAT8.out.at_ hu
                    obtain ⟨aou, capu, huf⟩ := (HAT8.out.val ki _ hu).form
                    simp only at huf
                    subst huf
                    obtain ⟨wl, hwl⟩ : ∃ wl, s.wait.length = wl := ⟨_, rfl⟩
                    simp only [List.length_cons, hwl] at c1 HWT2
                    have hki : (ki : Int) < (sn : Int) := by have := (List.getElem?_eq_some_iff.1 hs).1; have := HSN.out; omega
                    have hki0 : (0 : Int) ≤ (ki : Int) := by omega
                    have hwb : (wl : Int) ≤ 1000000 := by have := HWW.out s (List.mem_of_getElem? hs); omega
                    have hwl0 : (0 : Int) ≤ (wl : Int) := by omega
                    have c8 := HAT8.out.cell
                    have hne : ((wl : Int) != (wl : Int)) = false := by simp
                    clear hh hs hu hwl HWT
                    have hov := Over.start (((HUB.out.below HB45.out).below HB58.out).below (Below.refl _ _).drew)
                    rw [HBN.out] at hov
                    have HOV := hide hov
                    clear hov
                    obtain ⟨wo, hwo⟩ : ∃ wo, wo = wr := ⟨_, rfl⟩
                    subst hwo
                    go_wp2_with (go_at_call 21; refine HHA.out.mono ?_; rintro e w' ⟨rfl, hww⟩; obtain rfl : w8 = w' := hww.symm)
                    go_region
                    go_wp2_with (go_at_call 22; refine HWT2.out.mono ?_; rintro e w' ⟨rfl, hww⟩; obtain rfl : w8.drew = w' := hww.symm)
                    go_loopg [168] bn (fun gk y wz => ∃ k, k + gk = bn ∧ y = .int .i64 (k : Int) ∧ Over w8.drew wz (.slice aob bn capb) bn)
                    case atStart => exact ⟨0, by omega, rfl, HOV.out⟩
                    case round =>
                      obtain ⟨k, hk, rfl, hov⟩ := hrel
                      cases gk with
                      | zero =>
                        have hend : ¬ (k : Int) < (bn : Int) := by omega
                        have HEND : Hid (Pl none w wr bd bx S3 S3) := by
                          have ht9 : Turn (fun k => (Value.slice aob bn capb).ownBlock = some k) w8.drew wr := Turn.of_grown hov.2 (fun k hk => hk)
                          refine ⟨_, _, ((H8.out.below (Below.refl _ _).drew).guard (Z' := none) (fun _ _ h => by cases h)).turn ht9 (fun k hf hv => ?_) (fun k hg hv => ?_) (fun k hv => ?_) (fun _ _ h => by cases h)⟩
                          · have := (HUB.out.lt k hv).1; have := (H3.out.fb k hf).2; omega
                          · have := (HUB.out.lt k hv).1; have := (H3.out.gb k hg).2; omega
                          · have := (HUB.out.lt k hv).1; have := H3.out.bel.size; omega
                        clear hov hk
                        go_wp2_with fail
                        go_roundg m
                        case measure => omega
                        case rel => exact ⟨j + 1, q', S3, by omega, by go_num, rfl, HQ.out, HEND.out, HW3.out⟩
                      | succ mi =>
                        have hlt2 : (k : Int) < (bn : Int) := by omega
                        have hk0 : (0 : Int) ≤ (k : Int) := by omega
                        have hkl : k < bn := by omega
                        have hkk : (k : Int) + 1 < 130 := by have := HBL.out; omega
                        obtain ⟨gb, rfl⟩ := hov.form (by omega)
                        obtain ⟨x, -, cx, fx, hset⟩ := hov.at_ hkl
                        have HNX := hide (hset 9 (by decide))
                        clear hov hset
                        go_wp2_with fail
                        go_roundg mi
                        case measure => omega
                        case rel => exact ⟨k + 1, by omega, by go_num, HNX.out⟩
        | zero =>
          have hend : ¬ (j : Int) < (l.length : Int) := by omega
          obtain ⟨F, G, h⟩ := HPL.out
          obtain ⟨wo, hwo⟩ : ∃ wo, wo = wr := ⟨_, rfl⟩
          subst hwo
          have HWW : Hid (∀ s ∈ S, s.wait.length ≤ 1000000) := fun s hs => by have := HWL.out s hs; have := HL.out; omega
          obtain ⟨vx, T, hat, hTS⟩ := h.x
          obtain ⟨sn, hsn⟩ : ∃ sn, S.length = sn := ⟨_, rfl⟩
          have hTl := RkAt.len hTS
          rw [hsn] at hTl
          obtain ⟨aox, capx, hvf⟩ := hat.form
          rw [hTl] at hvf
          subst hvf
          have c0 := hat.cell
          have H := hide h
          have HSN := hide hsn
          have HSL := hide h.len
          clear h hat hTS hTl hsn hj
          go_wp2_with fail
          go_loopg [181] sn (fun gk y wz => ∃ k, k + gk = sn ∧ y = .int .i64 (k : Int) ∧ Below wo.heap.size wo wz)
          case atStart => exact ⟨0, by omega, rfl, Below.refl _ _⟩
          case round =>
            obtain ⟨k, hk, rfl, hbz⟩ := hrel
            have hz := H.out.below hbz
            have HBZ := hide hbz
            have HBW := hide hz.bel
            cases gk with
            | zero =>
              have hend2 : ¬ (k : Int) < (sn : Int) := by omega
              have HA := hide (awake_any wr)
              clear hz hbz hk
              go_wp2_with (go_at_call 12; refine HA.out.mono ?_; rintro e w' ⟨rfl, hb⟩; have HBB := hide (HBW.out.trans (hb.mono HBW.out.size)); clear hb)
              go_ret
              exact ⟨rfl, HBB.out⟩
            | succ mi =>
              have hlt : (k : Int) < (sn : Int) := by omega
              have hkk : (k : Int) + 1 < 4098 := by have := HSL.out; have := HSN.out; omega
              have hk64 : I64 (k : Int) := I64.nat (by have := HSL.out; have := HSN.out; omega)
              have HRD := hide (read_any hz.d (k : Int) hk64 HWW.out)
              have HZ := hide hz
              clear hz hbz hk64
              go_wp2_with fail
              refine HRD.out.mono ?_
              rintro e w4 ⟨ub, rfl, hub, hb4⟩
              have h4 := HZ.out.below hb4
              have HRR := hide (rread_any h4.x (k : Int) HWW.out)
              obtain ⟨aob, capb, rfl⟩ := hub.form
              have HUB := hide hub
              have HB4 := hide hb4
              generalize hev : errV (rErr S (k : Int)) = ev
              have HEV := hide hev
              clear h4 hub hb4 HRD hev
              go_wp2_with fail
              refine HRR.out.mono ?_
              rintro e w5 ⟨uc, rfl, huc, hb5⟩
              have HSM := hide (same_same (rDat S (k : Int)) _ _ w5 (HUB.out.bytes.below hb5) huc)
              obtain ⟨aoc, capc, gcc, offc, rfl, -⟩ := huc
              have HIS : Hid (∀ w, Calls Try.prog 11 #[ev, .int .i64 (rErr S (k : Int))] w fun e w' => e = .returned (.bool true) ∧ w' = w) := fun w => by rw [← HEV.out]; exact is_same (rErr S (k : Int)) w
              have HB5 : Hid (Below wo.heap.size wo w5) := HBZ.out.trans ((HB4.out.mono HBZ.out.size).trans (hb5.mono (Nat.le_trans HBZ.out.size HB4.out.size)))
              clear hb5 HRR
              go_wp2_with (first | (go_at_call 11; refine (HIS.out _).mono ?_; rintro e w' ⟨rfl, hww⟩; obtain rfl : w5 = w' := hww.symm) | (go_at_call 16; refine HSM.out.mono ?_; rintro e w' ⟨rfl, hww⟩; obtain rfl : w5 = w' := hww.symm))
              go_roundg mi
              case measure => omega
              case rel => exact ⟨k + 1, by omega, by go_num, HB5.out⟩
end Go.Proofs.Ytphmhepbilhkjaa
