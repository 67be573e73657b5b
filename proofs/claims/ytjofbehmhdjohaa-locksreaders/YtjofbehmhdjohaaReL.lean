/- The law LocksReaders. -/
import Derived.Test.YtjofbehmhdjohaaReF
namespace Go.Proofs.Ytjofbehmhdjohaa
open Go.RowKit Go.Extern

theorem I64.of_small {k : Int} (h0 : 0 ≤ k) (h1 : k < 1000000) : I64 k := by unfold I64; omega
theorem sOk_read {s : S} (h : sOk s) : sOk ⟨s.vol, s.frm, s.len, false⟩ := h
set_option maxRecDepth 100000 in
set_option maxHeartbeats 8000000 in
theorem readersL_any {w : World} {v0 v1 : Value} {l0 l1 : List S} (hl0 : Sps w anyZ v0 l0) (hl1 : Sps w anyZ v1 l1) :
    Calls Try.prog 8 #[v0, v1] w fun e w' => e = .returned (.bool true) ∧ Below w.heap.size w w' := by
  have OK0 := hide hl0.ok
  have OK1 := hide hl1.ok
  obtain ⟨ao, cap, g, off, rfl, h2, h3, -, h5, -⟩ := hl0
  obtain ⟨ao1, cap1, g1, off1, rfl, h21, h31, -, h51, -⟩ := hl1
  have H2 := hide h2
  have H3 := hide h3
  have H21 := hide h21
  have H31 := hide h31
  obtain ⟨n, hn⟩ : ∃ n, l0.length = n := ⟨_, rfl⟩
  obtain ⟨n1, hn1⟩ : ∃ n, l1.length = n := ⟨_, rfl⟩
  rw [hn] at h5 ⊢
  rw [hn1] at h51 ⊢
  have HN := hide hn
  have HN1 := hide hn1
  clear h2 h3 h21 h31 hn hn1
  go_enter Try.func8, Try.ntmps8
  go_wp2_with fail
  refine (St.new w).mono ?_
  rintro e w1 ⟨b, rfl, hs⟩
  have HS := hide hs
  clear hs
  by_cases big : 60 < n ∨ 60 < n1
  · clear H2 H3 H21 H31 OK0 OK1
    by_cases hm : (n : Int) < (n1 : Int)
    · have hg : (60 : Int) < (n1 : Int) := by omega
      clear big
      go_wp2_with (go_at_call 11; refine (awake_any _).mono ?_; rintro e w2 ⟨rfl, hb⟩; have HBE := hide (nextB HS.out.bel hb); clear hb)
      go_ret
      exact ⟨rfl, HBE.out⟩
    · have hg : (60 : Int) < (n : Int) := by omega
      clear big
      go_wp2_with (go_at_call 11; refine (awake_any _).mono ?_; rintro e w2 ⟨rfl, hb⟩; have HBE := hide (nextB HS.out.bel hb); clear hb)
      go_ret
      exact ⟨rfl, HBE.out⟩
  have HBIG := hide big
  clear big
  by_cases hm : (n : Int) < (n1 : Int)
  · have hg : ¬ (60 : Int) < (n1 : Int) := by have := HBIG.out; omega
    go_wp2_with fail
    clear hm hg
    go_loopg [37, 6] n (fun t v37 v6 wr => ∃ (j : Nat) (E : List En) (c : Nat), j + t = n ∧ v37 = .int .i64 (j : Int) ∧ v6 = .int .i64 (c : Int) ∧ c ≤ j ∧ Hid (Rds E c) ∧ Hid (St w noK b E (c : Int) wr))
    case atStart => exact ⟨0, [], 0, by omega, rfl, rfl, Nat.le_refl _, hide Rds.nil, HS⟩
    case round =>
      clear HS
      obtain ⟨j, E, c, hj, rfl, rfl, hcj, HR, HS⟩ := hrel
      cases gk with
      | zero =>
        have hnl : ¬ (j : Int) < (n : Int) := by omega
        have HC60 := hide (show c ≤ 60 by have := HBIG.out; omega)
        go_wp2_with fail
        refine (HS.out.add1 (s := ⟨0, 0, 0, true⟩) (sOk_small (by omega) (by omega) (by omega)) (by decide) (by have := HC60.out; omega)).mono ?_
        rintro e w2 ⟨wx, rfl, xn, xs, hs2, -⟩
        have HS2 := hide hs2
        have HAW : Hid (AllW wx) := hide xs
        have HXN := hide xn
        clear hs2 xn xs HS
        go_wp2_with fail
        obtain ⟨F, htb⟩ := HS2.out.tb
        refine (ahead_any htb ((c : Int) + 1)).mono ?_
        rintro e w3 ⟨v, l, rfl, ho, hor, hb3⟩
        have hl : l = E.map En.num := by
          rcases hor with ⟨q, y, hy, hyn, rfl⟩ | ⟨hno, -⟩
          · obtain ⟨rfl, rfl⟩ := at_num HS2.out.up hy (last_at wx) (by rw [hyn, HXN.out])
            exact ahead_all fun e he => cl_all' HAW.out (HR.out.rd e he).one
          · exact absurd HXN.out (hno wx (by simp))
        obtain ⟨a, mm, k, rfl, hmm⟩ := ho.form
        obtain rfl : mm = c := by rw [hmm.out, hl, List.length_map, HR.out.len]
        have HS3 := hide (HS2.out.below hb3)
        clear ho hor hl hb3 htb HS2 hmm
        go_wp2_with fail
        obtain ⟨F3, htb⟩ := HS3.out.tb
        refine (may_any htb ((mm : Int) + 1)).mono ?_
        rintro e w4 ⟨⟨r, rfl, hr⟩, hb4⟩
        have hr2 : r = decide (mm = 0) := by
          rw [Bool.eq_iff_iff, hr, ← HXN.out, May_at HS3.out.up (last_at wx)]
          by_cases hz : mm = 0
          · have : E = [] := List.length_eq_zero_iff.1 (by rw [HR.out.len]; exact hz)
            subst this
            simp [freeB, hz]
          · have hpos : 0 < E.length := by rw [HR.out.len]; omega
            rw [not_free (y := E[0]) (by rw [List.take_append_of_le_length (by simp), List.take_length]; exact List.getElem_mem _) (cl_all HAW.out (HR.out.rd _ (List.getElem_mem _)).one)]
            simp [hz]
        obtain ⟨z, hz⟩ : ∃ z, ((mm : Int) == 0) = z := ⟨_, rfl⟩
        have hrz : r = z := by
          rw [hr2, ← hz]
          by_cases hq : mm = 0
          · simp [hq]
          · have : ((mm : Int) == 0) = false := by simp; omega
            rw [this]; simp [hq]
        have hr3 : (z != z) = false := by simp
        subst hrz
        have HS4 := hide (HS3.out.below hb4)
        clear hr hr2 hb4 htb HS3
        go_wp2_with fail
        clear hr3 hz
        go_loopg [90] n1 (fun t v90 wr => ∃ (i : Nat) (R : List En) (last : Int), i + t = n1 ∧ v90 = .int .i64 (i : Int) ∧ last ≤ (mm : Int) + 1 + (i : Int) ∧ Hid (∀ y ∈ R, One y) ∧ Hid (St w noK b (E ++ wx :: R) last wr))
        case atStart => exact ⟨0, [], _, by omega, rfl, by omega, hide (by simp), HS4⟩
        case round =>
          clear HS4
          obtain ⟨i, R, last, hi, rfl, hla, HRO, HS⟩ := hrel
          cases gk with
          | zero =>
            have hnl : ¬ (i : Int) < (n1 : Int) := by omega
            go_wp2_with fail
            go_loopg [18] mm (fun t v18 wr => ∃ (q : Nat), q + t = mm ∧ v18 = .int .i64 ((q : Int) + 1) ∧ Hid (St w noK b (E.drop q ++ wx :: R) last wr))
            case atStart => exact ⟨0, by omega, rfl, HS⟩
            case round =>
              clear HS
              obtain ⟨q, hq, rfl, HS⟩ := hrel
              cases gk with
              | zero =>
                obtain rfl : q = mm := by omega
                have hle : ¬ (q : Int) + 1 ≤ (q : Int) := by omega
                have hE : E.drop q ++ wx :: R = wx :: R := by rw [List.drop_of_length_le (by rw [HR.out.len]; omega)]; rfl
                rw [hE] at HS
                clear hE
                go_wp2_with fail
                obtain ⟨F, htb⟩ := HS.out.tb
                refine (may_any htb ((q : Int) + 1)).mono ?_
                rintro e w5 ⟨⟨r, rfl, hr⟩, hb5⟩
                obtain rfl : r = true := hr.2 (by rw [← HXN.out]; exact (May_at HS.out.up (p := 0) (x := wx) rfl).2 (free_zero _))
                have HS5 := hide (HS.out.below hb5)
                clear hr hb5 htb HS
                go_wp2_with fail
                obtain ⟨F, htb⟩ := HS5.out.tb
                refine (ready_any htb).mono ?_
                rintro e w6 ⟨v, rfl, ho, hb6⟩
                have hl : rdyN (wx :: R) (wx :: R).length = [wx.num] := rdyN_writer HAW.out HRO.out R.length (Nat.le_refl _)
                rw [hl] at ho
                obtain ⟨a, nn, k, rfl, hnn⟩ := ho.form
                obtain rfl : nn = 1 := hnn.out
                have HS6 := hide (HS5.out.below hb6)
                clear ho hl hb6 htb HS5 hnn
                go_wp2_with fail
                refine (HS6.out.done ((q : Int) + 1)).mono ?_
                rintro e w7 (⟨rfl, hno, -, -⟩ | ⟨p, x, rfl, hx, hxn, hf, -, -⟩ | ⟨p, x, rfl, hx, hxn, hf, hs7, -⟩)
                · exact absurd HXN.out (hno wx (by simp))
                · obtain ⟨rfl, rfl⟩ := at_num HS6.out.up hx (q := 0) (y := wx) rfl (by rw [hxn, HXN.out])
                  rw [free_zero] at hf; cases hf
                · have HS7 := hide hs7
                  clear hs7 hx hxn hf HS6
                  rw [errV_zero]
                  go_wp2_with (go_at_call 11; refine (awake_any _).mono ?_; rintro e w8 ⟨rfl, hb⟩; have HBE := hide (nextB HS7.out.bel hb); clear hb)
                  go_ret
                  exact ⟨rfl, HBE.out⟩
              | succ t =>
                have hle : (q : Int) + 1 ≤ (mm : Int) := by omega
                have hq63 : IntKind.i64.wrap ((q : Int) + 1 + 1) = (q : Int) + 1 + 1 := IntWalk.i64_in _ ⟨by omega, by have := HC60.out; omega⟩
                obtain ⟨y, hy⟩ : ∃ y, E[q]? = some y := ⟨E[q]'(by rw [HR.out.len]; omega), by rw [List.getElem?_eq_getElem]⟩
                have hE : E.drop q ++ wx :: R = y :: (E.drop (q + 1) ++ wx :: R) := by
                  have h1 := (List.getElem?_eq_some_iff.1 hy)
                  obtain ⟨h1, h2⟩ := h1
                  rw [List.drop_eq_getElem_cons h1, h2]; rfl
                have HYN := hide (HR.out.num q y hy)
                rw [hE] at HS
                clear hE hy
                go_wp2_with fail
                refine (HS.out.done ((q : Int) + 1)).mono ?_
                rintro e w7 (⟨rfl, hno, -, -⟩ | ⟨p, x, rfl, hx, hxn, hf, -, -⟩ | ⟨p, x, rfl, hx, hxn, hf, hs7, -⟩)
                · exact absurd HYN.out (hno y (by simp))
                · obtain ⟨rfl, rfl⟩ := at_num HS.out.up hx (q := 0) (y := y) rfl (by rw [hxn, HYN.out])
                  rw [free_zero] at hf; cases hf
                · obtain ⟨rfl, rfl⟩ := at_num HS.out.up hx (q := 0) (y := y) rfl (by rw [hxn, HYN.out])
                  have HS7 : Hid (St w noK b (E.drop (q + 1) ++ wx :: R) last w7) := hide (by simpa using hs7)
                  clear hs7 hx hxn hf HS
                  rw [errV_zero]
                  go_wp2_with fail
                  go_roundg t
                  case measure => omega
                  case rel => exact ⟨q + 1, by omega, by simp, HS7⟩
          | succ m =>
            have hlt : (i : Int) < (n1 : Int) := by omega
            have hb0 : (0 : Int) ≤ (i : Int) := by omega
            obtain ⟨p, he⟩ : ∃ e, l1[i]? = some e := ⟨l1[i]'(by rw [HN1.out]; omega), by rw [List.getElem?_eq_getElem]⟩
            obtain ⟨rfl, -⟩ := H21.out (by rw [HN1.out]; omega)
            obtain ⟨k0, k1, k2, k3⟩ := H31.out i p he
            replace k0 := cell_bel HS.out.bel k0
            replace k1 := cell_bel HS.out.bel k1
            replace k2 := cell_bel HS.out.bel k2
            replace k3 := cell_bel HS.out.bel k3
            have HOK := hide (OK1.out p (List.mem_of_getElem? he))
            have hi63 : (i : Int) + 1 < 140737488355328 + 1 := by omega
            clear he
            have hA := bel_alloc wr (.cells #[.int .i64 p.vol, .int .i64 p.frm, .int .i64 p.len, .bool p.wr] 23)
            have HSA := hide (HS.out.below hA)
            clear hA
            go_wp2_with fail
            clear k0 k1 k2 k3
            cases hr : rightB p with
            | false =>
              refine (add_one_badm (wr.alloc (.cells #[.int .i64 p.vol, .int .i64 p.frm, .int .i64 p.len, .bool p.wr] 23)) (s := p) HOK.out hr (by simp)).mono ?_
              rintro e w2 ⟨rfl, hb2⟩
              have HS2 := hide (HSA.out.below hb2)
              clear hb2 hr HSA HS
              go_wp2_with fail
              go_roundg m
              case measure => omega
              case rel => exact ⟨i + 1, R, last, by omega, by simp, by omega, HRO, HS2⟩
            | true =>
              have HRT := hide hr
              clear hr
              refine (HSA.out.add1m (s := p) HOK.out HRT.out (by have := HBIG.out; have := HC60.out; omega) (by simp)).mono ?_
              rintro e w2 ⟨x, rfl, xn, xs, hs2, -⟩
              have HS2 := hide hs2
              have HXO : Hid (One x) := hide ⟨_, xs, HRT.out⟩
              have HXX := hide xn
              clear hs2 xn xs HSA HS
              go_wp2_with fail
              obtain ⟨F, htb⟩ := HS2.out.tb
              refine (ahead_any htb (last + 1)).mono ?_
              rintro e w3 ⟨v, l, rfl, ho, hor, hb3⟩
              have hmem : (mm : Int) + 1 ∈ l := by
                rcases hor with ⟨q, y, hy, hyn, rfl⟩ | ⟨hno, -⟩
                · obtain ⟨rfl, rfl⟩ := at_num HS2.out.up hy (last_at x) (by rw [hyn, HXX.out])
                  unfold aheadS
                  rw [List.take_append_of_le_length (by simp), List.take_length]
                  exact List.mem_map.2 ⟨wx, List.mem_filter.2 ⟨by simp, cl_all HAW.out HXO.out⟩, HXN.out⟩
                · exact absurd HXX.out (hno x (by simp))
              have HO := hide (ho.below (Below.refl _ _))
              obtain ⟨a, nn, k, rfl, hnn⟩ := ho.form
              have hnz : ((nn : Int) == 0) = false := by
                have : 0 < nn := by rw [hnn.out]; exact List.length_pos_of_mem hmem
                simp; omega
              have HME := hide hmem
              have HS3 := hide (HS2.out.below hb3)
              clear ho hor hmem hb3 htb HS2 hnn
              go_wp2_with fail
              obtain ⟨F3, htb⟩ := HS3.out.tb
              refine (may_any htb (last + 1)).mono ?_
              rintro e w4 ⟨⟨r, rfl, hr⟩, hb4⟩
              have hr2 : r = false := by
                cases r with
                | false => rfl
                | true =>
                  have h1 := hr.1 rfl
                  rw [← HXX.out, May_at HS3.out.up (last_at x)] at h1
                  rw [not_free (y := wx) (by rw [List.take_append_of_le_length (by simp), List.take_length]; simp) (cl_all' HAW.out HXO.out)] at h1
                  cases h1
              subst hr2
              have HS4 := hide (HS3.out.below hb4)
              have HO4 := hide (HO.out.below hb4)
              clear hr hb4 htb HS3 HO
              go_wp2_with fail
              refine (in_any HO4.out.ints ((mm : Int) + 1)).mono ?_
              rintro e w5 ⟨rfl, rfl⟩
              rw [decide_eq_true HME.out]
              go_wp2_with fail
              go_roundg m
              case measure => omega
              case rel => exact ⟨i + 1, R ++ [x], last + 1, by omega, by simp, by omega, hide (fun y hy => by
                rcases List.mem_append.1 hy with hy | hy
                · exact HRO.out y hy
                · simp at hy; rw [hy]; exact HXO.out), hide (by have := HS4.out; simpa using this)⟩
      | succ m =>
        have hlt : (j : Int) < (n : Int) := by omega
        have hb0 : (0 : Int) ≤ (j : Int) := by omega
        obtain ⟨p, he⟩ : ∃ e, l0[j]? = some e := ⟨l0[j]'(by rw [HN.out]; omega), by rw [List.getElem?_eq_getElem]⟩
        obtain ⟨rfl, -⟩ := H2.out (by rw [HN.out]; omega)
        obtain ⟨k0, k1, k2, k3⟩ := H3.out j p he
        replace k0 := cell_bel HS.out.bel k0
        replace k1 := cell_bel HS.out.bel k1
        replace k2 := cell_bel HS.out.bel k2
        replace k3 := cell_bel HS.out.bel k3
        have HOK := hide (OK0.out p (List.mem_of_getElem? he))
        have hj63 : (j : Int) + 1 < 140737488355328 + 1 := by omega
        have hc63 : IntKind.i64.wrap ((c : Int) + 1) = (c : Int) + 1 := IntWalk.i64_in _ ⟨by omega, by omega⟩
        clear he
        have hA := bel_alloc wr (.cells #[.int .i64 p.vol, .int .i64 p.frm, .int .i64 p.len, .bool false] 23)
        have HSA := hide (HS.out.below hA)
        clear hA
        go_wp2_with fail
        clear k0 k1 k2 k3
        cases hr : rightB ⟨p.vol, p.frm, p.len, false⟩ with
        | false =>
          refine (add_one_badm (wr.alloc (.cells #[.int .i64 p.vol, .int .i64 p.frm, .int .i64 p.len, .bool false] 23)) (s := ⟨p.vol, p.frm, p.len, false⟩) (sOk_read HOK.out) hr (by simp)).mono ?_
          rintro e w2 ⟨rfl, hb2⟩
          have HS2 := hide (HSA.out.below hb2)
          clear hb2 hr HSA HS
          go_wp2_with fail
          go_roundg m
          case measure => omega
          case rel => exact ⟨j + 1, E, c, by omega, by simp, rfl, by omega, HR, HS2⟩
        | true =>
          have HRT := hide hr
          clear hr
          refine (HSA.out.add1m (s := ⟨p.vol, p.frm, p.len, false⟩) (sOk_read HOK.out) HRT.out (by have := HBIG.out; omega) (by simp)).mono ?_
          rintro e w2 ⟨x, rfl, xn, xs, hs2, -⟩
          have HS2 := hide hs2
          have HRO : Hid (ReadOne x) := hide ⟨_, xs, HRT.out, rfl⟩
          have HXN := hide xn
          clear hs2 xn xs HSA HS
          go_wp2_with fail
          obtain ⟨F, htb⟩ := HS2.out.tb
          refine (may_any htb ((c : Int) + 1)).mono ?_
          rintro e w3 ⟨⟨r, rfl, hr⟩, hb3⟩
          obtain rfl : r = true := hr.2 (by
            rw [← HXN.out]
            exact (May_at HS2.out.up (last_at x)).2 (free_last fun e he => cl_reads HRO.out (HR.out.rd e he)))
          have HS3 := hide (HS2.out.below hb3)
          clear hr hb3 htb HS2
          go_wp2_with fail
          go_roundg m
          case measure => omega
          case rel => exact ⟨j + 1, E ++ [x], c + 1, by omega, by simp, by simp, by omega, hide (HR.out.snoc HXN.out HRO.out), hide (by have := HS3.out; simpa using this)⟩
  · have hg : ¬ (60 : Int) < (n : Int) := by have := HBIG.out; omega
    go_wp2_with fail
    clear hm hg
    go_loopg [37, 6] n (fun t v37 v6 wr => ∃ (j : Nat) (E : List En) (c : Nat), j + t = n ∧ v37 = .int .i64 (j : Int) ∧ v6 = .int .i64 (c : Int) ∧ c ≤ j ∧ Hid (Rds E c) ∧ Hid (St w noK b E (c : Int) wr))
    case atStart => exact ⟨0, [], 0, by omega, rfl, rfl, Nat.le_refl _, hide Rds.nil, HS⟩
    case round =>
      clear HS
      obtain ⟨j, E, c, hj, rfl, rfl, hcj, HR, HS⟩ := hrel
      cases gk with
      | zero =>
        have hnl : ¬ (j : Int) < (n : Int) := by omega
        have HC60 := hide (show c ≤ 60 by have := HBIG.out; omega)
        go_wp2_with fail
        refine (HS.out.add1 (s := ⟨0, 0, 0, true⟩) (sOk_small (by omega) (by omega) (by omega)) (by decide) (by have := HC60.out; omega)).mono ?_
        rintro e w2 ⟨wx, rfl, xn, xs, hs2, -⟩
        have HS2 := hide hs2
        have HAW : Hid (AllW wx) := hide xs
        have HXN := hide xn
        clear hs2 xn xs HS
        go_wp2_with fail
        obtain ⟨F, htb⟩ := HS2.out.tb
        refine (ahead_any htb ((c : Int) + 1)).mono ?_
        rintro e w3 ⟨v, l, rfl, ho, hor, hb3⟩
        have hl : l = E.map En.num := by
          rcases hor with ⟨q, y, hy, hyn, rfl⟩ | ⟨hno, -⟩
          · obtain ⟨rfl, rfl⟩ := at_num HS2.out.up hy (last_at wx) (by rw [hyn, HXN.out])
            exact ahead_all fun e he => cl_all' HAW.out (HR.out.rd e he).one
          · exact absurd HXN.out (hno wx (by simp))
        obtain ⟨a, mm, k, rfl, hmm⟩ := ho.form
        obtain rfl : mm = c := by rw [hmm.out, hl, List.length_map, HR.out.len]
        have HS3 := hide (HS2.out.below hb3)
        clear ho hor hl hb3 htb HS2 hmm
        go_wp2_with fail
        obtain ⟨F3, htb⟩ := HS3.out.tb
        refine (may_any htb ((mm : Int) + 1)).mono ?_
        rintro e w4 ⟨⟨r, rfl, hr⟩, hb4⟩
        have hr2 : r = decide (mm = 0) := by
          rw [Bool.eq_iff_iff, hr, ← HXN.out, May_at HS3.out.up (last_at wx)]
          by_cases hz : mm = 0
          · have : E = [] := List.length_eq_zero_iff.1 (by rw [HR.out.len]; exact hz)
            subst this
            simp [freeB, hz]
          · have hpos : 0 < E.length := by rw [HR.out.len]; omega
            rw [not_free (y := E[0]) (by rw [List.take_append_of_le_length (by simp), List.take_length]; exact List.getElem_mem _) (cl_all HAW.out (HR.out.rd _ (List.getElem_mem _)).one)]
            simp [hz]
        obtain ⟨z, hz⟩ : ∃ z, ((mm : Int) == 0) = z := ⟨_, rfl⟩
        have hrz : r = z := by
          rw [hr2, ← hz]
          by_cases hq : mm = 0
          · simp [hq]
          · have : ((mm : Int) == 0) = false := by simp; omega
            rw [this]; simp [hq]
        have hr3 : (z != z) = false := by simp
        subst hrz
        have HS4 := hide (HS3.out.below hb4)
        clear hr hr2 hb4 htb HS3
        go_wp2_with fail
        clear hr3 hz
        go_loopg [90] n1 (fun t v90 wr => ∃ (i : Nat) (R : List En) (last : Int), i + t = n1 ∧ v90 = .int .i64 (i : Int) ∧ last ≤ (mm : Int) + 1 + (i : Int) ∧ Hid (∀ y ∈ R, One y) ∧ Hid (St w noK b (E ++ wx :: R) last wr))
        case atStart => exact ⟨0, [], _, by omega, rfl, by omega, hide (by simp), HS4⟩
        case round =>
          clear HS4
          obtain ⟨i, R, last, hi, rfl, hla, HRO, HS⟩ := hrel
          cases gk with
          | zero =>
            have hnl : ¬ (i : Int) < (n1 : Int) := by omega
            go_wp2_with fail
            go_loopg [18] mm (fun t v18 wr => ∃ (q : Nat), q + t = mm ∧ v18 = .int .i64 ((q : Int) + 1) ∧ Hid (St w noK b (E.drop q ++ wx :: R) last wr))
            case atStart => exact ⟨0, by omega, rfl, HS⟩
            case round =>
              clear HS
              obtain ⟨q, hq, rfl, HS⟩ := hrel
              cases gk with
              | zero =>
                obtain rfl : q = mm := by omega
                have hle : ¬ (q : Int) + 1 ≤ (q : Int) := by omega
                have hE : E.drop q ++ wx :: R = wx :: R := by rw [List.drop_of_length_le (by rw [HR.out.len]; omega)]; rfl
                rw [hE] at HS
                clear hE
                go_wp2_with fail
                obtain ⟨F, htb⟩ := HS.out.tb
                refine (may_any htb ((q : Int) + 1)).mono ?_
                rintro e w5 ⟨⟨r, rfl, hr⟩, hb5⟩
                obtain rfl : r = true := hr.2 (by rw [← HXN.out]; exact (May_at HS.out.up (p := 0) (x := wx) rfl).2 (free_zero _))
                have HS5 := hide (HS.out.below hb5)
                clear hr hb5 htb HS
                go_wp2_with fail
                obtain ⟨F, htb⟩ := HS5.out.tb
                refine (ready_any htb).mono ?_
                rintro e w6 ⟨v, rfl, ho, hb6⟩
                have hl : rdyN (wx :: R) (wx :: R).length = [wx.num] := rdyN_writer HAW.out HRO.out R.length (Nat.le_refl _)
                rw [hl] at ho
                obtain ⟨a, nn, k, rfl, hnn⟩ := ho.form
                obtain rfl : nn = 1 := hnn.out
                have HS6 := hide (HS5.out.below hb6)
                clear ho hl hb6 htb HS5 hnn
                go_wp2_with fail
                refine (HS6.out.done ((q : Int) + 1)).mono ?_
                rintro e w7 (⟨rfl, hno, -, -⟩ | ⟨p, x, rfl, hx, hxn, hf, -, -⟩ | ⟨p, x, rfl, hx, hxn, hf, hs7, -⟩)
                · exact absurd HXN.out (hno wx (by simp))
                · obtain ⟨rfl, rfl⟩ := at_num HS6.out.up hx (q := 0) (y := wx) rfl (by rw [hxn, HXN.out])
                  rw [free_zero] at hf; cases hf
                · have HS7 := hide hs7
                  clear hs7 hx hxn hf HS6
                  rw [errV_zero]
                  go_wp2_with (go_at_call 11; refine (awake_any _).mono ?_; rintro e w8 ⟨rfl, hb⟩; have HBE := hide (nextB HS7.out.bel hb); clear hb)
                  go_ret
                  exact ⟨rfl, HBE.out⟩
              | succ t =>
                have hle : (q : Int) + 1 ≤ (mm : Int) := by omega
                have hq63 : IntKind.i64.wrap ((q : Int) + 1 + 1) = (q : Int) + 1 + 1 := IntWalk.i64_in _ ⟨by omega, by have := HC60.out; omega⟩
                obtain ⟨y, hy⟩ : ∃ y, E[q]? = some y := ⟨E[q]'(by rw [HR.out.len]; omega), by rw [List.getElem?_eq_getElem]⟩
                have hE : E.drop q ++ wx :: R = y :: (E.drop (q + 1) ++ wx :: R) := by
                  have h1 := (List.getElem?_eq_some_iff.1 hy)
                  obtain ⟨h1, h2⟩ := h1
                  rw [List.drop_eq_getElem_cons h1, h2]; rfl
                have HYN := hide (HR.out.num q y hy)
                rw [hE] at HS
                clear hE hy
                go_wp2_with fail
                refine (HS.out.done ((q : Int) + 1)).mono ?_
                rintro e w7 (⟨rfl, hno, -, -⟩ | ⟨p, x, rfl, hx, hxn, hf, -, -⟩ | ⟨p, x, rfl, hx, hxn, hf, hs7, -⟩)
                · exact absurd HYN.out (hno y (by simp))
                · obtain ⟨rfl, rfl⟩ := at_num HS.out.up hx (q := 0) (y := y) rfl (by rw [hxn, HYN.out])
                  rw [free_zero] at hf; cases hf
                · obtain ⟨rfl, rfl⟩ := at_num HS.out.up hx (q := 0) (y := y) rfl (by rw [hxn, HYN.out])
                  have HS7 : Hid (St w noK b (E.drop (q + 1) ++ wx :: R) last w7) := hide (by simpa using hs7)
                  clear hs7 hx hxn hf HS
                  rw [errV_zero]
                  go_wp2_with fail
                  go_roundg t
                  case measure => omega
                  case rel => exact ⟨q + 1, by omega, by simp, HS7⟩
          | succ m =>
            have hlt : (i : Int) < (n1 : Int) := by omega
            have hb0 : (0 : Int) ≤ (i : Int) := by omega
            obtain ⟨p, he⟩ : ∃ e, l1[i]? = some e := ⟨l1[i]'(by rw [HN1.out]; omega), by rw [List.getElem?_eq_getElem]⟩
            obtain ⟨rfl, -⟩ := H21.out (by rw [HN1.out]; omega)
            obtain ⟨k0, k1, k2, k3⟩ := H31.out i p he
            replace k0 := cell_bel HS.out.bel k0
            replace k1 := cell_bel HS.out.bel k1
            replace k2 := cell_bel HS.out.bel k2
            replace k3 := cell_bel HS.out.bel k3
            have HOK := hide (OK1.out p (List.mem_of_getElem? he))
            have hi63 : (i : Int) + 1 < 140737488355328 + 1 := by omega
            clear he
            have hA := bel_alloc wr (.cells #[.int .i64 p.vol, .int .i64 p.frm, .int .i64 p.len, .bool p.wr] 23)
            have HSA := hide (HS.out.below hA)
            clear hA
            go_wp2_with fail
            clear k0 k1 k2 k3
            cases hr : rightB p with
            | false =>
              refine (add_one_badm (wr.alloc (.cells #[.int .i64 p.vol, .int .i64 p.frm, .int .i64 p.len, .bool p.wr] 23)) (s := p) HOK.out hr (by simp)).mono ?_
              rintro e w2 ⟨rfl, hb2⟩
              have HS2 := hide (HSA.out.below hb2)
              clear hb2 hr HSA HS
              go_wp2_with fail
              go_roundg m
              case measure => omega
              case rel => exact ⟨i + 1, R, last, by omega, by simp, by omega, HRO, HS2⟩
            | true =>
              have HRT := hide hr
              clear hr
              refine (HSA.out.add1m (s := p) HOK.out HRT.out (by have := HBIG.out; have := HC60.out; omega) (by simp)).mono ?_
              rintro e w2 ⟨x, rfl, xn, xs, hs2, -⟩
              have HS2 := hide hs2
              have HXO : Hid (One x) := hide ⟨_, xs, HRT.out⟩
              have HXX := hide xn
              clear hs2 xn xs HSA HS
              go_wp2_with fail
              obtain ⟨F, htb⟩ := HS2.out.tb
              refine (ahead_any htb (last + 1)).mono ?_
              rintro e w3 ⟨v, l, rfl, ho, hor, hb3⟩
              have hmem : (mm : Int) + 1 ∈ l := by
                rcases hor with ⟨q, y, hy, hyn, rfl⟩ | ⟨hno, -⟩
                · obtain ⟨rfl, rfl⟩ := at_num HS2.out.up hy (last_at x) (by rw [hyn, HXX.out])
                  unfold aheadS
                  rw [List.take_append_of_le_length (by simp), List.take_length]
                  exact List.mem_map.2 ⟨wx, List.mem_filter.2 ⟨by simp, cl_all HAW.out HXO.out⟩, HXN.out⟩
                · exact absurd HXX.out (hno x (by simp))
              have HO := hide (ho.below (Below.refl _ _))
              obtain ⟨a, nn, k, rfl, hnn⟩ := ho.form
              have hnz : ((nn : Int) == 0) = false := by
                have : 0 < nn := by rw [hnn.out]; exact List.length_pos_of_mem hmem
                simp; omega
              have HME := hide hmem
              have HS3 := hide (HS2.out.below hb3)
              clear ho hor hmem hb3 htb HS2 hnn
              go_wp2_with fail
              obtain ⟨F3, htb⟩ := HS3.out.tb
              refine (may_any htb (last + 1)).mono ?_
              rintro e w4 ⟨⟨r, rfl, hr⟩, hb4⟩
              have hr2 : r = false := by
                cases r with
                | false => rfl
                | true =>
                  have h1 := hr.1 rfl
                  rw [← HXX.out, May_at HS3.out.up (last_at x)] at h1
                  rw [not_free (y := wx) (by rw [List.take_append_of_le_length (by simp), List.take_length]; simp) (cl_all' HAW.out HXO.out)] at h1
                  cases h1
              subst hr2
              have HS4 := hide (HS3.out.below hb4)
              have HO4 := hide (HO.out.below hb4)
              clear hr hb4 htb HS3 HO
              go_wp2_with fail
              refine (in_any HO4.out.ints ((mm : Int) + 1)).mono ?_
              rintro e w5 ⟨rfl, rfl⟩
              rw [decide_eq_true HME.out]
              go_wp2_with fail
              go_roundg m
              case measure => omega
              case rel => exact ⟨i + 1, R ++ [x], last + 1, by omega, by simp, by omega, hide (fun y hy => by
                rcases List.mem_append.1 hy with hy | hy
                · exact HRO.out y hy
                · simp at hy; rw [hy]; exact HXO.out), hide (by have := HS4.out; simpa using this)⟩
      | succ m =>
        have hlt : (j : Int) < (n : Int) := by omega
        have hb0 : (0 : Int) ≤ (j : Int) := by omega
        obtain ⟨p, he⟩ : ∃ e, l0[j]? = some e := ⟨l0[j]'(by rw [HN.out]; omega), by rw [List.getElem?_eq_getElem]⟩
        obtain ⟨rfl, -⟩ := H2.out (by rw [HN.out]; omega)
        obtain ⟨k0, k1, k2, k3⟩ := H3.out j p he
        replace k0 := cell_bel HS.out.bel k0
        replace k1 := cell_bel HS.out.bel k1
        replace k2 := cell_bel HS.out.bel k2
        replace k3 := cell_bel HS.out.bel k3
        have HOK := hide (OK0.out p (List.mem_of_getElem? he))
        have hj63 : (j : Int) + 1 < 140737488355328 + 1 := by omega
        have hc63 : IntKind.i64.wrap ((c : Int) + 1) = (c : Int) + 1 := IntWalk.i64_in _ ⟨by omega, by omega⟩
        clear he
        have hA := bel_alloc wr (.cells #[.int .i64 p.vol, .int .i64 p.frm, .int .i64 p.len, .bool false] 23)
        have HSA := hide (HS.out.below hA)
        clear hA
        go_wp2_with fail
        clear k0 k1 k2 k3
        cases hr : rightB ⟨p.vol, p.frm, p.len, false⟩ with
        | false =>
          refine (add_one_badm (wr.alloc (.cells #[.int .i64 p.vol, .int .i64 p.frm, .int .i64 p.len, .bool false] 23)) (s := ⟨p.vol, p.frm, p.len, false⟩) (sOk_read HOK.out) hr (by simp)).mono ?_
          rintro e w2 ⟨rfl, hb2⟩
          have HS2 := hide (HSA.out.below hb2)
          clear hb2 hr HSA HS
          go_wp2_with fail
          go_roundg m
          case measure => omega
          case rel => exact ⟨j + 1, E, c, by omega, by simp, rfl, by omega, HR, HS2⟩
        | true =>
          have HRT := hide hr
          clear hr
          refine (HSA.out.add1m (s := ⟨p.vol, p.frm, p.len, false⟩) (sOk_read HOK.out) HRT.out (by have := HBIG.out; omega) (by simp)).mono ?_
          rintro e w2 ⟨x, rfl, xn, xs, hs2, -⟩
          have HS2 := hide hs2
          have HRO : Hid (ReadOne x) := hide ⟨_, xs, HRT.out, rfl⟩
          have HXN := hide xn
          clear hs2 xn xs HSA HS
          go_wp2_with fail
          obtain ⟨F, htb⟩ := HS2.out.tb
          refine (may_any htb ((c : Int) + 1)).mono ?_
          rintro e w3 ⟨⟨r, rfl, hr⟩, hb3⟩
          obtain rfl : r = true := hr.2 (by
            rw [← HXN.out]
            exact (May_at HS2.out.up (last_at x)).2 (free_last fun e he => cl_reads HRO.out (HR.out.rd e he)))
          have HS3 := hide (HS2.out.below hb3)
          clear hr hb3 htb HS2
          go_wp2_with fail
          go_roundg m
          case measure => omega
          case rel => exact ⟨j + 1, E ++ [x], c + 1, by omega, by simp, by simp, by omega, hide (HR.out.snoc HXN.out HRO.out), hide (by have := HS3.out; simpa using this)⟩
end Go.Proofs.Ytjofbehmhdjohaa
