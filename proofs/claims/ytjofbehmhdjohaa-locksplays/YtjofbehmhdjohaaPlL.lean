/- The law LocksPlays. -/
import Derived.Test.YtjofbehmhdjohaaPlF
import Derived.Test.YtjofbehmhdjohaaBase15
import Derived.Deep.DeepCutAuto
namespace Go.Proofs.Ytjofbehmhdjohaa
open Go.RowKit Go.Extern

theorem EnS.up {w wr : World} {b : Nat} {E : List En} {last : Int} {av dv : Value} {A : List En} {D : List Int} (h : EnS w b E last av A dv D wr) (ht : Tied E A) : Up (A.map En.num) := by rw [← ht.nums]; exact h.st.up
theorem EnS.small {w wr : World} {b : Nat} {E : List En} {last : Int} {av dv : Value} {A : List En} {D : List Int} (h : EnS w b E last av A dv D wr) (ht : Tied E A) (hl : last ≤ 900) : ∀ x ∈ A, I64 x.num := fun x hx => by
  have h1 : x.num ∈ E.map En.num := by rw [ht.nums]; exact List.mem_map.2 ⟨x, hx, rfl⟩
  obtain ⟨e, he, h2⟩ := List.mem_map.1 h1
  have h3 := h.st.num e he
  unfold I64; omega
theorem EnS.lenA {w wr : World} {b : Nat} {E : List En} {last : Int} {av dv : Value} {A : List En} {D : List Int} (h : EnS w b E last av A dv D wr) (ht : Tied E A) : (A.length : Int) ≤ last := by rw [← ht.len]; exact h.st.short
theorem there_iff {E A : List En} (ht : Tied E A) (k : Int) : (∃ x ∈ A, x.num = k) ↔ ∃ x ∈ E, x.num = k := by
  have h1 : k ∈ A.map En.num ↔ k ∈ E.map En.num := by rw [ht.nums]
  simpa [List.mem_map] using h1
/-- What the document's Ahead tells of an entry that is there. -/
theorem told_at {A : List En} (hu : Up (A.map En.num)) {p : Nat} {y : En} (hy : A[p]? = some y) {l : List Int} (h : (∃ q x, A[q]? = some x ∧ x.num = y.num ∧ l = aheadS A q x) ∨ ((∀ x ∈ A, x.num ≠ y.num) ∧ l = [])) : l = aheadS A p y := by
  rcases h with ⟨q, x, hx, hn, rfl⟩ | ⟨hno, -⟩
  · obtain ⟨rfl, rfl⟩ := at_num hu hx hy hn
    rfl
  · exact absurd rfl (hno y (List.mem_of_getElem? hy))
theorem tied_at {E A : List En} (ht : Tied E A) {p : Nat} {x : En} (hx : E[p]? = some x) : ∃ y, A[p]? = some y ∧ x.num = y.num ∧ x.sps = y.sps := by
  have hp := (List.getElem?_eq_some_iff.1 hx).1
  have hy : A[p]? = some (A[p]'(by rw [← ht.len]; exact hp)) := List.getElem?_eq_getElem _
  exact ⟨_, hy, ht.at_ hx hy⟩
theorem tied_at' {E A : List En} (ht : Tied E A) {p : Nat} {y : En} (hy : A[p]? = some y) : ∃ x, E[p]? = some x ∧ x.num = y.num ∧ x.sps = y.sps := by
  have hp := (List.getElem?_eq_some_iff.1 hy).1
  have hx : E[p]? = some (E[p]'(by rw [ht.len]; exact hp)) := List.getElem?_eq_getElem _
  exact ⟨_, hx, ht.at_ hx hy⟩

set_option maxRecDepth 100000 in
set_option maxHeartbeats 32000000 in
theorem playsL_any {w : World} {v0 : Value} {l0 : List OpD} (hl0 : Ops w v0 l0) :
    Calls Try.prog 5 #[v0] w fun e w' => e = .returned (.bool true) ∧ Below w.heap.size w w' := by
  obtain ⟨ao, cap, g, off, rfl, h2, h3, h4, h5⟩ := hl0
  have H2 := hide h2
  have H3 := hide h3
  have H4 := hide h4
  obtain ⟨n, hn⟩ : ∃ n, l0.length = n := ⟨_, rfl⟩
  rw [hn] at h5 ⊢
  have HN := hide hn
  clear h2 h3 h4 hn
  go_enter Try.func5, Try.ntmps5
  go_wp2_with fail
  refine (St.new w).mono ?_
  rintro e w1 ⟨b, rfl, hs⟩
  have HS0 := hide hs
  clear hs
  by_cases big : 80 < n
  · have hg : (80 : Int) < (n : Int) := by omega
    clear big H2 H3 H4
    go_wp2_with (go_at_call 11; refine (awake_any _).mono ?_; rintro e w2 ⟨rfl, hb⟩; have HBE := hide (nextB HS0.out.bel hb); clear hb)
    go_ret
    exact ⟨rfl, HBE.out⟩
  have hg : ¬ (80 : Int) < (n : Int) := by omega
  have HBIG := hide big
  clear big
  have HS := hide (EnS.start HS0.out)
  go_wp2_with fail
  clear hg HS0
  go_loopg [39, 4, 5] n (fun t v39 v4 v5 wr => ∃ (j : Nat) (E A : List En) (c : Nat), j + t = n ∧ v39 = .int .i64 (j : Int) ∧ v5 = .int .i64 (c : Int) ∧ c ≤ j ∧ Hid (Tied E A) ∧ Hid (EnS w b E (c : Int) v4 A (.slice none 0 0) [] wr))
  case atStart => exact ⟨0, [], [], 0, by omega, rfl, rfl, Nat.le_refl _, hide Tied.nil, HS⟩
  case round =>
    clear HS
    obtain ⟨j, E, A, c, hj, rfl, rfl, hcj, HT, HS⟩ := hrel
    obtain ⟨a4, n4, c4, rfl, hn4⟩ := HS.out.al.form
    cases gk with
    | zero =>
      have hnl : ¬ (j : Int) < (n : Int) := by omega
      clear hn4
      go_wp2_with (go_at_call 11; refine (awake_any _).mono ?_; rintro e w2 ⟨rfl, hb⟩; have HBE := hide (nextB HS.out.bel hb); clear hb)
      go_ret
      exact ⟨rfl, HBE.out⟩
    | succ m =>
      have hlt : (j : Int) < (n : Int) := by omega
      have hb0 : (0 : Int) ≤ (j : Int) := by omega
      obtain ⟨o, he⟩ : ∃ e, l0[j]? = some e := ⟨l0[j]'(by rw [HN.out]; omega), by rw [List.getElem?_eq_getElem]⟩
      obtain rfl := H2.out (by rw [HN.out]; omega)
      obtain ⟨okd, oar, oao, onn, ocp, osp⟩ := o
      obtain ⟨k0, k1, k2⟩ := H3.out j _ he
      simp only at k0 k1 k2
      replace k0 := cell_bel HS.out.bel k0
      replace k1 := cell_bel HS.out.bel k1
      replace k2 := cell_bel HS.out.bel k2
      have HSP := hide (H4.out _ (List.mem_of_getElem? he)).1
      simp only at HSP
      have HPL : Hid (onn = osp.length) := hide (by obtain ⟨_, _, _, e, h⟩ := HSP.out.form; injection e with _ e2 _; rw [e2]; exact h.out)
      have hj63 : IntKind.i64.wrap ((j : Int) + 1) = (j : Int) + 1 := IntWalk.i64_in _ ⟨by omega, by have := HBIG.out; omega⟩
      have HJN := hide (show j < 80 by have := HBIG.out; omega)
      have HCJ := hide hcj
      have HA := hide (bel_alloc wr (.cells #[.int .i64 okd, .int .i64 oar, .slice oao onn ocp] 34))
      have HBX : Hid ((wr.alloc (.cells #[.int .i64 okd, .int .i64 oar, .slice oao onn ocp] 34)).heap[wr.heap.size]? = some (.cells #[.int .i64 okd, .int .i64 oar, .slice oao onn ocp] 34 (0, 0))) := hide (heap_alloc_new _ _)
      clear he hn4 hcj
      by_cases hten : 20 < onn
      · have hg : (20 : Int) < (onn : Int) := by omega
        clear hten
        have HBA := hide (nextB HS.out.bel HA.out)
        go_wp2_with (go_at_call 11; refine (awake_any _).mono ?_; rintro e w2 ⟨rfl, hb⟩; have HBE := hide (nextB HBA.out hb); clear hb)
        go_ret
        exact ⟨rfl, HBE.out⟩
      have hg : ¬ (20 : Int) < (onn : Int) := by omega
      have HTEN := hide hten
      clear hten
      go_upto_region 12 with fail
      clear k0 k1 k2 hg
      obtain ⟨wB, hwB⟩ : ∃ wB, wr.alloc (.cells #[.int .i64 okd, .int .i64 oar, .slice oao onn ocp] 34) = wB := ⟨_, rfl⟩
      obtain ⟨bo, hbo⟩ : ∃ bo, wr.heap.size = bo := ⟨_, rfl⟩
      have HBO := hide hbo
      simp only [hwB] at HA HBX ⊢
      simp only [hbo] at HBX ⊢
      clear hwB hbo
      have x0 := row_cell HBX.out 0
      simp only [List.getElem?_toArray, List.getElem?_cons_zero] at x0
      go_cut [39, 51] (fun v39 v51 wc => v39 = .int .i64 (j : Int) ∧ v51 = .int .i64 okd ∧ wB = wc)
      case first =>
        go_wp2_with fail
        go_meet
        exact ⟨rfl, rfl, rfl⟩
      case rest =>
       clear x0
       obtain ⟨rfl, rfl, rfl⟩ := hcut
       go_step
       go_cut [4, 5, 39] (fun v4 v5 v39 wc => ∃ (E A : List En) (c : Nat), v39 = .int .i64 (j : Int) ∧ v5 = .int .i64 (c : Int) ∧ c ≤ j + 1 ∧ Hid (Tied E A) ∧ Hid (EnS w b E (c : Int) v4 A (.slice none 0 0) [] wc))
       case first =>
        have x0 := row_cell HBX.out 0
        have x1 := row_cell HBX.out 1
        have x2 := row_cell HBX.out 2
        simp only [List.getElem?_toArray, List.getElem?_cons_zero, List.getElem?_cons_succ] at x0 x1 x2
        by_cases hk1 : okd = 1
        · have e1 : (okd == 1) = true := by simp [hk1]
          clear hk1
          as_aux_lemma =>
            have hSp := spans_any ((HSP.out.below HS.out.bel).below HA.out) (by have := HPL.out; have := HTEN.out; omega)
            go_wp2_with fail
            refine hSp.mono ?_
            rintro e w2 ⟨v, rfl, hov, hb2⟩
            have HOV := hide (hov.rebase HA.out.size)
            have HB2 := hide (nextB HA.out hb2)
            have HVB : Hid (∀ k, v.ownBlock = some k → wB.heap.size ≤ k) := hide (fun k hk => (hov.lt k hk).1)
            have HBX2 := hide (blk_below hb2 HBX.out)
            obtain ⟨av, nv, cv, rfl, hnv⟩ := hov.form
            have HNV := hide hnv.out
            have hTry := HS.out.try_ HB2.out HOV.out HSP.out.ok (by have := HCJ.out; have := HJN.out; omega)
            clear hov hb2 hSp hnv x0 x1 x2
            go_wp2_with fail
            refine hTry.mono ?_
            rintro e w3 ⟨kv, ev, E', last', rfl, hT⟩
            have HTR := hide hT
            have HBX3 := hide (hT.keep bo _ (by rw [HBO.out]; exact Nat.le_refl _) HBX2.out)
            have HBN : Hid ((Value.slice av nv cv).ownBlock ≠ some bo) := hide (fun e => by have h1 := HVB.out bo e; have h2 := heap_lt HBX.out; omega)
            clear hT hTry
            go_wp2_with fail
            go_loopg [69] nv (fun t v69 wr => ∃ i : Nat, i + t = nv ∧ v69 = .int .i64 (i : Int) ∧ Hid (InRow wr (.slice av nv cv)) ∧ Hid (Turn (fun k => (Value.slice av nv cv).ownBlock = some k) w3 wr))
            case atStart => exact ⟨0, by omega, rfl, hide HTR.out.row, hide (Turn.refl _ _)⟩
            case round =>
              obtain ⟨i, hi, rfl, HIR, HTU⟩ := hrel
              cases gk with
              | zero =>
                have hnl : ¬ (i : Int) < (nv : Int) := by omega
                obtain ⟨w4, hw4⟩ : ∃ w4, w4 = wr := ⟨_, rfl⟩
                subst hw4
                have HBX4 : Hid (w4.heap[bo]? = some (.cells #[.int .i64 okd, .int .i64 oar, .slice oao onn ocp] 34 (0, 0))) := hide (by rw [HTU.out.block bo (heap_lt HBX3.out) HBN.out]; exact HBX3.out)
                have HS4 := hide (HTR.out.cl _ HTU.out)
                have x2 := row_cell HBX4.out 2
                simp only [List.getElem?_toArray, List.getElem?_cons_zero, List.getElem?_cons_succ] at x2
                go_wp2_with fail
                clear x2
                go_loopg [80, 13] onn (fun t v80 v13 wr => ∃ i : Nat, i + t = onn ∧ v80 = .int .i64 (i : Int) ∧ v13 = .bool ((osp.take i).all rightB) ∧ Hid (Below w4.heap.size w4 wr))
                case atStart => exact ⟨0, by omega, rfl, by simp, hide (Below.refl _ _)⟩
                case round =>
                  obtain ⟨i2, hi2, rfl, rfl, HB⟩ := hrel
                  cases gk with
                  | zero =>
                    have hnl2 : ¬ (i2 : Int) < (onn : Int) := by omega
                    have hend : osp.take i2 = osp := List.take_of_length_le (by have := HPL.out; omega)
                    rw [hend]
                    clear hend
                    have HS5 := hide (HS4.out.below HB.out)
                    rcases HTR.out.or_ with ⟨hal, rfl, rfl, rfl, x, rfl, xn, xs⟩ | ⟨hal, rfl, rfl, rfl, rfl⟩
                    · rw [hal]
                      have x2 := row_cell (blk_below HB.out HBX4.out) 2
                      simp only [List.getElem?_toArray, List.getElem?_cons_zero, List.getElem?_cons_succ] at x2
                      obtain ⟨a7, n7, c7, w7, hap, hs7⟩ := HS5.out.push (x := ⟨(c : Int) + 1, oao, onn, ocp, osp⟩) HSP.out (by have h1 := HS.out.lenA HT.out; have := HCJ.out; have := HJN.out; omega)
                      have HS7 := hide hs7
                      have HT7 := hide (HT.out.snoc (x := x) (y := ⟨(c : Int) + 1, oao, onn, ocp, osp⟩) xn xs)
                      have hc63 : IntKind.i64.wrap ((c : Int) + 1) = (c : Int) + 1 := IntWalk.i64_in _ ⟨by omega, by have := HCJ.out; have := HJN.out; omega⟩
                      simp only at hap
                      clear hs7 xn xs hal
                      go_wp2_with (at_builtin; refine wpList_append_eq rfl _ _ rfl rfl rfl hap ?_)
                      go_meet
                      exact ⟨_, _, c + 1, rfl, by simp, by have := HCJ.out; omega, HT7, hide (by have h1 := HS7.out; simpa using h1)⟩
                    · rw [hal]
                      clear hal
                      go_wp2_with fail
                      refine (is_any 20 20 _).mono ?_
                      rintro e w6 ⟨rfl, rfl⟩
                      go_wp2_with fail
                      go_roundg m
                      case measure => omega
                      case rel => exact ⟨j + 1, E', A, c, by omega, by simp, rfl, by have := HCJ.out; omega, HT, HS5⟩
                  | succ m3 =>
                    have hlt3 : (i2 : Int) < (onn : Int) := by omega
                    have hb3 : (0 : Int) ≤ (i2 : Int) := by omega
                    obtain ⟨ao3, cap3, g3, o3, e3', q2, q3, -⟩ := HSP.out
                    injection e3' with e31 e32 e33
                    obtain ⟨s, hs⟩ : ∃ e, osp[i2]? = some e := ⟨osp[i2]'(by have := HPL.out; omega), by rw [List.getElem?_eq_getElem]⟩
                    have hao := (q2 (by have := (List.getElem?_eq_some_iff.1 hs).1; omega)).1
                    rw [hao] at e31
                    subst e31
                    obtain ⟨k0, k1, k2, k3⟩ := cell4_bel (nextB HS4.out.bel HB.out) (q3 i2 s hs)
                    have HTK := hide (take_snoc hs)
                    have hi63 : IntKind.i64.wrap ((i2 : Int) + 1) = (i2 : Int) + 1 := IntWalk.i64_in _ ⟨by omega, by have := HTEN.out; omega⟩
                    have hA3 := bel_alloc wr (.cells #[.int .i64 s.vol, .int .i64 s.frm, .int .i64 s.len, .bool s.wr] 23)
                    have HB3 := hide (nextB HB.out hA3)
                    clear q2 q3 e32 e33 hs hao hA3
                    cases hq : (osp.take i2).all rightB with
                    | true =>
                      have HQ := hide hq
                      clear hq
                      go_wp2_with fail
                      clear k0 k1 k2 k3
                      refine (rright_any s _).mono ?_
                      rintro e w6 ⟨rfl, hb6⟩
                      have HB6 := hide (nextB HB3.out hb6)
                      clear hb6
                      go_wp2_with fail
                      go_roundg m3
                      case measure => omega
                      case rel => exact ⟨i2 + 1, by omega, by simp, by rw [HTK.out, List.all_append, HQ.out]; simp, HB6⟩
                    | false =>
                      have HQ := hide hq
                      clear hq
                      go_wp2_with fail
                      go_roundg m3
                      case measure => omega
                      case rel => exact ⟨i2 + 1, by omega, by simp, by rw [HTK.out, List.all_append, HQ.out]; simp, HB3⟩
              | succ m2 =>
                have hlt2 : (i : Int) < (nv : Int) := by omega
                have hb2 : (0 : Int) ≤ (i : Int) := by omega
                obtain ⟨gv, rfl⟩ : ∃ gv, av = some ⟨gv, 0, none⟩ := by
                  rcases HOV.out.1.2 with ⟨e, -⟩ | ⟨gv, _, _, e, -⟩
                  · injection e with _ e2 _; omega
                  · injection e with e1 _ _; exact ⟨gv, e1⟩
                obtain ⟨cur, hcu, hsz⟩ := HIR.out gv nv cv rfl
                obtain ⟨u, hu⟩ : ∃ u, cur[i * 4]? = some u := ⟨cur[i * 4]'(by omega), by rw [Array.getElem?_eq_getElem]⟩
                have kc : wr.cell? ⟨gv, i * 4, none⟩ = some u := by rw [row_cell hcu]; exact hu
                have kf : wr.frozen? ⟨gv, i * 4, none⟩ = false := row_frozen hcu _
                have HIR2 : Hid (InRow (wr.setCell ⟨gv, i * 4, none⟩ (.int .i64 99)) (.slice (some ⟨gv, 0, none⟩) nv cv)) := hide (by
                  intro g' n' c' e
                  injection e with e1 e2 e3
                  injection e1 with e1
                  injection e1 with e1
                  subst e1 e2
                  exact ⟨_, set_cell_row hcu _, by simp; exact hsz⟩)
                have HTU2 := hide (HTU.out.trans (turn_set (F := fun k => (Value.slice (some ⟨gv, 0, none⟩) nv cv).ownBlock = some k) wr (b := gv) (i := i * 4) (.int .i64 99) rfl) fun _ _ h => h)
                have hi63 : IntKind.i64.wrap ((i : Int) + 1) = (i : Int) + 1 := IntWalk.i64_in _ ⟨by omega, by have h1 := HNV.out; have := HPL.out; have := HTEN.out; omega⟩
                clear hcu hsz hu
                go_wp2_with fail
                go_roundg m2
                case measure => omega
                case rel => exact ⟨i + 1, by omega, by simp, HIR2, HTU2⟩
        have e1 : (okd == 1) = false := by simp [hk1]
        clear hk1
        by_cases hk3 : okd = 3
        · have e3 : (okd == 3) = true := by simp [hk3]
          clear hk3
          as_aux_lemma =>
            have HSB := hide (HS.out.below HA.out)
            obtain ⟨F, htb⟩ := HSB.out.st.tb
            have hR := ready_any htb
            clear htb
            go_wp2_with fail
            refine hR.mono ?_
            rintro e w3 ⟨rv, rfl, hor, hb3⟩
            have HS3 := hide (HSB.out.below hb3)
            have HOR := hide hor
            obtain ⟨ar, nr, cr, rfl, hnr⟩ := hor.form
            have HNR := hide hnr.out
            clear hor hb3 hR hnr
            by_cases hneg : oar < 0
            · go_wp2_with fail
              go_roundg m
              case measure => omega
              case rel => exact ⟨j + 1, E, A, c, by omega, by simp, rfl, by have := HCJ.out; omega, HT, HS3⟩
            by_cases hge : (nr : Int) ≤ oar
            · go_wp2_with fail
              go_roundg m
              case measure => omega
              case rel => exact ⟨j + 1, E, A, c, by omega, by simp, rfl, by have := HCJ.out; omega, HT, HS3⟩
            obtain ⟨kk, hkk⟩ : ∃ kk : Nat, oar = (kk : Int) := ⟨oar.toNat, by omega⟩
            obtain ⟨a5, c5, g5, o5, e5, p2, p3⟩ := HOR.out.ints.at_
            injection e5 with e51 e52 e53
            subst e51
            obtain ⟨rk, hrk⟩ : ∃ r, (rdyN E E.length)[kk]? = some r := ⟨(rdyN E E.length)[kk]'(by rw [← HNR.out]; omega), by rw [List.getElem?_eq_getElem]⟩
            obtain rfl := p2 (by have := (List.getElem?_eq_some_iff.1 hrk).1; omega)
            have kr := p3 kk rk hrk
            rw [hkk] at hneg hge ⊢
            have hkl : (kk : Int) < (nr : Int) := by omega
            have hk0 : (0 : Int) ≤ (kk : Int) := by omega
            clear p2 p3 e52 e53 hrk hkk
            have hDn := HS3.out.doneAny rk
            go_wp2_with fail
            refine hDn.mono ?_
            rintro e w5 (⟨rfl, hno, hs5⟩ | ⟨p, x, rfl, hx, hxn, hf, hs5⟩ | ⟨p, x, rfl, hx, hxn, hf, hs5⟩)
            · have HS5 := hide hs5
              have HNO := hide hno
              have hTh := there_any hs5.ens rk
              clear hs5 hno hDn
              go_wp2_with fail
              refine hTh.mono ?_
              rintro e w6 ⟨⟨r, rfl, hr⟩, rfl⟩
              obtain rfl : r = false := by
                cases r with
                | false => rfl
                | true => obtain ⟨x, hx, hxn⟩ := (there_iff HT.out _).1 (hr.1 rfl); exact absurd hxn (HNO.out x hx)
              clear hr hTh
              go_wp2_with fail
              refine (is_any 130 130 _).mono ?_
              rintro e w7 ⟨rfl, rfl⟩
              go_wp2_with fail
              go_meet
              exact ⟨E, A, c, rfl, rfl, by have := HCJ.out; omega, HT, HS5⟩
            · have HS5 := hide hs5
              obtain ⟨y, hy, hn1, hs1⟩ := tied_at HT.out hx
              have HY := hide hy
              have hna : aheadS A p y ≠ [] := fun e => by
                have h1 := free_iff.2 e
                rw [← HT.out.free hx hy, hf] at h1
                cases h1
              have HNA := hide hna
              have HYN := hide (show y.num = rk by rw [← hn1, hxn])
              have HXE := hide (show ∃ z ∈ E, z.num = rk from ⟨x, List.mem_of_getElem? hx, hxn⟩)
              have hTh := there_any hs5.ens rk
              have HUA := hide (hs5.up HT.out)
              have hAh := rahead_any hs5.ens HUA.out (hs5.small HT.out (by have := HCJ.out; have := HJN.out; omega)) rk
              clear hs5 hDn hx hxn hf hy hn1 hs1 hna
              go_wp2_with fail
              refine hTh.mono ?_
              rintro e w6 ⟨⟨r, rfl, hr⟩, rfl⟩
              obtain rfl : r = true := hr.2 ((there_iff HT.out _).2 HXE.out)
              clear hr hTh
              go_wp2_with fail
              refine hAh.mono ?_
              rintro e w7 ⟨v7, l7, rfl, ho7, hor, hb7⟩
              have hl7 : l7 = aheadS A p y := told_at HUA.out HY.out (by rw [HYN.out]; exact hor)
              obtain ⟨a7, n7, c7, rfl, hn7⟩ := ho7.form
              have hgt : (0 : Int) < (n7 : Int) := by
                have : 0 < n7 := by rw [hn7.out, hl7]; exact List.length_pos_iff.2 HNA.out
                omega
              have HS7 := hide (HS5.out.below hb7)
              clear ho7 hor hb7 hl7 hn7 hAh
              go_wp2_with fail
              refine (is_any 131 131 _).mono ?_
              rintro e w8 ⟨rfl, rfl⟩
              go_wp2_with fail
              go_meet
              exact ⟨E, A, c, rfl, rfl, by have := HCJ.out; omega, HT, HS7⟩
            · have HS5 := hide hs5
              obtain ⟨y, hy, hn1, hs1⟩ := tied_at HT.out hx
              have HY := hide hy
              have HNA := hide (free_iff.1 (show freeB A y p = true by rw [← HT.out.free hx hy]; exact hf))
              have HYN := hide (show y.num = rk by rw [← hn1, hxn])
              have HXE := hide (show ∃ z ∈ E, z.num = rk from ⟨x, List.mem_of_getElem? hx, hxn⟩)
              have hTh := there_any hs5.ens rk
              have HUA := hide (HS3.out.up HT.out)
              have hAh := rahead_any hs5.ens HUA.out (HS3.out.small HT.out (by have := HCJ.out; have := HJN.out; omega)) rk
              have HLA := hide (show A.length ≤ 900 by have h1 := HS3.out.lenA HT.out; have := HCJ.out; have := HJN.out; omega)
              clear hs5 hDn hx hxn hf hy hn1 hs1
              go_wp2_with fail
              refine hTh.mono ?_
              rintro e w6 ⟨⟨r, rfl, hr⟩, rfl⟩
              obtain rfl : r = true := hr.2 ((there_iff HT.out _).2 HXE.out)
              clear hr hTh
              go_wp2_with fail
              refine hAh.mono ?_
              rintro e w7 ⟨v7, l7, rfl, ho7, hor, hb7⟩
              have hl7 : l7 = aheadS A p y := told_at HUA.out HY.out (by rw [HYN.out]; exact hor)
              obtain ⟨a7, n7, c7, rfl, hn7⟩ := ho7.form
              obtain rfl : n7 = 0 := by rw [hn7.out, hl7, HNA.out]; rfl
              have HS7 := hide (HS5.out.below hb7)
              clear ho7 hor hb7 hl7 hn7 hAh
              go_wp2_with fail
              refine (is_any 0 0 _).mono ?_
              rintro e w8 ⟨rfl, rfl⟩
              have hWo := without_any HS7.out.ens HLA.out rk
              go_wp2_with fail
              refine hWo.mono ?_
              rintro e w9 ⟨v9, rfl, ho9, hb9⟩
              obtain ⟨a9, n9, c9, rfl, -⟩ := ho9.form
              have HS9 := hide (HS7.out.swap hb9 ho9 (fun e he => (List.mem_filter.1 he).1))
              have HT9 := hide (show Tied (E.take p ++ E.drop (p + 1)) (A.filter fun e => e.num != rk) by rw [← HYN.out, filter_cut HUA.out HY.out]; exact HT.out.cut p)
              clear ho9 hb9 hWo
              go_wp2_with fail
              go_meet
              exact ⟨_, _, c, rfl, rfl, by have := HCJ.out; omega, HT9, HS9⟩
        have e3 : (okd == 3) = false := by simp [hk3]
        clear hk3
        by_cases hk2 : okd = 2
        · have e2 : (okd == 2) = true := by simp [hk2]
          clear hk2
          as_aux_lemma =>
            have HSB := hide (HS.out.below HA.out)
            have hDn := HSB.out.doneAny oar
            go_wp2_with fail
            refine hDn.mono ?_
            rintro e w5 (⟨rfl, hno, hs5⟩ | ⟨p, x, rfl, hx, hxn, hf, hs5⟩ | ⟨p, x, rfl, hx, hxn, hf, hs5⟩)
            · have HS5 := hide hs5
              have HNO := hide hno
              have hTh := there_any hs5.ens oar
              clear hs5 hno hDn
              go_wp2_with fail
              refine hTh.mono ?_
              rintro e w6 ⟨⟨r, rfl, hr⟩, rfl⟩
              obtain rfl : r = false := by
                cases r with
                | false => rfl
                | true => obtain ⟨x, hx, hxn⟩ := (there_iff HT.out _).1 (hr.1 rfl); exact absurd hxn (HNO.out x hx)
              clear hr hTh
              go_wp2_with fail
              refine (is_any 130 130 _).mono ?_
              rintro e w7 ⟨rfl, rfl⟩
              go_wp2_with fail
              go_meet
              exact ⟨E, A, c, rfl, rfl, by have := HCJ.out; omega, HT, HS5⟩
            · have HS5 := hide hs5
              obtain ⟨y, hy, hn1, hs1⟩ := tied_at HT.out hx
              have HY := hide hy
              have hna : aheadS A p y ≠ [] := fun e => by
                have h1 := free_iff.2 e
                rw [← HT.out.free hx hy, hf] at h1
                cases h1
              have HNA := hide hna
              have HYN := hide (show y.num = oar by rw [← hn1, hxn])
              have HXE := hide (show ∃ z ∈ E, z.num = oar from ⟨x, List.mem_of_getElem? hx, hxn⟩)
              have hTh := there_any hs5.ens oar
              have HUA := hide (hs5.up HT.out)
              have hAh := rahead_any hs5.ens HUA.out (hs5.small HT.out (by have := HCJ.out; have := HJN.out; omega)) oar
              clear hs5 hDn hx hxn hf hy hn1 hs1 hna
              go_wp2_with fail
              refine hTh.mono ?_
              rintro e w6 ⟨⟨r, rfl, hr⟩, rfl⟩
              obtain rfl : r = true := hr.2 ((there_iff HT.out _).2 HXE.out)
              clear hr hTh
              go_wp2_with fail
              refine hAh.mono ?_
              rintro e w7 ⟨v7, l7, rfl, ho7, hor, hb7⟩
              have hl7 : l7 = aheadS A p y := told_at HUA.out HY.out (by rw [HYN.out]; exact hor)
              obtain ⟨a7, n7, c7, rfl, hn7⟩ := ho7.form
              have hgt : (0 : Int) < (n7 : Int) := by
                have : 0 < n7 := by rw [hn7.out, hl7]; exact List.length_pos_iff.2 HNA.out
                omega
              have HS7 := hide (HS5.out.below hb7)
              clear ho7 hor hb7 hl7 hn7 hAh
              go_wp2_with fail
              refine (is_any 131 131 _).mono ?_
              rintro e w8 ⟨rfl, rfl⟩
              go_wp2_with fail
              go_meet
              exact ⟨E, A, c, rfl, rfl, by have := HCJ.out; omega, HT, HS7⟩
            · have HS5 := hide hs5
              obtain ⟨y, hy, hn1, hs1⟩ := tied_at HT.out hx
              have HY := hide hy
              have HNA := hide (free_iff.1 (show freeB A y p = true by rw [← HT.out.free hx hy]; exact hf))
              have HYN := hide (show y.num = oar by rw [← hn1, hxn])
              have HXE := hide (show ∃ z ∈ E, z.num = oar from ⟨x, List.mem_of_getElem? hx, hxn⟩)
              have hTh := there_any hs5.ens oar
              have HUA := hide (HSB.out.up HT.out)
              have hAh := rahead_any hs5.ens HUA.out (HSB.out.small HT.out (by have := HCJ.out; have := HJN.out; omega)) oar
              have HLA := hide (show A.length ≤ 900 by have h1 := HSB.out.lenA HT.out; have := HCJ.out; have := HJN.out; omega)
              clear hs5 hDn hx hxn hf hy hn1 hs1
              go_wp2_with fail
              refine hTh.mono ?_
              rintro e w6 ⟨⟨r, rfl, hr⟩, rfl⟩
              obtain rfl : r = true := hr.2 ((there_iff HT.out _).2 HXE.out)
              clear hr hTh
              go_wp2_with fail
              refine hAh.mono ?_
              rintro e w7 ⟨v7, l7, rfl, ho7, hor, hb7⟩
              have hl7 : l7 = aheadS A p y := told_at HUA.out HY.out (by rw [HYN.out]; exact hor)
              obtain ⟨a7, n7, c7, rfl, hn7⟩ := ho7.form
              obtain rfl : n7 = 0 := by rw [hn7.out, hl7, HNA.out]; rfl
              have HS7 := hide (HS5.out.below hb7)
              clear ho7 hor hb7 hl7 hn7 hAh
              go_wp2_with fail
              refine (is_any 0 0 _).mono ?_
              rintro e w8 ⟨rfl, rfl⟩
              have hWo := without_any HS7.out.ens HLA.out oar
              go_wp2_with fail
              refine hWo.mono ?_
              rintro e w9 ⟨v9, rfl, ho9, hb9⟩
              obtain ⟨a9, n9, c9, rfl, -⟩ := ho9.form
              have HS9 := hide (HS7.out.swap hb9 ho9 (fun e he => (List.mem_filter.1 he).1))
              have HT9 := hide (show Tied (E.take p ++ E.drop (p + 1)) (A.filter fun e => e.num != oar) by rw [← HYN.out, filter_cut HUA.out HY.out]; exact HT.out.cut p)
              clear ho9 hb9 hWo
              go_wp2_with fail
              go_meet
              exact ⟨_, _, c, rfl, rfl, by have := HCJ.out; omega, HT9, HS9⟩
        have e2 : (okd == 2) = false := by simp [hk2]
        clear hk2
        as_aux_lemma =>
          go_wp2_with fail
          go_meet
          exact ⟨E, A, c, rfl, rfl, by have := HCJ.out; omega, HT, hide (HS.out.below HA.out)⟩
       case rest =>
        clear HT HS HA HBX HBO HCJ HSP HPL HTEN E A c
        obtain ⟨E, A, c, rfl, rfl, hcj, HT, HS⟩ := hcut
        as_aux_lemma =>
          obtain ⟨a4, n4, c4, rfl, hn4⟩ := HS.out.al.form
          obtain rfl : n4 = A.length := hn4.out
          have HUA := hide (HS.out.up HT.out)
          have HSM := hide (HS.out.small HT.out (by have := HJN.out; omega))
          have HLA := hide (HS.out.lenA HT.out)
          have HC := hide hcj
          obtain ⟨nA, hnA⟩ : ∃ nA, A.length = nA := ⟨_, rfl⟩
          simp only [hnA] at HS ⊢
          have HNA := hide hnA
          obtain ⟨ao5, cap5, g5, off5, e5, p2, p3, -, p5, -⟩ := HS.out.ens
          injection e5 with e51 e52 e53
          subst e51 e53
          have P2 := hide p2
          have P3 := hide p3
          have HN900 := hide (show nA ≤ 900 by have h1 := HLA.out; have h2 := HJN.out; omega)
          clear hn4 hnA p2 p3 p5 e52 hcj
          go_wp2_with fail
          go_loopg [152, 19, 20] nA (fun t v152 v19 v20 wr => ∃ i : Nat, i + t = nA ∧ v152 = .int .i64 (i : Int) ∧ Hid (TwoI wc wr v19 v20 ((A.take i).map En.num) (rdyN A i)))
          case atStart => exact ⟨0, by omega, rfl, hide (TwoI.start _)⟩
          case round =>
            obtain ⟨i, hi, rfl, HW⟩ := hrel
            obtain ⟨a19, n19, c19, rfl, -⟩ := HW.out.o1.form
            obtain ⟨a20, n20, c20, rfl, -⟩ := HW.out.o2.form
            have HS1 := hide (HS.out.below HW.out.bel)
            cases gk with
            | zero =>
              have hnl : ¬ (i : Int) < (nA : Int) := by omega
              have hend : A.take i = A := List.take_of_length_le (by rw [HNA.out]; omega)
              rw [hend] at HW
              obtain rfl : i = nA := by omega
              obtain ⟨F, htb⟩ := HS1.out.st.tb
              have hWt := waiting_any htb
              clear hend htb
              go_wp2_with fail
              refine hWt.mono ?_
              rintro e w2 ⟨v2, rfl, ho2, hb2⟩
              have hI := ints_any ho2.ints (HW.out.below hb2).o1.ints
              rw [decide_eq_true HT.out.nums] at hI
              have HW2 := hide (HW.out.below hb2)
              have HS2 := hide (HS1.out.below hb2)
              obtain ⟨a2, n2, c2, rfl, -⟩ := ho2.form
              clear ho2 hb2 hWt
              go_wp2_with fail
              refine hI.mono ?_
              rintro e w3 ⟨rfl, hb3⟩
              have HW3 := hide (HW2.out.below hb3)
              have HS3 := hide (HS2.out.below hb3)
              clear hb3 hI
              obtain ⟨F, htb⟩ := HS3.out.st.tb
              have hRd := ready_any htb
              clear htb
              go_wp2_with fail
              refine hRd.mono ?_
              rintro e w4 ⟨v4, rfl, ho4, hb4⟩
              have hI := ints_any ho4.ints (HW3.out.below hb4).o2.ints
              rw [decide_eq_true (by rw [HT.out.rdy, HT.out.len, HNA.out])] at hI
              have HS4 := hide (HS3.out.below hb4)
              obtain ⟨a4', n4', c4', rfl, -⟩ := ho4.form
              clear ho4 hb4 hRd
              go_wp2_with fail
              refine hI.mono ?_
              rintro e w5 ⟨rfl, hb5⟩
              have HS5 := hide (HS4.out.below hb5)
              clear hb5 hI
              obtain ⟨F, htb⟩ := HS5.out.st.tb
              have hM0 := may_any htb 0
              clear htb
              go_wp2_with fail
              refine hM0.mono ?_
              rintro e w6 ⟨⟨r, rfl, hr⟩, hb6⟩
              obtain rfl : r = false := by
                cases r with
                | false => rfl
                | true => exact absurd (hr.1 rfl) (May_none (fun x hx e => by have := HS.out.st.num x hx; omega))
              have HS6 := hide (HS5.out.below hb6)
              clear hr hb6 hM0
              have hc63 : IntKind.i64.wrap ((c : Int) + 1) = (c : Int) + 1 := IntWalk.i64_in _ ⟨by omega, by have := HC.out; have := HJN.out; omega⟩
              obtain ⟨F, htb⟩ := HS6.out.st.tb
              have hM1 := may_any htb ((c : Int) + 1)
              clear htb
              go_wp2_with fail
              refine hM1.mono ?_
              rintro e w7 ⟨⟨r, rfl, hr⟩, hb7⟩
              have HNO : Hid (∀ x ∈ E, x.num ≠ (c : Int) + 1) := hide (fun x hx e => by have := HS.out.st.num x hx; omega)
              obtain rfl : r = false := by
                cases r with
                | false => rfl
                | true => exact absurd (hr.1 rfl) (May_none HNO.out)
              have HS7 := hide (HS6.out.below hb7)
              clear hr hb7 hM1
              obtain ⟨F, htb⟩ := HS7.out.st.tb
              have hA1 := ahead_any htb ((c : Int) + 1)
              clear htb
              go_wp2_with fail
              refine hA1.mono ?_
              rintro e w8 ⟨v8, l8, rfl, ho8, hor, hb8⟩
              have hl8 : l8 = [] := by
                rcases hor with ⟨q, x, hx, hxn, -⟩ | ⟨-, h⟩
                · exact absurd hxn (HNO.out x (List.mem_of_getElem? hx))
                · exact h
              obtain ⟨a8, n8, c8, rfl, hn8⟩ := ho8.form
              obtain rfl : n8 = 0 := by rw [hn8.out, hl8]; rfl
              have HS8 := hide (HS7.out.below hb8)
              clear ho8 hor hl8 hb8 hn8 hA1
              go_wp2_with fail
              go_roundg m
              case measure => omega
              case rel => exact ⟨j + 1, E, A, c, by omega, by simp, rfl, by have := HC.out; omega, HT, HS8⟩
            | succ m2 =>
              have hlt2 : (i : Int) < (nA : Int) := by omega
              have hb2 : (0 : Int) ≤ (i : Int) := by omega
              obtain ⟨y, hy⟩ : ∃ e, A[i]? = some e := ⟨A[i]'(by rw [HNA.out]; omega), by rw [List.getElem?_eq_getElem]⟩
              obtain rfl := P2.out (by rw [HNA.out]; omega)
              obtain ⟨k0, k1⟩ := P3.out i y hy
              replace k0 := cell_bel HW.out.bel k0
              replace k1 := cell_bel HW.out.bel k1
              have HY := hide hy
              obtain ⟨x, hx, hxn, hxs⟩ := tied_at' HT.out hy
              have HX := hide hx
              have HXN := hide hxn
              have hA1 := bel_alloc wr (.cells #[.int .i64 y.num, .slice y.ao y.n y.cap] 44)
              have HBY : Hid (BoxT 44 (wr.alloc (.cells #[.int .i64 y.num, .slice y.ao y.n y.cap] 44)) wr.heap.size y.num (.slice y.ao y.n y.cap)) := hide (heap_alloc_new _ _)
              have HW1 := hide (HW.out.below hA1)
              have HS2 := hide (HS1.out.below hA1)
              have hRA := rahead_any HS2.out.ens HUA.out HSM.out y.num
              have hi63 : IntKind.i64.wrap ((i : Int) + 1) = (i : Int) + 1 := IntWalk.i64_in _ ⟨by omega, by have := HN900.out; omega⟩
              obtain ⟨by_, hby⟩ : ∃ by_, wr.heap.size = by_ := ⟨_, rfl⟩
              simp only [hby] at HBY
              have HNB : Hid ((Value.slice a19 n19 c19).ownBlock ≠ some by_) := hide (fun e => by have := (HW.out.o1.lt by_ e).2; omega)
              clear hy hx hxn hxs hA1
              go_wp2_with fail
              clear k0 k1
              refine hRA.mono ?_
              rintro e w2 ⟨v23, l23, rfl, ho23, hor, hb2'⟩
              have hl23 : l23 = aheadS A i y := told_at HUA.out HY.out hor
              subst hl23
              obtain ⟨a23, n23, c23, rfl, hn23⟩ := ho23.form
              have HN23 := hide hn23.out
              have HO23 := hide ho23
              have HW2 := hide (HW1.out.below hb2')
              have HS3 := hide (HS2.out.below hb2')
              have HBY2 := hide (HBY.out.below hb2')
              have y0 := HBY2.out.c0
              obtain ⟨F, htb⟩ := HS3.out.st.tb
              have hTA := ahead_any htb y.num
              clear hor ho23 hb2' hRA hn23 htb hby
              go_wp2_with fail
              refine hTA.mono ?_
              rintro e w3 ⟨v3, l3, rfl, ho3, hor, hb3⟩
              have hl3 : l3 = aheadS A i y := by
                rw [← HT.out.ahead HX.out HY.out]
                exact told_at HS.out.st.up HX.out (by rw [HXN.out]; exact hor)
              subst hl3
              have hI := ints_any ho3.ints (HO23.out.below hb3).ints
              rw [decide_eq_true rfl] at hI
              obtain ⟨a3, n3, c3, rfl, -⟩ := ho3.form
              have HW3 := hide (HW2.out.below hb3)
              have HS4 := hide (HS3.out.below hb3)
              have HBY3 := hide (HBY2.out.below hb3)
              clear hor ho3 hb3 hTA y0
              go_wp2_with fail
              refine hI.mono ?_
              rintro e w4 ⟨rfl, hb4⟩
              have HW4 := hide (HW3.out.below hb4)
              have HS5 := hide (HS4.out.below hb4)
              have HBY4 := hide (HBY3.out.below hb4)
              have y0 := HBY4.out.c0
              obtain ⟨F, htb⟩ := HS5.out.st.tb
              have hMy := may_any htb y.num
              clear hb4 hI htb
              go_wp2_with fail
              refine hMy.mono ?_
              rintro e w5 ⟨⟨r, rfl, hr⟩, hb5⟩
              obtain ⟨z, hz⟩ : ∃ z, ((n23 : Int) == 0) = z := ⟨_, rfl⟩
              have hfz : freeB A y i = z := by
                rw [Bool.eq_iff_iff, free_iff, ← hz]
                simp only [beq_iff_eq]
                rw [← List.length_eq_zero_iff, ← HN23.out]
                omega
              have hrz : r = z := by
                rw [← hfz, Bool.eq_iff_iff, hr, ← HXN.out, May_at HS.out.st.up HX.out, HT.out.free HX.out HY.out]
              have hzz : (z != z) = false := by simp
              subst hrz
              have HFZ := hide hfz
              have HW5 := hide (HW4.out.below hb5)
              have HS6 := hide (HS5.out.below hb5)
              have HBY5 := hide (HBY4.out.below hb5)
              clear y0 hr hfz hb5 hMy
              have y0 := HBY5.out.c0
              obtain ⟨a6, n6, c6, w6, hap, hw6, hk6⟩ := HW5.out.app (k := y.num) (HSM.out y (List.mem_of_getElem? HY.out)) (by have := HN900.out; simp; omega)
              have HW6 := hide hw6
              have HBY6 : Hid (BoxT 44 w6 by_ y.num (.slice y.ao y.n y.cap)) := hide (hk6 by_ _ (fun e => HNB.out e) HBY5.out)
              clear hw6 hk6
              cases r with
              | false =>
                go_wp2_with (at_builtin; refine wpList_append_eq rfl _ _ rfl rfl rfl hap ?_)
                go_roundg m2
                case measure => omega
                case rel => exact ⟨i + 1, by omega, by simp, hide (by rw [nums_snoc HY.out, rdyN_no HY.out HFZ.out]; exact HW6.out)⟩
              | true =>
                have y1 := HBY6.out.c0
                obtain ⟨a7, n7, c7, w7, hap2, hw7, -⟩ := HW6.out.swap.app (k := y.num) (HSM.out y (List.mem_of_getElem? HY.out)) (by have h1 := rdyN_length A i; have := HN900.out; omega)
                have HW7 := hide hw7.swap
                clear hw7
                go_wp2_with (first | (at_builtin; refine wpList_append_eq rfl _ _ rfl rfl rfl hap ?_; clear hap) | (at_builtin; refine wpList_append_eq rfl _ _ rfl rfl rfl hap2 ?_))
                go_roundg m2
                case measure => omega
                case rel => exact ⟨i + 1, by omega, by simp, hide (by rw [nums_snoc HY.out, rdyN_yes HY.out HFZ.out]; exact HW7.out)⟩
end Go.Proofs.Ytjofbehmhdjohaa
