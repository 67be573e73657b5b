/- The statement FaultIs, walked: it returns true, and nothing that was there has turned. -/
import Derived.Test.YtijphfgefnpepaaDoorAny
namespace Go.Proofs.YtijphfgefnpepaaDoor
open Go.RowKit Go.Extern.Stop Go.Stop Go.Extern

theorem info27 : (Tryd.prog.info? 27).map (fun i => (i.zero, i.size, i.bytes)) = some (some (.int .i64 0), 1, 8) := by kernel_rfl

theorem codes_form {w : World} {base : Nat} {v : Value} {cs : List Int} (h : w.ownsRow base 27 1 v cs.length (cs.map (Value.int .i64))) : Codes w v cs := by
  rcases h.2 with ⟨rfl, h0⟩ | ⟨g, cap, cur, rfl, -, hh, -, -, -, ht⟩
  · have : cs = [] := List.length_eq_zero_iff.1 h0
    subst this
    exact ⟨none, 0, 0, 0, rfl, by simp, by simp⟩
  · refine ⟨_, cap, g, 0, rfl, fun _ => rfl, fun i q hq => ?_⟩
    have hi : i < cs.length := (List.getElem?_eq_some_iff.1 hq).1
    have e1 : (cs.map (Value.int .i64))[i]? = some (.int .i64 q) := by simp [hq]
    rw [← ht, List.getElem?_take_of_lt (by omega)] at e1
    simp [World.cell?, hh]
    simpa using e1

theorem beq_comm_int (a b : Int) : (a == b) = (b == a) := by
  rw [Bool.eq_iff_iff, beq_iff_eq, beq_iff_eq]; exact eq_comm

set_option maxRecDepth 100000 in
set_option maxHeartbeats 2000000 in
theorem asks_any (ls : List Lk) (lv : Value) (cs : List Int) (cv : Value) (c o : Int) (w : World) (hv : Links w lv ls) (hcv : Codes w cv cs) (hL : Laid w) :
    Calls Tryd.prog 4 #[.agg #[lv, .int .i64 c, .int .i64 o, cv]] w fun ev w' => ev = .returned (.bool true) ∧ Below w.heap.size w w' := by
  by_cases hl : ls.length ≤ 200
  · by_cases hm : cs.length ≤ 200
    · have HV := hide hv
      have HL := hide hL
      obtain ⟨ao, cap, b, off, rfl, -, -⟩ := hv
      obtain ⟨co, ccap, cg, coff, rfl, h2, h3⟩ := hcv
      have H2 := hide h2
      have H3 := hide h3
      obtain ⟨i0, hi, hi2⟩ := Option.map_eq_some_iff.1 info27
      simp only [Prod.mk.injEq] at hi2
      have HI := hide (And.intro hi hi2)
      clear h2 h3 hL hi hi2
      have d1 : decide ((200 : Int) < (ls.length : Int)) = false := by simp; omega
      have d2 : decide ((200 : Int) < (cs.length : Int)) = false := by simp; omega
      go_enter Tryd.func4, Tryd.ntmps4
      go_wp2
      go_quiet (fail)
      go_wp2_with fail
      have hb0 : Below w.heap.size w ((w.alloc (.cells #[.slice ao ls.length cap, .int .i64 c, .int .i64 o, .slice co cs.length ccap] 40)).drewN nq) := below_drewN ((Below.refl _ _).alloc (Nat.le_refl _) _) _
      refine (chain_any ls _ c _ (Links.below hb0 HV.out) (by omega)).mono ?_
      rintro ev w1 ⟨e, rfl, hc, hb1⟩
      have HB := hide (hb0.trans (hb1.mono hb0.size))
      have HC := hide hc
      clear hc hb1 hb0
      go_wp2
      go_loopg [8, 9, 34] cs.length (fun k lv am i wr => ∃ j, j + k = cs.length ∧ i = .int .i64 (j : Int) ∧ wr.ownsRow w1.heap.size 27 1 lv j ((cs.take j).map (Value.int .i64)) ∧ am = .bool (anyB c (cs.take j)) ∧ Below w1.heap.size w1 wr)
      case atStart => exact ⟨0, by omega, rfl, World.ownsRow_nil _ _ _ _, rfl, Below.refl _ _⟩
      case round =>
        obtain ⟨j, hj, rfl, hown, rfl, hbr⟩ := hrel
        have HO := hide hown
        have HBr := hide hbr
        clear hown hbr
        cases gk with
        | zero =>
          have hlt : ¬ (j : Int) < (cs.length : Int) := by omega
          have htk : cs.take j = cs := List.take_of_length_le (by omega)
          have hjc : j = cs.length := by omega
          have hown := HO.out
          rw [htk, hjc] at hown
          have HCo := hide (codes_form hown)
          rw [htk]
          clear HO hown htk hjc
          generalize hab : anyB c cs = ab
          have HAB := hide hab
          clear hab
          go_wp2_with fail
          refine (is_any ls c c _ _ (Chain.below HBr.out _ _ _ HC.out)).mono ?_
          rintro ev w2 ⟨rfl, rfl⟩
          rw [show (c == c) = true by simp]
          go_wp2_with fail
          refine (is_any ls c o _ _ (Chain.below HBr.out _ _ _ HC.out)).mono ?_
          rintro ev w2 ⟨rfl, rfl⟩
          obtain ⟨bo, hbo⟩ : ∃ bo, (c == o) = bo := ⟨_, rfl⟩
          rw [hbo]
          cases bo
          all_goals
            go_wp2_with fail
            refine (isAny_chain ls c _ cs _ _ (Chain.below HBr.out _ _ _ HC.out) ((HL.out.below HB.out).below HBr.out) HCo.out (by omega)).mono ?_
            rintro ev w3 ⟨rfl, hb3⟩
            have HB3 := hide (HBr.out.trans (hb3.mono HBr.out.size))
            clear hb3
            rw [HAB.out]
            go_wp2_with fail
            refine (awake_any _ ((HL.out.below HB.out).below HB3.out)).mono ?_
            rintro ev w4 ⟨rfl, hb4⟩
            have HB4 := hide (HB3.out.trans (hb4.mono HB3.out.size))
            clear hb4
            go_wp2
            go_ret
            exact ⟨rfl, HB.out.trans (HB4.out.mono HB.out.size)⟩
        | succ m =>
          have hlt : (j : Int) < (cs.length : Int) := by omega
          have hjl : j < cs.length := by omega
          have hj0 : (0 : Int) ≤ (j : Int) := by omega
          obtain ⟨q, hq⟩ : ∃ q, cs[j]? = some q := ⟨cs[j], by simp [hjl]⟩
          have k0 := H3.out j q hq
          have hbw := HB.out.trans (HBr.out.mono HB.out.size)
          have k1 : wr.cell? ⟨cg, coff + j, none⟩ = some (.int .i64 q) := by rw [hbw.cell (cell_lt k0)]; exact k0
          have hco : co = some ⟨cg, coff, none⟩ := H2.out (by omega)
          subst hco
          have htk : cs.take (j + 1) = cs.take j ++ [q] := by rw [List.take_add_one, hq]; rfl
          have HT := hide htk
          clear hq k0 hbw htk
          generalize hab : anyB c (cs.take j) = ab
          have HAB := hide hab
          clear hab
          go_wp2_with (at_builtin; refine wpList_append_lies _ rfl _ _ 41 rfl w1.heap.size 27 i0 (.int .i64 0) 1 8 Tryd.underlying41 HI.out.1 HI.out.2.1 HI.out.2.2.1 HI.out.2.2.2 rfl (by decide) _ _ _ rfl (HO.out.alloc _) ⟨wr.heap.size, 0, none⟩ 1 1 [.int .i64 q] rfl rfl ?c1 ?c2 (by decide) ?c3 ?c4 ?c5 (wr.heap.size + 1) (by simp) ?_)
          case c2 => rfl
          case c3 => unfold maxLen; omega
          case c4 => omega
          case c5 => have := HBr.out.size; omega
          intro g cap2 w2 hown2 hgrow hat hlt2
          have hb2 : Below w1.heap.size w1 w2 := (HBr.out.alloc HBr.out.size _).grown hgrow (by have := HBr.out.size; simp; omega) (fun q hq => (HO.out.lt q hq).1)
          have HB2 := hide hb2
          have HO2 := hide hown2
          clear hb2 hown2 hgrow hat hlt2 k1
          obtain ⟨bq, hbq⟩ : ∃ bq, (q == c) = bq := ⟨_, rfl⟩
          have HQ2 : Hid (anyB c (cs.take (j + 1)) = (ab || bq)) := by
            have e1 : anyB c (cs.take (j + 1)) = (anyB c (cs.take j) || (c == q)) := by rw [HT.out, anyB_snoc]
            rw [HAB.out, beq_comm_int c q, hbq] at e1
            exact e1
          have HOn : Hid (w2.ownsRow w1.heap.size 27 1 (.slice (some ⟨g, 0, none⟩) (j + 1) cap2) (j + 1) ((cs.take (j + 1)).map (Value.int .i64))) := by
            have h9 := HO2.out
            rw [← List.map_take] at h9
            rw [HT.out, List.map_append]; exact h9
          cases ab
          · cases bq
            all_goals
              go_wp2
              go_roundg m
              case measure => omega
              case rel => exact ⟨j + 1, by omega, by go_num, HOn.out, by rw [HQ2.out]; rfl, HB2.out⟩
          · go_wp2
            go_roundg m
            case measure => omega
            case rel => exact ⟨j + 1, by omega, by go_num, HOn.out, by rw [HQ2.out]; rfl, HB2.out⟩
    · obtain ⟨ao, cap, b, off, rfl, -, -⟩ := hv
      obtain ⟨co, ccap, cg, coff, rfl, -, -⟩ := hcv
      have d1 : decide ((200 : Int) < (ls.length : Int)) = false := by simp; omega
      have d2 : decide ((200 : Int) < (cs.length : Int)) = true := by simp; omega
      have HL := hide hL
      clear hL hl hm
      go_enter Tryd.func4, Tryd.ntmps4
      go_wp2
      go_quiet (fail)
      go_wp2_with fail
      have hb0 : Below w.heap.size w ((w.alloc (.cells #[.slice ao ls.length cap, .int .i64 c, .int .i64 o, .slice co cs.length ccap] 40)).drewN nq) := below_drewN ((Below.refl _ _).alloc (Nat.le_refl _) _) _
      refine (awake_any _ (HL.out.below hb0)).mono ?_
      rintro ev w1 ⟨rfl, hb1⟩
      have HB := hide (hb0.trans (hb1.mono hb0.size))
      clear hb1 hb0
      go_wp2
      go_ret
      exact ⟨rfl, HB.out⟩
  · obtain ⟨ao, cap, b, off, rfl, -, -⟩ := hv
    obtain ⟨co, ccap, cg, coff, rfl, -, -⟩ := hcv
    have d1 : decide ((200 : Int) < (ls.length : Int)) = true := by simp; omega
    have HL := hide hL
    clear hL hl
    go_enter Tryd.func4, Tryd.ntmps4
    go_wp2
    go_quiet (fail)
    go_wp2_with fail
    have hb0 : Below w.heap.size w ((w.alloc (.cells #[.slice ao ls.length cap, .int .i64 c, .int .i64 o, .slice co cs.length ccap] 40)).drewN nq) := below_drewN ((Below.refl _ _).alloc (Nat.le_refl _) _) _
    refine (awake_any _ (HL.out.below hb0)).mono ?_
    rintro ev w1 ⟨rfl, hb1⟩
    have HB := hide (hb0.trans (hb1.mono hb0.size))
    clear hb1 hb0
    go_wp2
    go_ret
    exact ⟨rfl, HB.out⟩
end Go.Proofs.YtijphfgefnpepaaDoor
