/- The statement FaultWraps, walked: it returns true, and nothing that was there has turned. -/
import Derived.Test.YtijphfgefnpepaaDoorPath
namespace Go.Proofs.YtijphfgefnpepaaDoor
open Go.RowKit Go.Extern.Stop Go.Stop Go.Extern

theorem codeEnd (c : Int) : EndOk (.iface 27 (.int .i64 c)) := Or.inr ⟨c, rfl⟩

/-- What a path looks like: a slice of just the words. -/
theorem path_form {w : World} {base : Nat} {v : Value} {l : List Lk} (h : w.ownsRow base 9 1 v l.length (words l)) :
    ∃ pa cap g, v = .slice pa l.length cap ∧ (0 < l.length → pa = some ⟨g, 0, none⟩) ∧ ∀ (i : Nat) k, l[i]? = some k → w.cell? ⟨g, i, none⟩ = some (.string k.op) := by
  rcases h.2 with ⟨rfl, h0⟩ | ⟨g, cap, cur, rfl, -, hh, -, -, -, ht⟩
  · have : l = [] := List.length_eq_zero_iff.1 h0
    subst this
    exact ⟨none, 0, 0, rfl, by simp, by simp⟩
  · refine ⟨_, cap, g, rfl, fun _ => rfl, fun i k hk => ?_⟩
    have hi : i < l.length := (List.getElem?_eq_some_iff.1 hk).1
    have e1 : (words l)[i]? = some (.string k.op) := by simp [words, hk]
    rw [← ht, List.getElem?_take_of_lt (by omega)] at e1
    simp [World.cell?, hh]
    simpa using e1

set_option maxRecDepth 100000 in
set_option maxHeartbeats 2000000 in
theorem wraps_any (ls : List Lk) (v : Value) (c : Int) (w : World) (hv : Links w v ls) (hL : Laid w) :
    Calls Tryd.prog 3 #[v, .int .i64 c] w fun ev w' => ev = .returned (.bool true) ∧ Below w.heap.size w w' := by
  by_cases hl : ls.length ≤ 200
  · have HCh := hide (chain_any ls v c w hv (by omega))
    have HL := hide hL
    obtain ⟨ao, cap, b, off, rfl, h2, h3⟩ := hv
    have H2 := hide h2
    have H3 := hide h3
    clear h2 h3 hL
    have hl2 : ¬ (200 : Int) < (ls.length : Int) := by omega
    go_enter Tryd.func3, Tryd.ntmps3
    go_wp2_with fail
    refine HCh.out.mono ?_
    rintro ev w1 ⟨e, rfl, hc, hb⟩
    have HC := hide hc
    have HB := hide hb
    obtain ⟨T, x, hx⟩ := hc.form
    subst hx
    clear hc hb
    go_wp2_with fail
    refine (codeOf_chain ls c _ _ HC.out (HL.out.below HB.out)).mono ?_
    rintro ev w2 ⟨rfl, hb2⟩
    have HB2 := hide hb2
    clear hb2
    go_wp2_with fail
    refine (depth_any _ (codeEnd c) ls _ _ (Chain.ch _ _ (Chain.below HB2.out _ _ _ HC.out)) ((HL.out.below HB.out).below HB2.out) (by omega)).mono ?_
    rintro ev w3 ⟨rfl, hb3⟩
    have HB3 := hide (HB2.out.trans (hb3.mono HB2.out.size))
    clear hb3 HB2
    go_wp2_with fail
    refine (path_any _ (codeEnd c) ls _ _ (Chain.ch _ _ (Chain.below HB3.out _ _ _ HC.out)) ((HL.out.below HB.out).below HB3.out) (by omega)).mono ?_
    rintro ev w4 ⟨pv, rfl, hown, hb4⟩
    obtain ⟨pa, pcap, pg, rfl, hp1, hp2⟩ := path_form hown
    have HP1 := hide hp1
    have HP2 := hide hp2
    have HB4 := hide (HB3.out.trans (hb4.mono HB3.out.size))
    clear hb4 HB3 hown hp1 hp2
    go_wp2
    go_loopg [57] ls.length (fun k i wr => ∃ j, j + k = ls.length ∧ i = .int .i64 (j : Int) ∧ Below w4.heap.size w4 wr)
    case atStart => exact ⟨0, by omega, rfl, Below.refl _ _⟩
    case round =>
      clear HCh
      obtain ⟨j, hj, rfl, hb5⟩ := hrel
      have HB5 := hide (HB4.out.trans (hb5.mono HB4.out.size))
      cases gk with
      | zero =>
        have hlt : ¬ (j : Int) < (ls.length : Int) := by omega
        clear hb5 HP1 HP2 HB4
        go_wp2_with fail
        refine (where_any _ (codeEnd c) ls _ _ (Chain.ch _ _ (Chain.below HB5.out _ _ _ HC.out)) ((HL.out.below HB.out).below HB5.out)).mono ?_
        rintro ev w6 ⟨rfl, hb6⟩
        have HB6 := hide (HB5.out.trans (hb6.mono HB5.out.size))
        clear hb6 HB5
        by_cases hl0 : ls.length = 0
        · have hls : ls = [] := List.length_eq_zero_iff.1 hl0
          subst hls
          rw [show whereOf [] = .tuple #[.int .i64 0, .int .i64 0, .bool false] from rfl]
          go_wp2_with fail
          refine (deepest_any _ (codeEnd c) [] _ _ (Chain.ch _ _ (Chain.below HB6.out _ _ _ HC.out)) ((HL.out.below HB.out).below HB6.out)).mono ?_
          rintro ev w7 ⟨rfl, hb7⟩
          have HB7 := hide (HB6.out.trans (hb7.mono HB6.out.size))
          clear hb7 HB6
          rw [show deepOf [] = .tuple #[.int .i64 0, .int .i64 0, .bool false] from rfl]
          go_wp2_with fail
          refine (awake_any _ ((HL.out.below HB.out).below HB7.out)).mono ?_
          rintro ev w8 ⟨rfl, hb8⟩
          have HB8 := hide (HB7.out.trans (hb8.mono HB7.out.size))
          clear hb8 HB7
          go_wp2
          go_ret
          exact ⟨rfl, HB.out.trans (HB8.out.mono HB.out.size)⟩
        · obtain ⟨k0, hk0⟩ : ∃ k, ls[0]? = some k := ⟨ls[0], by simp⟩
          obtain ⟨kn, hkn⟩ : ∃ k, ls[ls.length - 1]? = some k := ⟨ls[ls.length - 1], by simp⟩
          have hw1 : whereOf ls = .tuple #[.int .i64 k0.dev, .int .i64 k0.pl, .bool true] := by
            cases ls with
            | nil => simp at hl0
            | cons a r => simp at hk0; subst hk0; rfl
          have hw2 : deepOf ls = .tuple #[.int .i64 kn.dev, .int .i64 kn.pl, .bool true] := by
            unfold deepOf; rw [List.getLast?_eq_getElem?, hkn]; rfl
          rw [hw1]
          have HW2 := hide hw2
          have HK := hide (And.intro hk0 hkn)
          clear hw1 hw2 hk0 hkn
          obtain ⟨n, hn⟩ : ∃ n, ls.length = n + 1 := ⟨ls.length - 1, by omega⟩
          have HN := hide hn
          rw [hn]
          clear hn
          have hne0 : ((((n + 1 : Nat) : Int)) == 0) = false := beq_eq_false_iff_ne.2 (by omega)
          have hne1 : (((n : Int) + 1) == 0) = false := beq_eq_false_iff_ne.2 (by omega)
          go_wp2_with fail
          refine (deepest_any _ (codeEnd c) ls _ _ (Chain.ch _ _ (Chain.below HB6.out _ _ _ HC.out)) ((HL.out.below HB.out).below HB6.out)).mono ?_
          rintro ev w7 ⟨rfl, hb7⟩
          have HB7 := hide (HB6.out.trans (hb7.mono HB6.out.size))
          clear hb7 HB6
          rw [HW2.out]
          have hao : ao = some ⟨b, off, none⟩ := H2.out (by omega)
          subst hao
          have hbw := HB.out.trans (HB7.out.mono HB.out.size)
          obtain ⟨a1, a2, a3⟩ := H3.out 0 k0 HK.out.1
          have en : ls.length - 1 = n := by have := HN.out; omega
          obtain ⟨d1, d2, d3⟩ := H3.out n kn (by rw [← en]; exact HK.out.2)
          simp only [Nat.zero_mul, Nat.add_zero] at a1 a2 a3
          have A1 : w7.cell? ⟨b, off, none⟩ = some (.string k0.op) := by rw [hbw.cell (cell_lt a1)]; exact a1
          have A2 : w7.cell? ⟨b, off + 1, none⟩ = some (.int .i64 k0.dev) := by rw [hbw.cell (cell_lt a2)]; exact a2
          have A3 : w7.cell? ⟨b, off + 2, none⟩ = some (.int .i64 k0.pl) := by rw [hbw.cell (cell_lt a3)]; exact a3
          have D1 : w7.cell? ⟨b, off + n * 3, none⟩ = some (.string kn.op) := by rw [hbw.cell (cell_lt d1)]; exact d1
          have D2 : w7.cell? ⟨b, off + n * 3 + 1, none⟩ = some (.int .i64 kn.dev) := by rw [hbw.cell (cell_lt d2)]; exact d2
          have D3 : w7.cell? ⟨b, off + n * 3 + 2, none⟩ = some (.int .i64 kn.pl) := by rw [hbw.cell (cell_lt d3)]; exact d3
          have n1 := World.new_ne w7 _ A1
          have bn : n ≤ 200 := by have := HN.out; omega
          clear a1 a2 a3 d1 d2 d3 hbw HK HW2 en hl0 hl hl2 hlt hj
          have z1 : (0 : Int) < (n : Int) + 1 := by omega
          have z2 : (0 : Int) ≤ (n : Int) := by omega
          have z3 : (n : Int) < (n : Int) + 1 := by omega
          have z4 : IntKind.i64.wrap (n : Int) = (n : Int) := IntWalk.i64_in _ ⟨by omega, by omega⟩
          go_wp2
          go_region_held3 (fun w' => w'.cell? ⟨b, off, none⟩ = some (.string k0.op) ∧ w'.cell? ⟨b, off + 1, none⟩ = some (.int .i64 k0.dev) ∧ w'.cell? ⟨b, off + 2, none⟩ = some (.int .i64 k0.pl) ∧ w'.cell? ⟨b, off + n * 3, none⟩ = some (.string kn.op) ∧ w'.cell? ⟨b, off + n * 3 + 1, none⟩ = some (.int .i64 kn.dev) ∧ w'.cell? ⟨b, off + n * 3 + 2, none⟩ = some (.int .i64 kn.pl)) (go_keep) (fail)
          all_goals go_wp2_with fail
          · have HB8 := hide (((HB7.out.alloc HB7.out.size (.cells #[.string k0.op, .int .i64 k0.dev, .int .i64 k0.pl] 34)).alloc (by have := HB7.out.size; simp; omega) (.cells #[.string kn.op, .int .i64 kn.dev, .int .i64 kn.pl] 34)).drew)
            refine (awake_any _ ((HL.out.below HB.out).below HB8.out)).mono ?_
            rintro ev w9 ⟨rfl, hb9⟩
            have HB9 := hide (HB8.out.trans (hb9.mono HB8.out.size))
            clear hb9
            go_wp2
            go_ret
            exact ⟨rfl, HB.out.trans (HB9.out.mono HB.out.size)⟩
          · have HB8 := hide (((HB7.out.alloc HB7.out.size (.cells #[.string kn.op, .int .i64 kn.dev, .int .i64 kn.pl] 34)).alloc (by have := HB7.out.size; simp; omega) (.cells #[.string k0.op, .int .i64 k0.dev, .int .i64 k0.pl] 34)).drew)
            refine (awake_any _ ((HL.out.below HB.out).below HB8.out)).mono ?_
            rintro ev w9 ⟨rfl, hb9⟩
            have HB9 := hide (HB8.out.trans (hb9.mono HB8.out.size))
            clear hb9
            go_wp2
            go_ret
            exact ⟨rfl, HB.out.trans (HB9.out.mono HB.out.size)⟩
      | succ m =>
        have hlt : (j : Int) < (ls.length : Int) := by omega
        have hjl : j < ls.length := by omega
        have hb0 : (0 : Int) ≤ (j : Int) := by omega
        obtain ⟨kk, hkk⟩ : ∃ kk, ls[j]? = some kk := ⟨ls[j], by simp [hjl]⟩
        obtain ⟨g1, g2, g3⟩ := H3.out j kk hkk
        have hbw := HB.out.trans (HB5.out.mono HB.out.size)
        have k1 : wr.cell? ⟨b, off + j * 3, none⟩ = some (.string kk.op) := by rw [hbw.cell (cell_lt g1)]; exact g1
        have q2 := HP2.out j kk hkk
        have k2 : wr.cell? ⟨pg, j, none⟩ = some (.string kk.op) := by rw [hb5.cell (cell_lt q2)]; exact q2
        have HBw := hide hb5
        have hao : ao = some ⟨b, off, none⟩ := H2.out (by omega)
        have hpa : pa = some ⟨pg, 0, none⟩ := HP1.out (by omega)
        subst hao hpa
        clear g1 g2 g3 hkk hbw q2 hb5
        go_wp2
        go_quiet (fail)
        go_wp2
        go_roundg m
        case measure => omega
        case rel => exact ⟨j + 1, by omega, by go_num, below_drewN HBw.out _⟩
  · obtain ⟨ao, cap, b, off, rfl, h2, h3⟩ := hv
    have hl2 : (200 : Int) < (ls.length : Int) := by omega
    have H1 := hide (awake_any w hL)
    clear h2 h3 hl hL
    go_enter Tryd.func3, Tryd.ntmps3
    go_wp2_with (go_at_call 9; refine H1.out.mono ?_; rintro e w' ⟨rfl, hb⟩)
    go_ret
    exact ⟨rfl, hb⟩
end Go.Proofs.YtijphfgefnpepaaDoor
