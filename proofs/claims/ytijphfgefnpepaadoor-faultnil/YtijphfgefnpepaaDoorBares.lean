/- The statement FaultNil, walked: it returns true, and nothing that was there has turned. -/
import Derived.Test.YtijphfgefnpepaaDoorBare
namespace Go.Proofs.YtijphfgefnpepaaDoor
open Go.RowKit Go.Extern.Stop Go.Stop Go.Extern

/-- A fault around nothing that was just made. -/
theorem bare_ch (w : World) (x : Lk) : Ch (w.alloc (.cells #[.string x.op, .int .i64 x.dev, .int .i64 x.pl, .nilIface] 50)) .nilIface [x] (.iface 48 (.pointer (some ⟨w.heap.size, 0, none⟩))) ∧
    (w.alloc (.cells #[.string x.op, .int .i64 x.dev, .int .i64 x.pl, .nilIface] 50)).cell? ⟨w.heap.size, 0, none⟩ = some (.string x.op) ∧ (w.alloc (.cells #[.string x.op, .int .i64 x.dev, .int .i64 x.pl, .nilIface] 50)).cell? ⟨w.heap.size, 1, none⟩ = some (.int .i64 x.dev) ∧
    (w.alloc (.cells #[.string x.op, .int .i64 x.dev, .int .i64 x.pl, .nilIface] 50)).cell? ⟨w.heap.size, 2, none⟩ = some (.int .i64 x.pl) ∧ (w.alloc (.cells #[.string x.op, .int .i64 x.dev, .int .i64 x.pl, .nilIface] 50)).cell? ⟨w.heap.size, 3, none⟩ = some .nilIface :=
  ⟨⟨w.heap.size, .nilIface, rfl, by simp, by simp, by simp, by simp, rfl⟩, by simp, by simp, by simp, by simp⟩

set_option maxRecDepth 100000 in
set_option maxHeartbeats 2000000 in
theorem bares_any (x : Lk) (c : Int) (w : World) (hL : Laid w) (hT : Tab w) (h1 : InR x.dev) (h2 : InR x.pl) :
    Calls Tryd.prog 5 #[.agg #[.string x.op, .int .i64 x.dev, .int .i64 x.pl, .int .i64 c]] w fun ev w' => ev = .returned (.bool true) ∧ Below w.heap.size w w' := by
  by_cases ho : x.op.size ≤ 10000
  · have HL := hide hL
    have HT := hide hT
    have d2 : decide ((10000 : Int) < (x.op.size : Int)) = false := by simp; omega
    clear hL hT
    go_enter Tryd.func5, Tryd.ntmps5
    go_wp2
    go_quiet (fail)
    go_wp2_with fail
    have hb0 : Below w.heap.size w ((w.alloc (.cells #[.string x.op, .int .i64 x.dev, .int .i64 x.pl, .int .i64 c] 46)).drewN nq) := below_drewN ((Below.refl _ _).alloc (Nat.le_refl _) _) _
    generalize (w.alloc (.cells #[.string x.op, .int .i64 x.dev, .int .i64 x.pl, .int .i64 c] 46)).drewN nq = w0 at *
    have HB0 := hide hb0
    clear hb0
    refine (wrap_nil x.op x.dev x.pl w0).mono ?_
    rintro ev w1 ⟨rfl, rfl⟩
    go_wp2_with fail
    refine (codeOf_nil _).mono ?_
    rintro ev w2 ⟨rfl, hb2⟩
    have HB2 := hide (HB0.out.trans (hb2.mono HB0.out.size))
    clear hb2 HB0
    go_wp2_with fail
    refine (where_any _ nilEnd [] .nilIface _ rfl (HL.out.below HB2.out)).mono ?_
    rintro ev w3 ⟨rfl, hb3⟩
    have HB3 := hide (HB2.out.trans (hb3.mono HB2.out.size))
    clear hb3 HB2
    rw [show whereOf [] = .tuple #[.int .i64 0, .int .i64 0, .bool false] from rfl]
    go_wp2_with fail
    refine (deepest_any _ nilEnd [] .nilIface _ rfl (HL.out.below HB3.out)).mono ?_
    rintro ev w4 ⟨rfl, hb4⟩
    have HB4 := hide (HB3.out.trans (hb4.mono HB3.out.size))
    clear hb4 HB3
    rw [show deepOf [] = .tuple #[.int .i64 0, .int .i64 0, .bool false] from rfl]
    go_wp2_with fail
    refine (path_any _ nilEnd [] .nilIface _ rfl (HL.out.below HB4.out) (by simp)).mono ?_
    rintro ev w5 ⟨pv, rfl, hown, hb5⟩
    have HB5 := hide (HB4.out.trans (hb5.mono HB4.out.size))
    obtain ⟨pa, pcap, hpv⟩ : ∃ pa cap, pv = .slice pa 0 cap := by
      rcases hown.2 with ⟨hv, _⟩ | ⟨g, cap, cur, hv, _⟩
      · exact ⟨_, _, hv⟩
      · exact ⟨_, _, hv⟩
    subst hpv
    clear hb5 HB4 hown
    go_wp2_with fail
    refine (depth_any _ nilEnd [] .nilIface _ rfl (HL.out.below HB5.out) (by simp)).mono ?_
    rintro ev w6 ⟨rfl, hb6⟩
    have HB6 := hide (HB5.out.trans (hb6.mono HB5.out.size))
    clear hb6 HB5
    go_wp2_with fail
    refine (isAny_nil _ _).mono ?_
    rintro ev w7 ⟨rfl, hb7⟩
    have t7 := HB6.out.alloc HB6.out.size (.cells #[.int .i64 c] 27)
    have HB7 := hide (t7.trans (hb7.mono t7.size))
    clear hb7 HB6 t7
    go_wp2_with fail
    have t8 := HB7.out.alloc HB7.out.size (.cells #[.string x.op, .int .i64 x.dev, .int .i64 x.pl, .nilIface] 50)
    have hf := bare_ch w7 x
    generalize w7.heap.size = fb at *
    generalize w7.alloc (.cells #[.string x.op, .int .i64 x.dev, .int .i64 x.pl, .nilIface] 50) = w8 at *
    obtain ⟨hch, k0, k1, k2, k3⟩ := hf
    have HCh := hide hch
    have HK := hide (And.intro k0 (And.intro k1 (And.intro k2 k3)))
    have HB8 := hide t8
    clear t8 HB7 hch k0 k1 k2 k3
    refine (codeOf_bare fb _ HK.out.2.2.2 (HL.out.below HB8.out)).mono ?_
    rintro ev w9 ⟨rfl, hb9⟩
    have HB9 := hide hb9
    clear hb9
    go_wp2_with fail
    refine (where_any _ nilEnd [x] _ _ (Ch.below HB9.out _ _ HCh.out) ((HL.out.below HB8.out).below HB9.out)).mono ?_
    rintro ev w10 ⟨rfl, hb10⟩
    have HB10 := hide (HB9.out.trans (hb10.mono HB9.out.size))
    clear hb10 HB9
    rw [show whereOf [x] = .tuple #[.int .i64 x.dev, .int .i64 x.pl, .bool true] from rfl]
    go_wp2_with fail
    refine (unwrap_bare fb _ (by rw [HB10.out.cell (cell_lt HK.out.2.2.2)]; exact HK.out.2.2.2)).mono ?_
    rintro ev w11 ⟨rfl, rfl⟩
    go_wp2_with fail
    refine (error_nil x fb _ ((HT.out.below HB8.out).below HB10.out) ho h1 h2 (by rw [HB10.out.cell (cell_lt HK.out.1)]; exact HK.out.1) (by rw [HB10.out.cell (cell_lt HK.out.2.1)]; exact HK.out.2.1) (by rw [HB10.out.cell (cell_lt HK.out.2.2.1)]; exact HK.out.2.2.1) (by rw [HB10.out.cell (cell_lt HK.out.2.2.2)]; exact HK.out.2.2.2)).mono ?_
    rintro ev w12 ⟨rfl, hb12⟩
    have HB12 := hide (HB10.out.trans (hb12.mono HB10.out.size))
    clear hb12 HB10
    go_wp2_with fail
    refine (text_one x w12.heap.size 0 1 _ ho h1 h2 (by simp) (by simp) (by simp)).mono ?_
    rintro ev w13 ⟨rfl, hb13⟩
    have t13 := HB12.out.alloc HB12.out.size (.cells #[.string x.op, .int .i64 x.dev, .int .i64 x.pl] 34)
    have HB13 := hide (t13.trans (hb13.mono t13.size))
    clear hb13 HB12 t13
    go_wp2_with fail
    refine (depth_any _ nilEnd [x] _ _ (Ch.below HB13.out _ _ HCh.out) ((HL.out.below HB8.out).below HB13.out) (by simp)).mono ?_
    rintro ev w14 ⟨rfl, hb14⟩
    have HB14 := hide (HB13.out.trans (hb14.mono HB13.out.size))
    clear hb14 HB13
    rw [show (([x] : List Lk).length : Int) = 1 from rfl]
    go_wp2_with fail
    refine (awake_any _ ((HL.out.below HB8.out).below HB14.out)).mono ?_
    rintro ev w15 ⟨rfl, hb15⟩
    have HB15 := hide (HB14.out.trans (hb15.mono HB14.out.size))
    clear hb15 HB14
    go_wp2
    go_ret
    exact ⟨rfl, HB8.out.trans (HB15.out.mono HB8.out.size)⟩
  · have d2 : decide ((10000 : Int) < (x.op.size : Int)) = true := by simp; omega
    have HL := hide hL
    clear hL hT ho h1 h2
    go_enter Tryd.func5, Tryd.ntmps5
    go_wp2
    go_quiet (fail)
    go_wp2_with fail
    have hb0 : Below w.heap.size w ((w.alloc (.cells #[.string x.op, .int .i64 x.dev, .int .i64 x.pl, .int .i64 c] 46)).drewN nq) := below_drewN ((Below.refl _ _).alloc (Nat.le_refl _) _) _
    refine (awake_any _ (HL.out.below hb0)).mono ?_
    rintro ev w1 ⟨rfl, hb1⟩
    have HB := hide (hb0.trans (hb1.mono hb0.size))
    clear hb1 hb0
    go_wp2
    go_ret
    exact ⟨rfl, HB.out⟩
end Go.Proofs.YtijphfgefnpepaaDoor
