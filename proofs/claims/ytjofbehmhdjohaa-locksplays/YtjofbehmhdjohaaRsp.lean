/- The document's own Has and Clash. -/
import Derived.Test.YtjofbehmhdjohaaSpn
namespace Go.Proofs.Ytjofbehmhdjohaa
open Go.RowKit Go.Extern

def hasB (s : S) (vol blk : Int) : Bool := decide (s.vol = 0 ∨ (s.vol = vol ∧ (s.len = 0 ∨ (s.frm ≤ blk ∧ blk - s.frm < s.len))))
theorem meetsB_has {a b : S} (ha : rightB a = true) (hb : rightB b = true) (h1 : a.vol ≠ 0) (h2 : b.vol ≠ 0) : meetsB a b = (hasB a b.vol b.frm || (hasB b a.vol a.frm || (decide (a.vol = b.vol) && (decide (a.len = 0) || decide (b.len = 0))))) := by
  obtain ⟨-, -, s3, -⟩ := rightB_iff.1 ha
  obtain ⟨-, -, o3, -⟩ := rightB_iff.1 hb
  clear ha hb
  unfold meetsB hasB
  by_cases h3 : a.vol = b.vol <;> by_cases h4 : a.len = 0 <;> by_cases h5 : b.len = 0 <;> by_cases h6 : a.frm ≤ b.frm <;> by_cases h7 : b.frm ≤ a.frm <;> simp only [h1, h2, h3, h4, h5, h6, h7, ne_eq, not_true_eq_false, not_false_eq_true, if_true, if_false, true_or, or_true, false_or, or_false, true_and, false_and, decide_true, decide_false, Bool.or_true, Bool.false_or, Bool.or_false, Bool.and_false, Bool.and_true] <;> simp_all <;> omega

set_option maxRecDepth 100000 in
set_option maxHeartbeats 1000000 in
theorem has_any {s : S} (hs : rightB s = true) {vol blk : Int} (h0 : 0 ≤ blk) (hb0 : I64 blk) (w : World) :
    Calls Try.prog 31 #[spV s, .int .i64 vol, .int .i64 blk] w fun e w' => e = .returned (.bool (hasB s vol blk)) ∧ Below w.heap.size w w' := by
  have HS := hide (rightB_iff.1 hs)
  have HB := hide (bel_alloc w (.cells #[.int .i64 s.vol, .int .i64 s.frm, .int .i64 s.len, .bool s.wr] 23))
  have H0 := hide h0
  have HB0 := hide hb0
  clear hs h0 hb0
  obtain ⟨a, b, c, d⟩ := s
  simp only at HS HB
  unfold spV hasB
  simp only
  by_cases h1 : a = 0
  · have e1 : (a == 0) = true := by simp [h1]
    rw [decide_eq_true (.inl h1)]
    clear h1
    go_enter Try.func31, Try.ntmps31
    go_wp2
    go_ret
    exact ⟨rfl, HB.out⟩
  have e1 : (a == 0) = false := by simp [h1]
  by_cases h2 : a = vol
  · have e2 : (a == vol) = true := by simp [h2]
    by_cases h3 : c = 0
    · have e3 : (c == 0) = true := by simp [h3]
      rw [decide_eq_true (.inr ⟨h2, .inl h3⟩)]
      clear h1 h2 h3
      go_enter Try.func31, Try.ntmps31
      go_wp2
      go_ret
      exact ⟨rfl, HB.out⟩
    · have e3 : (c == 0) = false := by simp [h3]
      by_cases h4 : b ≤ blk
      · have e4 : IntKind.i64.wrap (blk - b) = blk - b := IntWalk.i64_in _ ⟨by have := HS.out; have := H0.out; omega, by have := HS.out; have := H0.out; have k := HB0.out; unfold I64 at k; omega⟩
        have e5 : decide (a = 0 ∨ (a = vol ∧ (c = 0 ∨ (b ≤ blk ∧ blk - b < c)))) = decide (blk - b < c) := by rw [decide_eq_decide]; omega
        rw [e5]
        clear h1 h2 h3 e5
        go_enter Try.func31, Try.ntmps31
        go_wp2
        go_ret
        exact ⟨rfl, HB.out⟩
      · have e5 : decide (a = 0 ∨ (a = vol ∧ (c = 0 ∨ (b ≤ blk ∧ blk - b < c)))) = false := by rw [decide_eq_false_iff_not]; omega
        rw [e5]
        clear h1 h2 h3 e5
        go_enter Try.func31, Try.ntmps31
        go_wp2
        go_ret
        exact ⟨rfl, HB.out⟩
  · have e2 : (a == vol) = false := by simp [h2]
    have e5 : decide (a = 0 ∨ (a = vol ∧ (c = 0 ∨ (b ≤ blk ∧ blk - b < c)))) = false := by simp [h1, h2]
    rw [e5]
    clear h1 h2 e5
    go_enter Try.func31, Try.ntmps31
    go_wp2
    go_ret
    exact ⟨rfl, HB.out⟩

theorem clashB_left {s o : S} (h : rightB s = false) : clashB s o = false := by simp [clashB, h]
theorem clashB_right {s o : S} (h : rightB o = false) : clashB s o = false := by simp [clashB, h]
theorem clashB_reads {s o : S} (h : s.wr = false) (h2 : o.wr = false) : clashB s o = false := by simp [clashB, h, h2]
theorem clashB_meets {s o : S} (h : rightB s = true) (h2 : rightB o = true) (h3 : (s.wr || o.wr) = true) : clashB s o = meetsB s o := by simp [clashB, h, h2, h3]

set_option maxRecDepth 100000 in
set_option maxHeartbeats 2000000 in
theorem rclash_any {s o : S} (hso : sOk s) (hoo : sOk o) (w : World) :
    Calls Try.prog 10 #[spV s, spV o] w fun e w' => e = .returned (.bool (clashB s o)) ∧ Below w.heap.size w w' := by
  have KS := hide hso
  have KO := hide hoo
  have HA := bel_alloc w (.cells #[.int .i64 s.vol, .int .i64 s.frm, .int .i64 s.len, .bool s.wr] 23)
  have HA2 := bel_alloc (w.alloc (.cells #[.int .i64 s.vol, .int .i64 s.frm, .int .i64 s.len, .bool s.wr] 23)) (.cells #[.int .i64 o.vol, .int .i64 o.frm, .int .i64 o.len, .bool o.wr] 23)
  have HX := hide ((BoxS.new w s 23).below HA2)
  have HY := hide (BoxS.new (w.alloc (.cells #[.int .i64 s.vol, .int .i64 s.frm, .int .i64 s.len, .bool s.wr] 23)) o 23)
  have HB := hide (nextB HA HA2)
  simp only [World.size_alloc] at HY
  clear HA HA2 hso hoo
  obtain ⟨a, b, c, d⟩ := s
  obtain ⟨a2, b2, c2, d2⟩ := o
  simp only at KS KO HB HX HY
  unfold spV
  go_enter Try.func10, Try.ntmps10
  go_wp2_with fail
  refine (rright_any ⟨a, b, c, d⟩ _).mono ?_
  rintro e w1 ⟨rfl, hb1⟩
  have HB1 := hide (nextB HB.out hb1)
  have HX1 := hide (HX.out.below hb1)
  have HY1 := hide (HY.out.below hb1)
  clear hb1 HB HX HY
  cases h1 : rightB ⟨a, b, c, d⟩ with
  | false =>
    have H1 := hide h1
    clear h1
    go_wp2_with fail
    go_ret
    exact ⟨by rw [clashB_left H1.out]; rfl, HB1.out⟩
  | true =>
    have H1 := hide h1
    clear h1
    obtain ⟨y0, y1, y2, y3⟩ := HY1.out.cells
    simp only at y0 y1 y2 y3
    go_wp2_with fail
    clear y0 y1 y2 y3
    refine (rright_any ⟨a2, b2, c2, d2⟩ _).mono ?_
    rintro e w2 ⟨rfl, hb2⟩
    have HB2 := hide (nextB HB1.out hb2)
    have HX2 := hide (HX1.out.below hb2)
    have HY2 := hide (HY1.out.below hb2)
    obtain ⟨x0, x1, x2, x3⟩ := HX2.out.cells
    obtain ⟨y0, y1, y2, y3⟩ := HY2.out.cells
    simp only at x0 x1 x2 x3 y0 y1 y2 y3
    clear hb2 HB1 HX1 HY1
    cases h2 : rightB ⟨a2, b2, c2, d2⟩ with
    | false =>
      have H2 := hide h2
      clear h2
      go_wp2_with fail
      go_ret
      exact ⟨by rw [clashB_right H2.out]; rfl, HB2.out⟩
    | true =>
      have H2 := hide h2
      clear h2
      by_cases hw : d = false ∧ d2 = false
      · obtain ⟨rfl, rfl⟩ := hw
        go_wp2_with fail
        go_ret
        exact ⟨by rw [clashB_reads rfl rfl]; rfl, HB2.out⟩
      have HW : Hid ((d || d2) = true) := by show _ = _; cases d <;> cases d2 <;> simp_all
      have HC := hide (clashB_meets H1.out H2.out HW.out)
      have r0 := rightB_iff.1 H1.out
      have r1 := rightB_iff.1 H2.out
      simp only at r0 r1
      have HM := hide (fun g1 g2 => meetsB_has H1.out H2.out g1 g2)
      have hH := fun wx => has_any (vol := a2) (blk := b2) H1.out r1.2.1 KO.out.2.1 wx
      have hG := fun wx => has_any (vol := a) (blk := b) H2.out r0.2.1 KS.out.2.1 wx
      clear r0 r1 KS KO H1 H2
      by_cases z1 : a = 0
      · have e1 : (a == 0) = true := by simp [z1]
        have HZ : Hid (meetsB ⟨a, b, c, d⟩ ⟨a2, b2, c2, d2⟩ = true) := by show _ = _; unfold meetsB; rw [if_pos (.inl z1)]
        clear z1 hH hG HM
        cases d <;> cases d2
        · exact absurd ⟨rfl, rfl⟩ hw
        all_goals
          clear hw HW
          go_wp2_with fail
          go_ret
          exact ⟨by rw [HC.out, HZ.out]; rfl, HB2.out⟩
      have e1 : (a == 0) = false := by simp [z1]
      by_cases z2 : a2 = 0
      · have e2 : (a2 == 0) = true := by simp [z2]
        have HZ : Hid (meetsB ⟨a, b, c, d⟩ ⟨a2, b2, c2, d2⟩ = true) := by show _ = _; unfold meetsB; rw [if_pos (.inr z2)]
        clear z1 z2 hH hG HM
        cases d <;> cases d2
        · exact absurd ⟨rfl, rfl⟩ hw
        all_goals
          clear hw HW
          go_wp2_with fail
          go_ret
          exact ⟨by rw [HC.out, HZ.out]; rfl, HB2.out⟩
      have e2 : (a2 == 0) = false := by simp [z2]
      have HMM := hide (HM.out z1 z2)
      simp only at HMM
      have HE := hide (show (a == a2) = decide (a = a2) by rw [Bool.eq_iff_iff]; simp)
      have HF := hide (show (c == 0) = decide (c = 0) by rw [Bool.eq_iff_iff]; simp)
      have HG := hide (show (c2 == 0) = decide (c2 = 0) by rw [Bool.eq_iff_iff]; simp)
      clear z1 z2 HM
      cases d <;> cases d2
      · exact absurd ⟨rfl, rfl⟩ hw
      all_goals
        clear hw HW
        go_wp2_with fail
        refine (hH _).mono ?_
        rintro e w3 ⟨rfl, hb3⟩
        have HB3 := hide (nextB HB2.out hb3)
        have HX3 := hide (HX2.out.below hb3)
        have HY3 := hide (HY2.out.below hb3)
        clear hb3 HB2 HX2 HY2 x0 x1 x2 x3 y0 y1 y2 y3 hH
        cases g1 : hasB _ a2 b2 with
        | true =>
          have G1 := hide g1
          clear g1 hG
          go_wp2_with fail
          go_ret
          exact ⟨by rw [HC.out, HMM.out, G1.out]; rfl, HB3.out⟩
        | false =>
          have G1 := hide g1
          clear g1
          obtain ⟨x0, x1, x2, x3⟩ := HX3.out.cells
          obtain ⟨y0, y1, y2, y3⟩ := HY3.out.cells
          simp only at x0 x1 x2 x3 y0 y1 y2 y3
          go_wp2_with fail
          refine (hG _).mono ?_
          rintro e w4 ⟨rfl, hb4⟩
          have HB4 := hide (nextB HB3.out hb4)
          have HX4 := hide (HX3.out.below hb4)
          have HY4 := hide (HY3.out.below hb4)
          clear hb4 HB3 HX3 HY3 x0 x1 x2 x3 y0 y1 y2 y3 hG
          cases g2 : hasB _ a b with
          | true =>
            have G2 := hide g2
            clear g2
            go_wp2_with fail
            go_ret
            exact ⟨by rw [HC.out, HMM.out, G1.out, G2.out]; rfl, HB4.out⟩
          | false =>
            have G2 := hide g2
            clear g2
            obtain ⟨x0, x1, x2, x3⟩ := HX4.out.cells
            obtain ⟨y0, y1, y2, y3⟩ := HY4.out.cells
            simp only at x0 x1 x2 x3 y0 y1 y2 y3
            cases g3 : a == a2 with
            | false =>
              have G3 := hide g3
              go_wp2_with fail
              go_ret
              exact ⟨by rw [HC.out, HMM.out, G1.out, G2.out, ← HE.out, G3.out]; rfl, HB4.out⟩
            | true =>
              have G3 := hide g3
              cases g4 : c == 0 with
              | true =>
                have G4 := hide g4
                go_wp2_with fail
                go_ret
                exact ⟨by rw [HC.out, HMM.out, G1.out, G2.out, ← HE.out, ← HF.out, G3.out, G4.out]; rfl, HB4.out⟩
              | false =>
                have G4 := hide g4
                go_wp2_with fail
                go_ret
                exact ⟨by rw [HC.out, HMM.out, G1.out, G2.out, ← HE.out, ← HF.out, ← HG.out, G3.out, G4.out]; rfl, HB4.out⟩
end Go.Proofs.Ytjofbehmhdjohaa
