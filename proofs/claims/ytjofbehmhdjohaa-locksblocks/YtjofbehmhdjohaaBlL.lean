/- The law LocksBlocks. -/
import Derived.Test.YtjofbehmhdjohaaAw
namespace Go.Proofs.Ytjofbehmhdjohaa
open Go.RowKit Go.Extern

/-- One block is in both, of those that were looked at. -/
def Bth (D : Int) (n2 i k : Nat) : Prop := (∃ p q : Nat, p < i ∧ q < n2 ∧ D = (q : Int) - (p : Int)) ∨ (∃ q : Nat, q < k ∧ D = (q : Int) - (i : Int))
theorem Bth.start (D : Int) (n2 : Nat) : ¬ Bth D n2 0 0 := by
  rintro (⟨p, q, h, -⟩ | ⟨q, h, -⟩) <;> omega
theorem Bth.row {D : Int} {n2 i : Nat} : Bth D n2 i n2 ↔ Bth D n2 (i + 1) 0 := by
  constructor
  · rintro (⟨p, q, h1, h2, h3⟩ | ⟨q, h1, h2⟩)
    · exact .inl ⟨p, q, by omega, h2, h3⟩
    · exact .inl ⟨i, q, by omega, h1, h2⟩
  · rintro (⟨p, q, h1, h2, h3⟩ | ⟨q, h1, h2⟩)
    · rcases Nat.lt_or_ge p i with h | h
      · exact .inl ⟨p, q, h, h2, h3⟩
      · obtain rfl : p = i := by omega
        exact .inr ⟨q, h2, h3⟩
    · omega
theorem Bth.cell {D : Int} {n2 i k : Nat} : Bth D n2 i (k + 1) ↔ Bth D n2 i k ∨ D = (k : Int) - (i : Int) := by
  constructor
  · rintro (⟨p, q, h1, h2, h3⟩ | ⟨q, h1, h2⟩)
    · exact .inl (.inl ⟨p, q, h1, h2, h3⟩)
    · rcases Nat.lt_or_ge q k with h | h
      · exact .inl (.inr ⟨q, h, h2⟩)
      · obtain rfl : q = k := by omega
        exact .inr h2
  · rintro ((⟨p, q, h1, h2, h3⟩ | ⟨q, h1, h2⟩) | h)
    · exact .inl ⟨p, q, h1, h2, h3⟩
    · exact .inr ⟨q, by omega, h2⟩
    · exact .inr ⟨k, by omega, h⟩
theorem Bth.all {D : Int} {n1 n2 : Nat} (h1 : 1 ≤ n1) (h2 : 1 ≤ n2) : Bth D n2 n1 0 ↔ -(n1 : Int) < D ∧ D < (n2 : Int) := by
  constructor
  · rintro (⟨p, q, h1, h2, h3⟩ | ⟨q, h1, -⟩)
    · omega
    · omega
  · rintro ⟨h3, h4⟩
    rcases Int.lt_or_le D 0 with h | h
    · exact .inl ⟨(-D).toNat, 0, by omega, by omega, by omega⟩
    · exact .inl ⟨0, D.toNat, by omega, by omega, by omega⟩
theorem blocks_meet {a b : S} (hv : 1 ≤ a.vol) (he : a.vol = b.vol) {n1 n2 : Nat} (h1 : a.len = (n1 : Int)) (h2 : b.len = (n2 : Int)) (hn1 : 1 ≤ n1) (hn2 : 1 ≤ n2) : meetsB a b = true ↔ Bth (a.frm - b.frm) n2 n1 0 := by
  rw [Bth.all hn1 hn2]
  unfold meetsB
  rw [if_neg (by omega), if_neg (by omega), if_neg (by omega)]
  split <;> simp <;> omega
theorem blocks_right {a : S} (hv : 1 ≤ a.vol) (hf : 0 ≤ a.frm) {n : Nat} (h1 : a.len = (n : Int)) (hn : n ≤ 300) : rightB a = true := rightB_iff.2 ⟨by omega, hf, by omega, by omega⟩

set_option maxRecDepth 100000 in
set_option maxHeartbeats 4000000 in
theorem blocksL_any {s o : S} (hso : sOk s) (hoo : sOk o) (w : World) :
    Calls Try.prog 4 #[spV s, spV o] w fun e w' => e = .returned (.bool true) ∧ Below w.heap.size w w' := by
  have KS := hide hso
  have KO := hide hoo
  have HA := bel_alloc w (.cells #[.int .i64 s.vol, .int .i64 s.frm, .int .i64 s.len, .bool s.wr] 23)
  have HA2 := bel_alloc (w.alloc (.cells #[.int .i64 s.vol, .int .i64 s.frm, .int .i64 s.len, .bool s.wr] 23)) (.cells #[.int .i64 o.vol, .int .i64 o.frm, .int .i64 o.len, .bool o.wr] 23)
  have HX := hide ((BoxS.new w s 23).below HA2)
  have HY := hide (BoxS.new (w.alloc (.cells #[.int .i64 s.vol, .int .i64 s.frm, .int .i64 s.len, .bool s.wr] 23)) o 23)
  have HB := hide (nextB HA HA2)
  simp only [World.size_alloc] at HY
  have hC := fun wx => clash_any hso hoo wx
  clear HA HA2 hso hoo
  obtain ⟨a, b, c, d⟩ := s
  obtain ⟨a2, b2, c2, d2⟩ := o
  simp only at KS KO HB HX HY
  unfold spV at hC ⊢
  simp only at hC ⊢
  by_cases h1 : a < 1
  · clear hC HX HY KS KO
    go_enter Try.func4, Try.ntmps4
    go_wp2_with (go_at_call 11; refine (awake_any _).mono ?_; rintro e w1 ⟨rfl, hb⟩; have HB1 := hide (nextB HB.out hb); clear hb)
    go_ret
    exact ⟨rfl, HB1.out⟩
  by_cases h2 : a ≠ a2
  · clear hC HX HY KS KO
    have e2 : (a != a2) = true := by simpa using h2
    clear h2
    go_enter Try.func4, Try.ntmps4
    go_wp2_with (go_at_call 11; refine (awake_any _).mono ?_; rintro e w1 ⟨rfl, hb⟩; have HB1 := hide (nextB HB.out hb); clear hb)
    go_ret
    exact ⟨rfl, HB1.out⟩
  have e2 : (a != a2) = false := by simpa using h2
  have H2 := hide h2
  clear h2
  by_cases h3 : c < 1
  · clear hC HX HY KS KO
    go_enter Try.func4, Try.ntmps4
    go_wp2_with (go_at_call 11; refine (awake_any _).mono ?_; rintro e w1 ⟨rfl, hb⟩; have HB1 := hide (nextB HB.out hb); clear hb)
    go_ret
    exact ⟨rfl, HB1.out⟩
  by_cases h4 : c2 < 1
  · clear hC HX HY KS KO
    go_enter Try.func4, Try.ntmps4
    go_wp2_with (go_at_call 11; refine (awake_any _).mono ?_; rintro e w1 ⟨rfl, hb⟩; have HB1 := hide (nextB HB.out hb); clear hb)
    go_ret
    exact ⟨rfl, HB1.out⟩
  by_cases h5 : 300 < c
  · clear hC HX HY KS KO
    go_enter Try.func4, Try.ntmps4
    go_wp2_with (go_at_call 11; refine (awake_any _).mono ?_; rintro e w1 ⟨rfl, hb⟩; have HB1 := hide (nextB HB.out hb); clear hb)
    go_ret
    exact ⟨rfl, HB1.out⟩
  by_cases h6 : 300 < c2
  · clear hC HX HY KS KO
    go_enter Try.func4, Try.ntmps4
    go_wp2_with (go_at_call 11; refine (awake_any _).mono ?_; rintro e w1 ⟨rfl, hb⟩; have HB1 := hide (nextB HB.out hb); clear hb)
    go_ret
    exact ⟨rfl, HB1.out⟩
  by_cases h7 : b < 0
  · clear hC HX HY KS KO
    go_enter Try.func4, Try.ntmps4
    go_wp2_with (go_at_call 11; refine (awake_any _).mono ?_; rintro e w1 ⟨rfl, hb⟩; have HB1 := hide (nextB HB.out hb); clear hb)
    go_ret
    exact ⟨rfl, HB1.out⟩
  by_cases h8 : b2 < 0
  · clear hC HX HY KS KO
    go_enter Try.func4, Try.ntmps4
    go_wp2_with (go_at_call 11; refine (awake_any _).mono ?_; rintro e w1 ⟨rfl, hb⟩; have HB1 := hide (nextB HB.out hb); clear hb)
    go_ret
    exact ⟨rfl, HB1.out⟩
  obtain ⟨n1, hn1⟩ : ∃ n : Nat, c = (n : Int) := ⟨c.toNat, by omega⟩
  obtain ⟨n2, hn2⟩ : ∃ n : Nat, c2 = (n : Int) := ⟨c2.toNat, by omega⟩
  subst hn1 hn2
  have eD : IntKind.i64.wrap (b - b2) = b - b2 := IntWalk.i64_in _ ⟨by have k : I64 b2 := KO.out.2.1; unfold I64 at k; omega, by have k : I64 b := KS.out.2.1; unfold I64 at k; omega⟩
  have HRI := hide (And.intro (blocks_right (a := ⟨a, b, (n1 : Int), d⟩) (by simp only; omega) (by simp only; omega) rfl (by omega)) (blocks_right (a := ⟨a2, b2, (n2 : Int), d2⟩) (by have := H2.out; simp only; omega) (by simp only; omega) rfl (by omega)))
  have HME := hide (blocks_meet (a := ⟨a, b, (n1 : Int), d⟩) (b := ⟨a2, b2, (n2 : Int), d2⟩) (by simp only; omega) (by have := H2.out; simp only; omega) (n1 := n1) (n2 := n2) rfl rfl (by omega) (by omega))
  have HC := hide hC
  have HN1 := hide (show n1 ≤ 300 by omega)
  have HN2 := hide (show n2 ≤ 300 by omega)
  obtain ⟨D, hD⟩ : ∃ D, b - b2 = D := ⟨_, rfl⟩
  rw [hD] at eD
  simp only [hD] at HME
  have HD := hide hD
  clear hC H2 KS KO
  go_enter Try.func4, Try.ntmps4
  go_wp2_with fail
  obtain ⟨w1, hw1⟩ : ∃ w1, (w.alloc (.cells #[.int .i64 a, .int .i64 b, .int .i64 (n1 : Int), .bool d] 23)).alloc (.cells #[.int .i64 a2, .int .i64 b2, .int .i64 (n2 : Int), .bool d2] 23) = w1 := ⟨_, rfl⟩
  simp only [hw1] at HB HX HY ⊢
  obtain ⟨x0, x1, x2, x3⟩ := HX.out.cells
  obtain ⟨y0, y1, y2, y3⟩ := HY.out.cells
  simp only at x0 x1 x2 x3 y0 y1 y2 y3
  clear hw1 h1 h3 h4 h5 h6 h7 h8 e2
  go_loopg [51, 5] n1 (fun t v51 v5 wr => ∃ (i : Nat) (q : Bool), i + t = n1 ∧ v51 = .int .i64 (i : Int) ∧ v5 = .bool q ∧ Hid (q = true ↔ Bth D n2 i 0) ∧ w1 = wr)
  case atStart => exact ⟨0, false, by omega, rfl, rfl, hide (by simp [Bth.start]), rfl⟩
  case round =>
    obtain ⟨i, q, hi, rfl, rfl, HQ, rfl⟩ := hrel
    cases gk with
    | zero =>
      have hnl : ¬ (i : Int) < (n1 : Int) := by omega
      obtain rfl : i = n1 := by omega
      go_wp2_with fail
      refine (HC.out _).mono ?_
      rintro e w2 ⟨rfl, hb2⟩
      have HB2 := hide (nextB HB.out hb2)
      have HX2 := hide (HX.out.below hb2)
      have HY2 := hide (HY.out.below hb2)
      clear hb2 x0 x1 x2 x3 y0 y1 y2 y3
      obtain ⟨x0, x1, x2, x3⟩ := HX2.out.cells
      obtain ⟨y0, y1, y2, y3⟩ := HY2.out.cells
      simp only at x0 x1 x2 x3 y0 y1 y2 y3
      have hk : clashB ⟨a, b, (i : Int), d⟩ ⟨a2, b2, (n2 : Int), d2⟩ = (q && (d || d2)) := by
        unfold clashB
        rw [HRI.out.1, HRI.out.2]
        have hm : meetsB ⟨a, b, (i : Int), d⟩ ⟨a2, b2, (n2 : Int), d2⟩ = q := by rw [Bool.eq_iff_iff, HME.out, HQ.out]
        rw [hm]
        cases q <;> cases d <;> cases d2 <;> rfl
      rw [hk]
      clear hk HX2 HY2 HX HY HB HC
      cases q <;> cases d <;> cases d2
      all_goals
        go_wp2_with (go_at_call 11; refine (awake_any _).mono ?_; rintro e w3 ⟨rfl, hb⟩; have HB3 := hide (nextB HB2.out hb); clear hb)
        go_ret
        exact ⟨rfl, HB3.out⟩
    | succ m =>
      have hlt : (i : Int) < (n1 : Int) := by omega
      have HI := hide (show i < 300 by have := HN1.out; omega)
      go_wp2_with fail
      go_loopg [56, 5] n2 (fun t v56 v5 wr => ∃ (k : Nat) (q : Bool), k + t = n2 ∧ v56 = .int .i64 (k : Int) ∧ v5 = .bool q ∧ Hid (q = true ↔ Bth D n2 i k) ∧ w1 = wr)
      case atStart => exact ⟨0, q, by omega, rfl, rfl, HQ, rfl⟩
      case round =>
        clear HQ q
        obtain ⟨k, q, hk, rfl, rfl, HQ, rfl⟩ := hrel
        cases gk with
        | zero =>
          have hnl : ¬ (k : Int) < (n2 : Int) := by omega
          obtain rfl : k = n2 := by omega
          have hi63 : IntKind.i64.wrap ((i : Int) + 1) = (i : Int) + 1 := IntWalk.i64_in _ ⟨by omega, by have := HI.out; omega⟩
          go_wp2_with fail
          go_roundg m
          case measure => omega
          case rel => exact ⟨i + 1, q, by omega, by simp, rfl, hide (HQ.out.trans Bth.row), rfl⟩
        | succ m2 =>
          have hlt2 : (k : Int) < (n2 : Int) := by omega
          have hk63 : IntKind.i64.wrap ((k : Int) + 1) = (k : Int) + 1 := IntWalk.i64_in _ ⟨by omega, by have := HN2.out; omega⟩
          have hki : IntKind.i64.wrap ((k : Int) - (i : Int)) = (k : Int) - (i : Int) := IntWalk.i64_in _ ⟨by have := HI.out; omega, by have := HN2.out; omega⟩
          cases q with
          | true =>
            have HQ0 : Hid (Bth D n2 i k) := hide (HQ.out.1 rfl)
            go_wp2_with fail
            go_roundg m2
            case measure => omega
            case rel => exact ⟨k + 1, true, by omega, by simp, rfl, hide (by simp; exact Bth.cell.2 (.inl HQ0.out)), rfl⟩
          | false =>
            have HQ0 : Hid (¬ Bth D n2 i k) := hide (fun e => by have := HQ.out.2 e; cases this)
            obtain ⟨K, hK⟩ : ∃ K, (k : Int) - (i : Int) = K := ⟨_, rfl⟩
            rw [hK] at hki
            have HK := hide hK
            have HKR := hide (show (D == K) = true ↔ Bth D n2 i (k + 1) by rw [Bth.cell, ← hK]; simp [HQ0.out])
            have hD := HD.out
            go_wp2_with fail
            go_roundg m2
            case measure => omega
            case rel => exact ⟨k + 1, D == K, by omega, by simp, rfl, HKR, rfl⟩
end Go.Proofs.Ytjofbehmhdjohaa
