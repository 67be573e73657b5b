/- The law BitmapFinds. -/
import Derived.Test.YtkkklobjfoehnaaDoorFd0
namespace Go.Proofs.YtkkklobjfoehnaaDoor
open Go.RowKit Go.Extern

set_option maxRecDepth 100000 in
theorem finds_far (n : Int) (ns : List Int) (v : Value) (w : World) (hv : Ints w v ns) (hn : ¬ (0 ≤ n ∧ n ≤ 4096)) :
    Calls Tryd.prog 4 #[.int .i64 n, v] w fun e w' => e = .returned (.bool true) ∧ Below w.heap.size w w' := by
  have HN := hide (new_bad n hn w)
  obtain ⟨ao, cap, rfl⟩ := hv.form
  clear hv
  rw [show errV 20 = .iface 55 (.int .i64 20) from rfl] at HN
  by_cases h0 : n < 0
  · have d0 : decide (n < 0) = true := by simpa using h0
    clear h0 hn
    go_enter Tryd.func4, Tryd.ntmps4
    go_wp2_with fail
    refine HN.out.mono ?_
    rintro e w1 ⟨rfl, hb⟩
    have HB := hide hb
    clear hb HN
    go_wp2_with fail
    refine (awake_any _).mono ?_
    rintro e w2 ⟨rfl, hb⟩
    have HB2 := hide (below_next HB.out hb)
    clear hb
    go_wp2
    go_ret
    exact ⟨rfl, HB2.out⟩
  · have d0 : decide (n < 0) = false := by simpa using h0
    have d1 : decide (4096 < n) = true := by simp; omega
    clear h0 hn
    go_enter Tryd.func4, Tryd.ntmps4
    go_wp2_with fail
    refine HN.out.mono ?_
    rintro e w1 ⟨rfl, hb⟩
    have HB := hide hb
    clear hb HN
    go_wp2_with fail
    refine (awake_any _).mono ?_
    rintro e w2 ⟨rfl, hb⟩
    have HB2 := hide (below_next HB.out hb)
    clear hb
    go_wp2
    go_ret
    exact ⟨rfl, HB2.out⟩

set_option maxRecDepth 100000 in
theorem finds_wide (k : Nat) (ns : List Int) (v : Value) (w : World) (hv : Ints w v ns) (hn : k ≤ 4096) (hw : 500 < k ∨ 500 < ns.length) :
    Calls Tryd.prog 4 #[.int .i64 (k : Int), v] w fun e w' => e = .returned (.bool true) ∧ Below w.heap.size w w' := by
  have HN := hide (new_ok k hn w)
  obtain ⟨ao, cap, rfl⟩ := hv.form
  clear hv
  have d0 : decide ((k : Int) < 0) = false := by simp
  have d4 : decide (4096 < (k : Int)) = false := by simp; omega
  cases h1 : decide (500 < (k : Int)) with
  | true =>
    go_enter Tryd.func4, Tryd.ntmps4
    go_wp2_with fail
    refine HN.out.mono ?_
    rintro e w1 ⟨b, rfl, hf⟩
    have HB := hide hf.bel
    clear hf HN
    go_wp2_with fail
    refine (awake_any _).mono ?_
    rintro e w2 ⟨rfl, hb⟩
    have HB2 := hide (below_next HB.out hb)
    clear hb
    go_wp2
    go_ret
    exact ⟨rfl, HB2.out⟩
  | false =>
    cases h2 : decide (500 < (ns.length : Int)) with
    | true =>
      go_enter Tryd.func4, Tryd.ntmps4
      go_wp2_with fail
      refine HN.out.mono ?_
      rintro e w1 ⟨b, rfl, hf⟩
      have HB := hide hf.bel
      clear hf HN
      go_wp2_with fail
      refine (awake_any _).mono ?_
      rintro e w2 ⟨rfl, hb⟩
      have HB2 := hide (below_next HB.out hb)
      clear hb
      go_wp2
      go_ret
      exact ⟨rfl, HB2.out⟩
    | false =>
      exfalso
      have := of_decide_eq_false h1
      have := of_decide_eq_false h2
      omega

set_option maxRecDepth 100000 in
set_option maxHeartbeats 2000000 in
theorem finds_near (k : Nat) (ns : List Int) (v : Value) (w : World) (hv : Ints w v ns) (hT : Tab w) (hk : k ≤ 500) (hns : ns.length ≤ 500) :
    Calls Tryd.prog 4 #[.int .i64 (k : Int), v] w fun e w' => e = .returned (.bool true) ∧ Below w.heap.size w w' := by
  have HN := hide (new_ok k (by omega) w)
  have HNL := hide hns
  have HT := hide hT
  have HI := hide hv.2
  obtain ⟨ao, cap, g0, off, rfl, h2, h3⟩ := hv.at
  have H2 := hide h2
  have H3 := hide h3
  have d1 : decide (500 < (k : Int)) = false := by simp; omega
  have d2 : decide (500 < (ns.length : Int)) = false := by simp; omega
  clear hv h2 h3 hns hT
  go_enter Tryd.func4, Tryd.ntmps4
  go_wp2_with fail
  refine HN.out.mono ?_
  rintro e w1 ⟨b, rfl, hf⟩
  have HF := hide hf
  clear hf HN
  go_wp2_with fail
  go_loopg [51] ns.length (fun c i wr => ∃ j : Nat, j + c = ns.length ∧ i = .int .i64 (j : Int) ∧ Hid (Mine w (newF w w1) w1.heap.size b k wr))
  case atStart => exact ⟨0, by omega, rfl, hide (Mine.start HF.out)⟩
  case round =>
    obtain ⟨j, hj, rfl, HM⟩ := hrel
    cases gk with
    | zero =>
      have hnl : ¬ (j : Int) < (ns.length : Int) := by omega
      clear hj
      obtain ⟨l, hl, hbm, hbel, hsz, hF⟩ := HM.out
      have HL := hide hl
      have HS := hide hsz
      have HFF := hide hF
      have HB := hide hbel
      have HBM := hide hbm
      clear hl hbm hbel hsz hF HM
      go_wp2_with fail
      refine (count_any HBM.out).mono ?_
      rintro e w2 ⟨rfl, rfl⟩
      have HCK : Hid (l.count true ≤ k) := hide (by rw [← HL.out]; exact count_le_length l)
      go_wp2_with fail
      go_loopg [10, 11] (k - l.count true) (fun c lv iv wx => ∃ (i : Nat) (last : Int) (lx : List Bool), c = k - i ∧ i ≤ k ∧ lv = .int .i64 last ∧ iv = .int .i64 (i : Int) ∧ Hid (lx.length = k) ∧ Hid (lx.count true = i) ∧ Hid (Full lx last) ∧ Hid (Bm wx (newF w w1) b lx) ∧ Hid (Below w.heap.size w wx) ∧ Hid (w1.heap.size ≤ wx.heap.size))
      case atStart => exact ⟨l.count true, -1, l, rfl, HCK.out, rfl, rfl, HL, hide rfl, hide (fun q hq => by omega), HBM, HB, HS⟩
      case round =>
        obtain ⟨i, last, lx, hc, hik, rfl, rfl, HL2, HC2, HFU, HBX, HBE, HSZ⟩ := hrel
        have hT2 := HT.out.below HBE.out HT.out.lt
        have HT2 := hide hT2
        clear hT2
        by_cases hi : i < k
        · have hnl2 : (i : Int) < (k : Int) := by omega
          obtain ⟨q, hq⟩ := first_clear (l := lx) (by rw [HC2.out, HL2.out]; exact hi)
          have HQ := hide hq
          have hlast := HFU.out.lt hq
          obtain ⟨-, q1, q2, q3⟩ := firstS_some.1 hq
          have hqk : q < k := by rw [← HL2.out]; exact q1
          have HQ1 := hide q1
          have HQ2 := hide q2
          have d3 : decide ((q : Int) ≤ last) = false := by simp; omega
          have d4 : decide ((k : Int) ≤ (q : Int)) = false := by simp; omega
          have d5 : decide (k ≤ q) = false := by simp; omega
          have e2 : IntKind.i64.wrap ((i : Int) + 1) = (i : Int) + 1 := IntWalk.i64_in _ ⟨by omega, by omega⟩
          have HFR := hide (free_any HBX.out 0 HT2.out)
          rw [show (0 : Int).toNat = 0 from rfl, hq] at HFR
          unfold foundV at HFR
          have HHA := hide (has_any HBX.out (q : Int))
          rw [hasS_nat, q2] at HHA
          have HCC := hide hc
          clear hq q1 q2 q3 hlast hqk hc hi
          go_wp2_with fail
          refine HFR.out.mono ?_
          rintro e w3 ⟨rfl, rfl⟩
          go_wp2_with fail
          refine HHA.out.mono ?_
          rintro e w4 ⟨rfl, hb4⟩
          have HX4 := hide (HBX.out.below hb4)
          have HE4 := hide (below_next HBE.out hb4)
          have HS4 : Hid (w1.heap.size ≤ w4.heap.size) := hide (Nat.le_trans HSZ.out hb4.size)
          clear hb4 HBX HBE HSZ
          go_wp2_with fail
          refine (set1_in HX4.out (fun z hz => Nat.lt_of_lt_of_le hz.2 HS4.out) q HQ1.out).mono ?_
          rintro e w5 ⟨rfl, hp⟩
          have HX5 := hide hp.bm
          have HE5 : Hid (Below w.heap.size w w5) := hide (HE4.out.trans (hp.turn.below HE4.out.size (fun z hz => hz.1)))
          have HS5 : Hid (w1.heap.size ≤ w5.heap.size) := hide (Nat.le_trans HS4.out hp.turn.size)
          clear hp
          go_wp2
          go_roundg (k - (i + 1))
          case measure => have := HCC.out; omega
          case rel => exact ⟨i + 1, (q : Int), lx.set q true, rfl, by omega, rfl, by go_num, hide (by rw [List.length_set]; exact HL2.out), hide (by rw [count_set HQ1.out HQ2.out, HC2.out]), hide (Full.step HQ.out), HX5, HE5, HS5⟩
        · have hnl2 : ¬ (i : Int) < (k : Int) := by omega
          have hie : i = k := by omega
          have HAL : Hid (lx.count true = lx.length) := hide (by rw [HC2.out, HL2.out]; exact hie)
          have HFR := hide (free_any HBX.out 0 HT2.out)
          rw [show (0 : Int).toNat = 0 from rfl, none_clear HAL.out] at HFR
          unfold foundV at HFR
          have HCO := hide (count_any HBX.out)
          rw [HAL.out, HL2.out] at HCO
          clear hi hc hie
          go_wp2_with fail
          refine HFR.out.mono ?_
          rintro e w3 ⟨rfl, rfl⟩
          go_wp2_with fail
          refine HCO.out.mono ?_
          rintro e w4 ⟨rfl, rfl⟩
          go_wp2_with fail
          refine (awake_any _).mono ?_
          rintro e w5 ⟨rfl, hb⟩
          have HB5 := hide (below_next HBE.out hb)
          clear hb
          go_wp2
          go_ret
          exact ⟨rfl, HB5.out⟩
    | succ c =>
      have hlt : j < ns.length := by omega
      have hnl : (j : Int) < (ns.length : Int) := by omega
      obtain ⟨x, hx⟩ : ∃ x, ns[j]? = some x := ⟨ns[j], by simp [hlt]⟩
      obtain rfl := H2.out (by omega)
      obtain ⟨l, hl, hbm, hbel, hsz, hF⟩ := HM.out
      have cx : wr.cell? ⟨g0, off + j, none⟩ = some (.int .i64 x) := by
        have := H3.out j x hx
        rw [hbel.cell (cell_lt this)]; exact this
      have hxi := HI.out x (List.mem_of_getElem? hx)
      have e2 : IntKind.i64.wrap ((j : Int) + 1) = (j : Int) + 1 := IntWalk.i64_in _ ⟨by omega, by have := HNL.out; omega⟩
      have hge : (0 : Int) ≤ (j : Int) := by omega
      have HST := hide (set1_any hbm (fun q hq => Nat.lt_of_lt_of_le (hF q hq).2 hsz) x hxi)
      have HMN : Hid (∀ w', Put (newF w w1) b (put1 l x true) wr w' → Mine w (newF w w1) w1.heap.size b k w') := hide fun w' hp => Mine.put hl hbel hsz hF (by rw [put1_length]; exact hl) hp
      clear hlt hx hl hbm hbel hsz hF HM hxi
      go_wp2_with fail
      refine HST.out.mono ?_
      rintro e w2 ⟨u, rfl, hp⟩
      have HM2 := hide (HMN.out w2 hp)
      clear hp HST HMN
      go_wp2
      go_roundg c
      case measure => omega
      case rel => exact ⟨j + 1, by omega, by go_num, HM2⟩
  
theorem findsL_any (n : Int) (ns : List Int) (v : Value) (w : World) (hv : Ints w v ns) (hT : Tab w) :
    Calls Tryd.prog 4 #[.int .i64 n, v] w fun e w' => e = .returned (.bool true) ∧ Below w.heap.size w w' := by
  by_cases hn : 0 ≤ n ∧ n ≤ 4096
  · obtain ⟨k, rfl⟩ : ∃ k : Nat, n = (k : Int) := ⟨n.toNat, by omega⟩
    by_cases hw : 500 < k ∨ 500 < ns.length
    · exact finds_wide k ns v w hv (by omega) hw
    · exact finds_near k ns v w hv hT (by omega) (by omega)
  · exact finds_far n ns v w hv hn
end Go.Proofs.YtkkklobjfoehnaaDoor
