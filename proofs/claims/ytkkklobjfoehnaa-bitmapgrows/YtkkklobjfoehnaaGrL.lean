/- The law BitmapGrows. -/
import Derived.Test.YtkkklobjfoehnaaS1
namespace Go.Proofs.Ytkkklobjfoehnaa
open Go.RowKit Go.Extern

set_option maxRecDepth 100000 in
theorem grows_far (n more : Int) (ns : List Int) (v : Value) (w : World) (hv : Ints w v ns) (hn : ¬ (0 ≤ n ∧ n ≤ 4096)) :
    Calls Try.prog 4 #[.int .i64 n, v, .int .i64 more] w fun e w' => e = .returned (.bool true) ∧ Below w.heap.size w w' := by
  have HN := hide (new_bad n hn w)
  obtain ⟨ao, cap, rfl⟩ := hv.form
  clear hv
  rw [show errV 20 = .iface 41 (.int .i64 20) from rfl] at HN
  by_cases h0 : n < 0
  · have d0 : decide (n < 0) = true := by simpa using h0
    clear h0 hn
    go_enter Try.func4, Try.ntmps4
    go_wp2_with fail
    refine HN.out.mono ?_
    rintro e w1 ⟨rfl, hb⟩
    have HB := hide hb
    clear hb HN
    go_wp2_with fail
    refine (awake_any _).mono ?_
    rintro e w2 ⟨rfl, hb⟩
    have HB2 := hide (below_next HB.out hb)
    clear hb
    go_wp2
    go_ret
    exact ⟨rfl, HB2.out⟩
  · have d0 : decide (n < 0) = false := by simpa using h0
    have d1 : decide (4096 < n) = true := by simp; omega
    clear h0 hn
    go_enter Try.func4, Try.ntmps4
    go_wp2_with fail
    refine HN.out.mono ?_
    rintro e w1 ⟨rfl, hb⟩
    have HB := hide hb
    clear hb HN
    go_wp2_with fail
    refine (awake_any _).mono ?_
    rintro e w2 ⟨rfl, hb⟩
    have HB2 := hide (below_next HB.out hb)
    clear hb
    go_wp2
    go_ret
    exact ⟨rfl, HB2.out⟩

set_option maxRecDepth 100000 in
theorem grows_wide (k : Nat) (more : Int) (ns : List Int) (v : Value) (w : World) (hv : Ints w v ns) (hn : k ≤ 4096) (hw : 500 < k ∨ 500 < ns.length ∨ (500 < more ∧ more ≤ 4096)) :
    Calls Try.prog 4 #[.int .i64 (k : Int), v, .int .i64 more] w fun e w' => e = .returned (.bool true) ∧ Below w.heap.size w w' := by
  have HN := hide (new_ok k hn w)
  obtain ⟨ao, cap, rfl⟩ := hv.form
  clear hv
  have d0 : decide ((k : Int) < 0) = false := by simp
  have d4 : decide (4096 < (k : Int)) = false := by simp; omega
  cases h1 : decide (500 < (k : Int)) with
  | true =>
    go_enter Try.func4, Try.ntmps4
    go_wp2_with fail
    refine HN.out.mono ?_
    rintro e w1 ⟨b, rfl, hf⟩
    have HB := hide hf.bel
    clear hf HN
    go_wp2_with fail
    refine (awake_any _).mono ?_
    rintro e w2 ⟨rfl, hb⟩
    have HB2 := hide (below_next HB.out hb)
    clear hb
    go_wp2
    go_ret
    exact ⟨rfl, HB2.out⟩
  | false =>
    cases h2 : decide (500 < (ns.length : Int)) with
    | true =>
      go_enter Try.func4, Try.ntmps4
      go_wp2_with fail
      refine HN.out.mono ?_
      rintro e w1 ⟨b, rfl, hf⟩
      have HB := hide hf.bel
      clear hf HN
      go_wp2_with fail
      refine (awake_any _).mono ?_
      rintro e w2 ⟨rfl, hb⟩
      have HB2 := hide (below_next HB.out hb)
      clear hb
      go_wp2
      go_ret
      exact ⟨rfl, HB2.out⟩
    | false =>
      have hm : 500 < more ∧ more ≤ 4096 := by
        have := of_decide_eq_false h1
        have := of_decide_eq_false h2
        omega
      have d5 : decide (500 < more) = true := by simp; omega
      have d6 : decide (more ≤ 4096) = true := by simp; omega
      clear hm hw
      go_enter Try.func4, Try.ntmps4
      go_wp2_with fail
      refine HN.out.mono ?_
      rintro e w1 ⟨b, rfl, hf⟩
      have HB := hide hf.bel
      clear hf HN
      go_wp2_with fail
      refine (awake_any _).mono ?_
      rintro e w2 ⟨rfl, hb⟩
      have HB2 := hide (below_next HB.out hb)
      clear hb
      go_wp2
      go_ret
      exact ⟨rfl, HB2.out⟩

set_option maxRecDepth 100000 in
set_option maxHeartbeats 1000000 in
theorem grows_neg (k : Nat) (more : Int) (ns : List Int) (v : Value) (w : World) (hv : Ints w v ns) (hk : k ≤ 500) (hns : ns.length ≤ 500) (hm : more < 0) :
    Calls Try.prog 4 #[.int .i64 (k : Int), v, .int .i64 more] w fun e w' => e = .returned (.bool true) ∧ Below w.heap.size w w' := by
  have HN := hide (new_ok k (by omega) w)
  have HNL := hide hns
  have HI := hide hv.2
  obtain ⟨ao, cap, g0, off, rfl, h2, h3⟩ := hv.at
  have H2 := hide h2
  have H3 := hide h3
  have d1 : decide (500 < (k : Int)) = false := by simp; omega
  have d2 : decide (500 < (ns.length : Int)) = false := by simp; omega
  have d5 : decide (500 < more) = false := by simp; omega
  have d7 : decide (more < 0) = true := by simpa using hm
  clear hv h2 h3 hns
  go_enter Try.func4, Try.ntmps4
  go_wp2_with fail
  refine HN.out.mono ?_
  rintro e w1 ⟨b, rfl, hf⟩
  have HF := hide hf
  clear hf HN
  go_wp2_with fail
  go_loopg [57] ns.length (fun c i wr => ∃ j : Nat, j + c = ns.length ∧ i = .int .i64 (j : Int) ∧ Hid (Mine w (newF w w1) w1.heap.size b k wr))
  case atStart => exact ⟨0, by omega, rfl, hide (Mine.start HF.out)⟩
  case round =>
    obtain ⟨j, hj, rfl, HM⟩ := hrel
    cases gk with
    | zero =>
      have hnl : ¬ (j : Int) < (ns.length : Int) := by omega
      clear hj
      obtain ⟨l, hl, hbm, hbel, hsz, hF⟩ := HM.out
      have HL := hide hl
      have HS := hide hsz
      have HFF := hide hF
      have HB := hide hbel
      have HBM := hide hbm
      clear hl hbm hbel hsz hF HM
      go_wp2_with fail
      refine (clone_any HBM.out).mono ?_
      rintro e w2 ⟨bc, rfl, hfr⟩
      have HFR := hide hfr
      have HBM2 := hide (HBM.out.below hfr.bel)
      have HB2 := hide (below_next HB.out hfr.bel)
      clear hfr
      go_wp2_with fail
      refine (grow_bad HBM2.out more (by unfold growB; simp; omega)).mono ?_
      rintro e w3 ⟨rfl, rfl⟩
      rw [show errV 20 = .iface 41 (.int .i64 20) from rfl]
      go_wp2_with fail
      refine (is_any 20 20 _).mono ?_
      rintro e w4 ⟨rfl, rfl⟩
      rw [show decide ((20 : Int) = 20) = true from rfl]
      go_wp2_with fail
      refine (len_any HBM2.out).mono ?_
      rintro e w5 ⟨rfl, rfl⟩
      rw [HL.out]
      go_wp2_with fail
      refine (awake_any _).mono ?_
      rintro e w6 ⟨rfl, hb⟩
      have HB3 := hide (below_next HB2.out hb)
      clear hb
      go_wp2
      go_ret
      exact ⟨rfl, HB3.out⟩
    | succ c =>
      have hlt : j < ns.length := by omega
      have hnl : (j : Int) < (ns.length : Int) := by omega
      obtain ⟨x, hx⟩ : ∃ x, ns[j]? = some x := ⟨ns[j], by simp [hlt]⟩
      obtain rfl := H2.out (by omega)
      obtain ⟨l, hl, hbm, hbel, hsz, hF⟩ := HM.out
      have cx : wr.cell? ⟨g0, off + j, none⟩ = some (.int .i64 x) := by
        have := H3.out j x hx
        rw [hbel.cell (cell_lt this)]; exact this
      have hxi := HI.out x (List.mem_of_getElem? hx)
      have e2 : IntKind.i64.wrap ((j : Int) + 1) = (j : Int) + 1 := IntWalk.i64_in _ ⟨by omega, by have := HNL.out; omega⟩
      have hge : (0 : Int) ≤ (j : Int) := by omega
      have HST := hide (set1_any hbm (fun q hq => Nat.lt_of_lt_of_le (hF q hq).2 hsz) x hxi)
      have HMN : Hid (∀ w', Put (newF w w1) b (put1 l x true) wr w' → Mine w (newF w w1) w1.heap.size b k w') := hide fun w' hp => Mine.put hl hbel hsz hF (by rw [put1_length]; exact hl) hp
      clear hlt hx hl hbm hbel hsz hF HM hxi
      go_wp2_with fail
      refine HST.out.mono ?_
      rintro e w2 ⟨u, rfl, hp⟩
      have HM2 := hide (HMN.out w2 hp)
      clear hp HST HMN
      go_wp2
      go_roundg c
      case measure => omega
      case rel => exact ⟨j + 1, by omega, by go_num, HM2⟩
  
set_option maxRecDepth 100000 in
set_option maxHeartbeats 1000000 in
theorem grows_big (k : Nat) (more : Int) (ns : List Int) (v : Value) (w : World) (hv : Ints w v ns) (hk : k ≤ 500) (hns : ns.length ≤ 500) (hm : 4096 < more) :
    Calls Try.prog 4 #[.int .i64 (k : Int), v, .int .i64 more] w fun e w' => e = .returned (.bool true) ∧ Below w.heap.size w w' := by
  have HN := hide (new_ok k (by omega) w)
  have HNL := hide hns
  have HI := hide hv.2
  obtain ⟨ao, cap, g0, off, rfl, h2, h3⟩ := hv.at
  have H2 := hide h2
  have H3 := hide h3
  have d1 : decide (500 < (k : Int)) = false := by simp; omega
  have d2 : decide (500 < (ns.length : Int)) = false := by simp; omega
  have d5 : decide (500 < more) = true := by simp; omega
  have d6 : decide (more ≤ 4096) = false := by simp; omega
  have d7 : decide (more < 0) = false := by simp; omega
  have e1 : IntKind.i64.wrap (4096 - (k : Int)) = 4096 - (k : Int) := IntWalk.i64_in _ ⟨by omega, by omega⟩
  have d8 : decide (4096 - (k : Int) < more) = true := by simp; omega
  clear hv h2 h3 hns
  go_enter Try.func4, Try.ntmps4
  go_wp2_with fail
  refine HN.out.mono ?_
  rintro e w1 ⟨b, rfl, hf⟩
  have HF := hide hf
  clear hf HN
  go_wp2_with fail
  go_loopg [57] ns.length (fun c i wr => ∃ j : Nat, j + c = ns.length ∧ i = .int .i64 (j : Int) ∧ Hid (Mine w (newF w w1) w1.heap.size b k wr))
  case atStart => exact ⟨0, by omega, rfl, hide (Mine.start HF.out)⟩
  case round =>
    obtain ⟨j, hj, rfl, HM⟩ := hrel
    cases gk with
    | zero =>
      have hnl : ¬ (j : Int) < (ns.length : Int) := by omega
      clear hj
      obtain ⟨l, hl, hbm, hbel, hsz, hF⟩ := HM.out
      have HL := hide hl
      have HS := hide hsz
      have HFF := hide hF
      have HB := hide hbel
      have HBM := hide hbm
      clear hl hbm hbel hsz hF HM
      go_wp2_with fail
      refine (clone_any HBM.out).mono ?_
      rintro e w2 ⟨bc, rfl, hfr⟩
      have HFR := hide hfr
      have HBM2 := hide (HBM.out.below hfr.bel)
      have HB2 := hide (below_next HB.out hfr.bel)
      clear hfr
      go_wp2_with fail
      refine (grow_bad HBM2.out more (by unfold growB; simp; omega)).mono ?_
      rintro e w3 ⟨rfl, rfl⟩
      rw [show errV 20 = .iface 41 (.int .i64 20) from rfl]
      go_wp2_with fail
      refine (is_any 20 20 _).mono ?_
      rintro e w4 ⟨rfl, rfl⟩
      rw [show decide ((20 : Int) = 20) = true from rfl]
      go_wp2_with fail
      refine (len_any HBM2.out).mono ?_
      rintro e w5 ⟨rfl, rfl⟩
      rw [HL.out]
      go_wp2_with fail
      refine (awake_any _).mono ?_
      rintro e w6 ⟨rfl, hb⟩
      have HB3 := hide (below_next HB2.out hb)
      clear hb
      go_wp2
      go_ret
      exact ⟨rfl, HB3.out⟩
    | succ c =>
      have hlt : j < ns.length := by omega
      have hnl : (j : Int) < (ns.length : Int) := by omega
      obtain ⟨x, hx⟩ : ∃ x, ns[j]? = some x := ⟨ns[j], by simp [hlt]⟩
      obtain rfl := H2.out (by omega)
      obtain ⟨l, hl, hbm, hbel, hsz, hF⟩ := HM.out
      have cx : wr.cell? ⟨g0, off + j, none⟩ = some (.int .i64 x) := by
        have := H3.out j x hx
        rw [hbel.cell (cell_lt this)]; exact this
      have hxi := HI.out x (List.mem_of_getElem? hx)
      have e2 : IntKind.i64.wrap ((j : Int) + 1) = (j : Int) + 1 := IntWalk.i64_in _ ⟨by omega, by have := HNL.out; omega⟩
      have hge : (0 : Int) ≤ (j : Int) := by omega
      have HST := hide (set1_any hbm (fun q hq => Nat.lt_of_lt_of_le (hF q hq).2 hsz) x hxi)
      have HMN : Hid (∀ w', Put (newF w w1) b (put1 l x true) wr w' → Mine w (newF w w1) w1.heap.size b k w') := hide fun w' hp => Mine.put hl hbel hsz hF (by rw [put1_length]; exact hl) hp
      clear hlt hx hl hbm hbel hsz hF HM hxi
      go_wp2_with fail
      refine HST.out.mono ?_
      rintro e w2 ⟨u, rfl, hp⟩
      have HM2 := hide (HMN.out w2 hp)
      clear hp HST HMN
      go_wp2
      go_roundg c
      case measure => omega
      case rel => exact ⟨j + 1, by omega, by go_num, HM2⟩
  
set_option maxRecDepth 100000 in
set_option maxHeartbeats 1000000 in
theorem grows_ok (k : Nat) (m : Nat) (ns : List Int) (v : Value) (w : World) (hv : Ints w v ns) (hk : k ≤ 500) (hns : ns.length ≤ 500) (hm : m ≤ 500) :
    Calls Try.prog 4 #[.int .i64 (k : Int), v, .int .i64 (m : Int)] w fun e w' => e = .returned (.bool true) ∧ Below w.heap.size w w' := by
  have HN := hide (new_ok k (by omega) w)
  have HNL := hide hns
  have HI := hide hv.2
  obtain ⟨ao, cap, g0, off, rfl, h2, h3⟩ := hv.at
  have H2 := hide h2
  have H3 := hide h3
  have d1 : decide (500 < (k : Int)) = false := by simp; omega
  have d2 : decide (500 < (ns.length : Int)) = false := by simp; omega
  have d5 : decide (500 < (m : Int)) = false := by simp; omega
  have d7 : decide ((m : Int) < 0) = false := by simp
  have e1 : IntKind.i64.wrap (4096 - (k : Int)) = 4096 - (k : Int) := IntWalk.i64_in _ ⟨by omega, by omega⟩
  have e3 : IntKind.i64.wrap ((k : Int) + (m : Int)) = (k : Int) + (m : Int) := IntWalk.i64_in _ ⟨by omega, by omega⟩
  have d8 : decide (4096 - (k : Int) < (m : Int)) = false := by simp; omega
  clear hv h2 h3 hns
  go_enter Try.func4, Try.ntmps4
  go_wp2_with fail
  refine HN.out.mono ?_
  rintro e w1 ⟨b, rfl, hf⟩
  have HF := hide hf
  clear hf HN
  go_wp2_with fail
  go_loopg [57] ns.length (fun c i wr => ∃ j : Nat, j + c = ns.length ∧ i = .int .i64 (j : Int) ∧ Hid (Mine w (newF w w1) w1.heap.size b k wr))
  case atStart => exact ⟨0, by omega, rfl, hide (Mine.start HF.out)⟩
  case round =>
    obtain ⟨j, hj, rfl, HM⟩ := hrel
    cases gk with
    | zero =>
      have hnl : ¬ (j : Int) < (ns.length : Int) := by omega
      clear hj
      obtain ⟨l, hl, hbm, hbel, hsz, hF⟩ := HM.out
      have HL := hide hl
      have HS := hide hsz
      have HFF := hide hF
      have HB := hide hbel
      have HBM := hide hbm
      clear hl hbm hbel hsz hF HM
      go_wp2_with fail
      refine (clone_any HBM.out).mono ?_
      rintro e w2 ⟨bc, rfl, hfr⟩
      have HFR := hide hfr
      have HBM2 := hide (HBM.out.below hfr.bel)
      have HB2 := hide (below_next HB.out hfr.bel)
      clear hfr
      go_wp2_with fail
      refine (grow_ok HBM2.out m (by have := HL.out; omega)).mono ?_
      rintro e w3 ⟨rfl, hgr⟩
      have HC : Hid (Bm w3 (newF wr w2) bc l) := hide (HFR.out.bm.turn hgr.turn (fun q hq hF => by have := (HFF.out q hF).2; have := HS.out; have := hq.1; omega))
      have HM3 := hide hgr.bm
      have HB3 : Hid (Below w.heap.size w w3) := hide (HB2.out.trans (hgr.turn.below HB2.out.size (fun q hq => (HFF.out q hq).1)))
      clear hgr
      go_wp2_with fail
      refine (len_any HM3.out).mono ?_
      rintro e w4 ⟨rfl, rfl⟩
      have elen : ((l ++ List.replicate m false).length : Int) = (k : Int) + (m : Int) := by rw [List.length_append, List.length_replicate, HL.out]; omega
      rw [elen]
      go_wp2_with fail
      refine (count_any HM3.out).mono ?_
      rintro e w5 ⟨rfl, rfl⟩
      rw [count_grow]
      go_wp2_with fail
      refine (count_any HC.out).mono ?_
      rintro e w6 ⟨rfl, rfl⟩
      go_wp2_with fail
      refine (len_any HC.out).mono ?_
      rintro e w7 ⟨rfl, rfl⟩
      rw [HL.out]
      go_wp2_with fail
      go_loopg [116] (k + m) (fun c i wx => ∃ j : Nat, j + c = k + m ∧ i = .int .i64 (j : Int) ∧ Hid (Bm wx (ext (newF w w1) w2 w7) b (l ++ List.replicate m false)) ∧ Hid (Bm wx (newF wr w2) bc l) ∧ Hid (Below w.heap.size w wx))
      case atStart => exact ⟨0, by omega, rfl, HM3, HC, HB3⟩
      case round =>
        obtain ⟨j, hj, rfl, HX, HY, HZ⟩ := hrel
        cases gk with
        | zero =>
          have hnl2 : ¬ (j : Int) < (k : Int) + (m : Int) := by omega
          clear hj
          go_wp2_with fail
          refine (awake_any _).mono ?_
          rintro e w8 ⟨rfl, hb⟩
          have HB8 := hide (below_next HZ.out hb)
          clear hb
          go_wp2
          go_ret
          exact ⟨rfl, HB8.out⟩
        | succ c =>
          have hnl2 : (j : Int) < (k : Int) + (m : Int) := by omega
          have e2 : IntKind.i64.wrap ((j : Int) + 1) = (j : Int) + 1 := IntWalk.i64_in _ ⟨by omega, by omega⟩
          go_wp2_with fail
          refine (has_any HX.out (j : Int)).mono ?_
          rintro e w8 ⟨rfl, hb8⟩
          rw [has_grow]
          have HY8 := hide (HY.out.below hb8)
          have HX8 := hide (HX.out.below hb8)
          have HZ8 := hide (below_next HZ.out hb8)
          clear hb8
          go_wp2_with fail
          refine (has_any HY8.out (j : Int)).mono ?_
          rintro e w9 ⟨rfl, hb9⟩
          have HY9 := hide (HY8.out.below hb9)
          have HX9 := hide (HX8.out.below hb9)
          have HZ9 := hide (below_next HZ8.out hb9)
          clear hb9
          generalize hasS l (j : Int) = q
          cases q with
          | true =>
            go_wp2
            go_roundg c
            case measure => omega
            case rel => exact ⟨j + 1, by omega, by go_num, HX9, HY9, HZ9⟩
          | false =>
            go_wp2
            go_roundg c
            case measure => omega
            case rel => exact ⟨j + 1, by omega, by go_num, HX9, HY9, HZ9⟩
    | succ c =>
      have hlt : j < ns.length := by omega
      have hnl : (j : Int) < (ns.length : Int) := by omega
      obtain ⟨x, hx⟩ : ∃ x, ns[j]? = some x := ⟨ns[j], by simp [hlt]⟩
      obtain rfl := H2.out (by omega)
      obtain ⟨l, hl, hbm, hbel, hsz, hF⟩ := HM.out
      have cx : wr.cell? ⟨g0, off + j, none⟩ = some (.int .i64 x) := by
        have := H3.out j x hx
        rw [hbel.cell (cell_lt this)]; exact this
      have hxi := HI.out x (List.mem_of_getElem? hx)
      have e2 : IntKind.i64.wrap ((j : Int) + 1) = (j : Int) + 1 := IntWalk.i64_in _ ⟨by omega, by have := HNL.out; omega⟩
      have hge : (0 : Int) ≤ (j : Int) := by omega
      have HST := hide (set1_any hbm (fun q hq => Nat.lt_of_lt_of_le (hF q hq).2 hsz) x hxi)
      have HMN : Hid (∀ w', Put (newF w w1) b (put1 l x true) wr w' → Mine w (newF w w1) w1.heap.size b k w') := hide fun w' hp => Mine.put hl hbel hsz hF (by rw [put1_length]; exact hl) hp
      clear hlt hx hl hbm hbel hsz hF HM hxi
      go_wp2_with fail
      refine HST.out.mono ?_
      rintro e w2 ⟨u, rfl, hp⟩
      have HM2 := hide (HMN.out w2 hp)
      clear hp HST HMN
      go_wp2
      go_roundg c
      case measure => omega
      case rel => exact ⟨j + 1, by omega, by go_num, HM2⟩
  
theorem growsL_any (n more : Int) (ns : List Int) (v : Value) (w : World) (hv : Ints w v ns) :
    Calls Try.prog 4 #[.int .i64 n, v, .int .i64 more] w fun e w' => e = .returned (.bool true) ∧ Below w.heap.size w w' := by
  by_cases hn : 0 ≤ n ∧ n ≤ 4096
  · obtain ⟨k, rfl⟩ : ∃ k : Nat, n = (k : Int) := ⟨n.toNat, by omega⟩
    by_cases hw : 500 < k ∨ 500 < ns.length ∨ (500 < more ∧ more ≤ 4096)
    · exact grows_wide k more ns v w hv (by omega) hw
    · by_cases h1 : more < 0
      · exact grows_neg k more ns v w hv (by omega) (by omega) h1
      · by_cases h2 : 4096 < more
        · exact grows_big k more ns v w hv (by omega) (by omega) h2
        · obtain ⟨m, rfl⟩ : ∃ m : Nat, more = (m : Int) := ⟨more.toNat, by omega⟩
          exact grows_ok k m ns v w hv (by omega) (by omega) (by omega)
  · exact grows_far n more ns v w hv hn
end Go.Proofs.Ytkkklobjfoehnaa
