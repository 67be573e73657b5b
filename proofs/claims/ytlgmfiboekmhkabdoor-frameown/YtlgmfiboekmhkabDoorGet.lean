/- Get by its contract. -/
import Derived.Test.YtlgmfiboekmhkabDoorAwake
import Derived.Test.YtlgmfiboekmhkabDoorCut
namespace Go.Proofs.YtlgmfiboekmhkabDoor
open Go.RowKit Go.Extern

set_option maxRecDepth 100000 in
set_option maxHeartbeats 1000000 in
theorem allNoughts_any (bs : List Nat) (v : Value) (w : World) (hv : Bytes w v bs) :
    Calls Tryd.prog 25 #[v] w fun e w' => e = .returned (.bool (bs.all (· == 0))) ∧ w' = w := by
  obtain ⟨ao, cap, g, off, rfl, h2, h3, h4, h5, -⟩ := hv
  have H2 := hide h2
  have H3 := hide h3
  have H5 := hide h5
  clear h2 h3 h4 h5
  go_enter Tryd.func25, Tryd.ntmps25
  go_wp2
  go_loopg [7] bs.length (fun k i wr => wr = w ∧ ∃ j, j + k = bs.length ∧ i = .int .i64 (j : Int) ∧ (bs.take j).all (· == 0) = true)
  case atStart => exact ⟨rfl, 0, by omega, rfl, rfl⟩
  case round =>
    obtain ⟨rfl, j, hj, rfl, hall⟩ := hrel
    have HA := hide hall
    clear hall
    cases gk with
    | zero =>
      have hnl : ¬ (j : Int) < (bs.length : Int) := by omega
      have hend : bs.take j = bs := List.take_of_length_le (by omega)
      rw [hend] at HA
      clear hend
      go_wp2
      go_ret
      exact ⟨by rw [HA.out]; rfl, rfl⟩
    | succ m =>
      have hjl : j < bs.length := by omega
      have hlt : (j : Int) < (bs.length : Int) := by omega
      have hb0 : (0 : Int) ≤ (j : Int) := by omega
      obtain ⟨b, hb⟩ : ∃ b, bs[j]? = some b := ⟨bs[j], by simp [hjl]⟩
      have k1 := H3.out j b hb
      obtain rfl := H2.out (by omega)
      have HB := hide hb
      have HTS := hide (take_snoc hb)
      have HJ : Hid ((j : Int) + 1 < 140737488355328 + 1) := by have := H5.out; show _ < _; omega
      clear hb
      by_cases hz : b = 0
      · subst hz
        have hjj := HJ.out
        go_wp2
        go_roundg m
        case measure => omega
        case rel => exact ⟨rfl, j + 1, by omega, by go_num, by rw [HTS.out, List.all_append, HA.out]; rfl⟩
      · have hz1 : ((b : Int) != 0) = true := by simp; omega
        have HF : Hid (bs.all (· == 0) = false) := by
          show _ = _
          rw [List.all_eq_false]
          exact ⟨b, List.mem_of_getElem? HB.out, by simpa using hz⟩
        clear hz
        go_wp2
        go_ret
        exact ⟨by rw [HF.out]; rfl, rfl⟩

/-- The error that reading a frame tells; 0: none. -/
def gErr (kind : Nat) (s : List Nat) : Int :=
  if s.length ≠ 128 then 11
  else if val (s.drop 124) ≠ crc (s.take 124) then 12
  else if s.getD 0 0 ≠ kind then 13
  else if 122 < s.getD 1 0 ∨ ((s.take 124).drop (2 + s.getD 1 0)).all (· == 0) = false then 14
  else 0
/-- The payload. -/
def gPay (kind : Nat) (s : List Nat) : List Nat := if gErr kind s = 0 then (s.drop 2).take (s.getD 1 0) else []

theorem get_size (kind : Nat) (s : List Nat) (v : Value) (w : World) (hv : Bytes w v s) (hl : s.length ≠ 128) :
    Calls Tryd.prog 8 #[.int .u8 (kind : Int), v] w fun e w' => e = .returned (.tuple #[.slice none 0 0, errV 11]) ∧ w' = w := by
  obtain ⟨ao, cap, g, off, rfl, -⟩ := hv
  have hl' : ((s.length : Int) != 128) = true := by simp; omega
  go_enter Tryd.func8, Tryd.ntmps8
  go_wp2
  go_ret2
  exact ⟨rfl, rfl⟩

theorem new_ne {w : World} {g o : Nat} {v : Value} (h : w.cell? ⟨g, o, none⟩ = some v) : g ≠ w.heap.size := by
  have := cell_lt h
  simp at this
  omega
theorem Own.form' {w : World} {base : Nat} {v : Value} {bs : List Nat} (h : Own w base v bs) : ∃ ao n cap, v = .slice ao n cap := by
  obtain ⟨ao, cap, rfl⟩ := h.form
  exact ⟨_, _, _, rfl⟩
/-- What Get leaves. -/
def GotX (w : World) (u : Value) (bs : List Nat) (w' : World) : Prop := Own w' w.heap.size u bs ∧ Below w.heap.size w w'

set_option maxRecDepth 100000 in
set_option maxHeartbeats 400000 in
theorem get_core (kind k0 n1 x : Nat) (bd pay : List Nat) (r : Int) (ao aF : Option Addr) (cap nF cF gb ob cb : Nat) (w : World) (hL : Laid w)
    (cutT : ∀ w2, (Instr.slice 22 (.slice ao 128 cap) none (some (.int .i64 124)) none).run Tryd.prog w2 = .ok (.slice (some ⟨gb, ob, none⟩) 124 cb) w2)
    (cutF : ∀ w2, (Instr.slice 22 (.slice ao 128 cap) (some (.int .i64 124)) none none).run Tryd.prog w2 = .ok (.slice aF nF cF) w2)
    (hrd : Calls Tryd.prog 24 #[.slice aF nF cF, .int .i64 4] w fun e w' => e = .returned (.int .u64 (x : Int)) ∧ Below w.heap.size w w')
    (hT : Bytes w (.slice (some ⟨gb, ob, none⟩) 124 cb) bd) (g0 : bd[0]? = some k0) (g1 : bd[1]? = some n1) (hbl : bd.length = 124)
    (hr : r = if x ≠ crc bd then 12 else if k0 ≠ kind then 13 else if 122 < n1 ∨ (bd.drop (2 + n1)).all (· == 0) = false then 14 else 0)
    (hpay : pay = if r = 0 then (bd.drop 2).take n1 else []) :
    Calls Tryd.prog 8 #[.int .u8 (kind : Int), .slice ao 128 cap] w fun e w' => ∃ u, e = .returned (.tuple #[u, errV r]) ∧ GotX w u pay w' := by
  have HT := hide hT
  have HR := hide hr
  have HP := hide hpay
  have HL := hide hL
  have HRD := hide hrd
  have HBL := hide hbl
  have c0 : w.cell? ⟨gb, ob, none⟩ = some (.int .u8 (k0 : Int)) := by
    obtain ⟨g', o', c', e, hc, -⟩ := hT.at0 (by omega)
    simp only [Value.slice.injEq, Option.some.injEq, Addr.mk.injEq, and_true] at e
    obtain ⟨⟨rfl, rfl⟩, -⟩ := e
    exact hc 0 k0 g0
  have c1 : w.cell? ⟨gb, ob + 1, none⟩ = some (.int .u8 (n1 : Int)) := by
    obtain ⟨g', o', c', e, hc, -⟩ := hT.at0 (by omega)
    simp only [Value.slice.injEq, Option.some.injEq, Addr.mk.injEq, and_true] at e
    obtain ⟨⟨rfl, rfl⟩, -⟩ := e
    exact hc 1 n1 g1
  have hn1 := hT.lt n1 (List.mem_of_getElem? g1)
  have HC := hide (crc_lt bd)
  clear hT hr hpay hL hrd hbl g0 g1
  go_enter Tryd.func8, Tryd.ntmps8
  go_wp2_with fail
  refine HRD.out.mono ?_
  rintro e w1 ⟨rfl, hb1⟩
  have HB1 := hide hb1
  have d0 : w1.cell? ⟨gb, ob, none⟩ = some (.int .u8 (k0 : Int)) := by rw [hb1.cell (cell_lt c0)]; exact c0
  have d1 : w1.cell? ⟨gb, ob + 1, none⟩ = some (.int .u8 (n1 : Int)) := by rw [hb1.cell (cell_lt c1)]; exact c1
  have HT1 := hide (HT.out.below hb1)
  have p0 : ∀ o, (w1.alloc o).cell? ⟨gb, ob, none⟩ = some (.int .u8 (k0 : Int)) := fun o => by rw [((Below.refl w1.heap.size w1).alloc (Nat.le_refl _) o).cell (cell_lt d0)]; exact d0
  have p1 : ∀ o, (w1.alloc o).cell? ⟨gb, ob + 1, none⟩ = some (.int .u8 (n1 : Int)) := fun o => by rw [((Below.refl w1.heap.size w1).alloc (Nat.le_refl _) o).cell (cell_lt d1)]; exact d1
  have m0 := (new_ne d0).symm
  clear hb1 c0 c1 HRD cutT cutF
  have HB2 := hide (HB1.out.alloc HB1.out.size (.cells #[.slice (some ⟨gb, ob, none⟩) 124 cb] 22))
  have HSM := hide (sum_any [bd] _ _ (HL.out.below HB2.out) (parts_one w1 _ _ HT1.out))
  have hfl : [bd].flatten = bd := by simp
  rw [hfl] at HSM
  have hcl := HC.out
  generalize crc bd = c at HSM HR hcl HC
  have hcw : IntKind.u64.wrap (c : Int) = (c : Int) := by rw [IntKind.wrap_u64]; omega
  have HT2 := hide (HT1.out.below ((Below.refl _ _).alloc (Nat.le_refl _) (.cells #[.slice (some ⟨gb, ob, none⟩) 124 cb] 22)))
  clear hfl hcl
  by_cases hxc : x = c
  · subst hxc
    by_cases hk : k0 = kind
    · subst hk
      by_cases hn : 122 < n1
      · have hn' : (122 : Int) < (n1 : Int) := by omega
        go_wp2_with (go_at_call 22; refine HSM.out.mono ?_; rintro e w' ⟨rfl, rfl⟩)
        go_ret2
        have hr : r = 14 := by rw [HR.out]; simp [hn]
        have hp : pay = [] := by rw [HP.out, hr]; rfl
        exact ⟨_, by rw [hr]; rfl, by rw [hp]; exact ⟨Own.nil _ _, HB2.out⟩⟩
      · have hn' : ¬ (122 : Int) < (n1 : Int) := by omega
        obtain ⟨aD, nD, cD, cutD, HD⟩ := cut_from _ _ bd (2 + n1) HT2.out (by have := HBL.out; omega)
        have e2 : ((2 + n1 : Nat) : Int) = 2 + (n1 : Int) := by omega
        rw [e2] at cutD
        obtain ⟨aE, nE, cE, cutE, HE⟩ := cut_both _ _ bd 2 (2 + n1) HT2.out (by omega) (by have := HBL.out; omega)
        rw [e2] at cutE
        have cutE' : ∀ w2, (Instr.slice 22 (.slice (some ⟨gb, ob, none⟩) 124 cb) (some (.int .i64 2)) (some (.int .i64 (2 + (n1 : Int)))) none).run Tryd.prog w2 = .ok (.slice aE nE cE) w2 := cutE
        clear cutE
        have hsub : 2 + n1 - 2 = n1 := by omega
        rw [hsub] at HE
        have HAN := hide (allNoughts_any _ _ _ HD.out)
        have HCL := hide (clone_any _ _ _ HE.out)
        have H14 : Hid ((bd.drop (2 + n1)).all (· == 0) = false → r = 14 ∧ pay = []) := fun h => by
          have hr : r = 14 := by rw [HR.out]; simp only [h, or_true, if_true]; simp
          exact ⟨hr, by rw [HP.out, hr]; rfl⟩
        have H0 : Hid ((bd.drop (2 + n1)).all (· == 0) = true → r = 0 ∧ pay = (bd.drop 2).take n1) := fun h => by
          have hr : r = 0 := by rw [HR.out, h]; simp [hn]
          exact ⟨hr, by rw [HP.out, hr]; rfl⟩
        clear e2 hsub hn
        go_wp2_with (go_at_call 22; refine HSM.out.mono ?_; rintro e w' ⟨rfl, rfl⟩)
        refine HAN.out.mono ?_
        rintro e w' ⟨rfl, rfl⟩
        cases hz : (bd.drop (2 + n1)).all (· == 0) with
        | false =>
          obtain ⟨hr, hp⟩ := H14.out hz
          have HR2 := hide hr
          have HP2 := hide hp
          clear hr hp hz H14 H0 HAN
          go_wp2
          go_ret2
          exact ⟨_, by rw [HR2.out]; rfl, by rw [HP2.out]; exact ⟨Own.nil _ _, HB2.out⟩⟩
        | true =>
          obtain ⟨hr, hp⟩ := H0.out hz
          have HR2 := hide hr
          have HP2 := hide hp
          clear hr hp hz H14 H0 HAN
          go_wp2_with fail
          refine HCL.out.mono ?_
          rintro e w2 ⟨u, rfl, ho, hb⟩
          have HO := hide (ho.base (base' := w.heap.size) HB2.out.size)
          have HB3 := hide (HB2.out.trans (hb.mono HB2.out.size))
          obtain ⟨ao2, n2, cap2, rfl⟩ := ho.form'
          clear ho hb
          go_wp2
          go_ret2
          exact ⟨_, by rw [HR2.out]; rfl, by rw [HP2.out]; exact ⟨HO.out, HB3.out⟩⟩
    · have hk1 : ((k0 : Int) != (kind : Int)) = true := by simp; omega
      go_wp2_with (go_at_call 22; refine HSM.out.mono ?_; rintro e w' ⟨rfl, rfl⟩)
      go_ret2
      have hr : r = 13 := by rw [HR.out]; simp [hk]
      have hp : pay = [] := by rw [HP.out, hr]; rfl
      exact ⟨_, by rw [hr]; rfl, by rw [hp]; exact ⟨Own.nil _ _, HB2.out⟩⟩
  · have hx1 : ((x : Int) != (c : Int)) = true := by simp; omega
    go_wp2_with (go_at_call 22; refine HSM.out.mono ?_; rintro e w' ⟨rfl, rfl⟩)
    go_ret2
    have hr : r = 12 := by rw [HR.out]; simp [hxc]
    have hp : pay = [] := by rw [HP.out, hr]; rfl
    exact ⟨_, by rw [hr]; rfl, by rw [hp]; exact ⟨Own.nil _ _, HB2.out⟩⟩

theorem get_whole (kind : Nat) (s : List Nat) (v : Value) (w : World) (hL : Laid w) (hv : Bytes w v s) (hl : s.length = 128) :
    Calls Tryd.prog 8 #[.int .u8 (kind : Int), v] w fun e w' => ∃ u, e = .returned (.tuple #[u, errV (gErr kind s)]) ∧ GotX w u (gPay kind s) w' := by
  obtain ⟨aT, nT, cT, cutT, HT⟩ := cut_to w v s 124 hv (by omega)
  obtain ⟨aF, nF, cF, cutF, HF⟩ := cut_from w v s 124 hv (by omega)
  have hrd := readNumber_any 4 (by simp) (s.drop 124) (by simp; omega) _ w HF.out
  have htk : (s.drop 124).take 4 = s.drop 124 := List.take_of_length_le (by simp; omega)
  rw [htk] at hrd
  have htl : (s.take 124).length = 124 := by simp; omega
  obtain ⟨gb, ob, cb, hbv, -⟩ := HT.out.at0 (by omega)
  have g0 : (s.take 124)[0]? = some (s.getD 0 0) := by
    rw [List.getElem?_take_of_lt (by decide), List.getD_eq_getElem?_getD, List.getElem?_eq_getElem (by omega)]; rfl
  have g1 : (s.take 124)[1]? = some (s.getD 1 0) := by
    rw [List.getElem?_take_of_lt (by decide), List.getD_eq_getElem?_getD, List.getElem?_eq_getElem (by omega)]; rfl
  have hr : gErr kind s = if val (s.drop 124) ≠ crc (s.take 124) then 12 else if s.getD 0 0 ≠ kind then 13 else if 122 < s.getD 1 0 ∨ ((s.take 124).drop (2 + s.getD 1 0)).all (· == 0) = false then 14 else 0 := by
    unfold gErr; rw [if_neg (by omega)]
  have hpay : gPay kind s = if gErr kind s = 0 then ((s.take 124).drop 2).take (s.getD 1 0) else [] := by
    unfold gPay
    by_cases h0 : gErr kind s = 0
    · rw [if_pos h0, if_pos h0]
      have hn : s.getD 1 0 ≤ 122 := by
        rw [hr] at h0
        by_cases h1 : val (s.drop 124) ≠ crc (s.take 124)
        · rw [if_pos h1] at h0; cases h0
        · rw [if_neg h1] at h0
          by_cases h2 : s.getD 0 0 ≠ kind
          · rw [if_pos h2] at h0; cases h0
          · rw [if_neg h2] at h0
            by_cases h3 : 122 < s.getD 1 0 ∨ ((s.take 124).drop (2 + s.getD 1 0)).all (· == 0) = false
            · rw [if_pos h3] at h0; cases h0
            · omega
      rw [List.drop_take, List.take_take]; congr 1; omega
    · rw [if_neg h0, if_neg h0]
  obtain ⟨ao, cap, g, off, rfl, -⟩ := hv
  rw [hl] at cutT cutF ⊢
  rw [hbv, htl] at cutT HT
  exact get_core kind _ _ _ (s.take 124) (gPay kind s) (gErr kind s) ao aF cap nF cF gb ob cb w hL cutT cutF hrd HT.out g0 g1 htl hr hpay

theorem get_any (kind : Nat) (s : List Nat) (v : Value) (w : World) (hL : Laid w) (hv : Bytes w v s) :
    Calls Tryd.prog 8 #[.int .u8 (kind : Int), v] w fun e w' => ∃ u, e = .returned (.tuple #[u, errV (gErr kind s)]) ∧ GotX w u (gPay kind s) w' := by
  by_cases hl : s.length = 128
  · exact get_whole kind s v w hL hv hl
  · refine (get_size kind s v w hv hl).mono ?_
    rintro e w' ⟨rfl, rfl⟩
    have h1 : gErr kind s = 11 := by unfold gErr; rw [if_pos hl]
    have h2 : gPay kind s = [] := by unfold gPay; rw [h1]; rfl
    exact ⟨_, by rw [h1], by rw [h2]; exact ⟨Own.nil _ _, Below.refl _ _⟩⟩
end Go.Proofs.YtlgmfiboekmhkabDoor
