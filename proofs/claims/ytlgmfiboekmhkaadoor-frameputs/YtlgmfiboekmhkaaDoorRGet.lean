/- The reference's Get by its contract. -/
import Derived.Test.YtlgmfiboekmhkaaDoorRFrame
import Derived.Deep.RegionWith
namespace Go.Proofs.YtlgmfiboekmhkaaDoor
open Go.RowKit Go.Extern

theorem below_drew' (w : World) : Below w.heap.size w w.drew := (Below.refl _ _).drew

theorem rget_size (kind : Nat) (s : List Nat) (v : Value) (w : World) (hv : Bytes w v s) (hl : s.length ≠ 128) :
    Calls Tryd.prog 18 #[.int .u8 (kind : Int), v] w fun e w' => e = .returned (.tuple #[.slice none 0 0, .int .i64 11]) ∧ w' = w := by
  obtain ⟨ao, cap, g, off, rfl, -⟩ := hv
  have hl' : ((s.length : Int) != 128) = true := by simp; omega
  go_enter Tryd.func18, Tryd.ntmps18
  go_wp2
  go_ret2
  exact ⟨rfl, rfl⟩

set_option maxRecDepth 100000 in
set_option maxHeartbeats 400000 in
theorem rget_core (kind k0 n1 c : Nat) (s dr pay : List Nat) (r : Int) (ao aT aF : Option Addr) (cap nT cT nF cF g off : Nat) (w : World)
    (cutT : ∀ w2, (Instr.slice 23 (.slice ao 128 cap) none (some (.int .i64 124)) none).run Tryd.prog w2 = .ok (.slice aT nT cT) w2)
    (cutF : ∀ w2, (Instr.slice 23 (.slice ao 128 cap) (some (.int .i64 124)) none none).run Tryd.prog w2 = .ok (.slice aF nF cF) w2)
    (hc32 : c < 4294967296) (hrs : ∀ w2, Below w.heap.size w w2 → Calls Tryd.prog 11 #[.slice aT nT cT] w2 fun e w' => e = .returned (.int .i64 (c : Int)) ∧ w' = w2)
    (hF : Bytes w (.slice aF nF cF) dr) (hv : Bytes w (.slice ao 128 cap) s) (hs : s.length = 128) (hao : ao = some ⟨g, off, none⟩) (hcell : ∀ (i : Nat) b, s[i]? = some b → w.cell? ⟨g, off + i, none⟩ = some (.int .u8 (b : Int)))
    (g0 : s[0]? = some k0) (g1 : s[1]? = some n1)
    (hr : r = if be 4 c ≠ dr then 12 else if k0 ≠ kind then 13 else if 122 < n1 ∨ ((s.take 124).drop (2 + n1)).all (· == 0) = false then 14 else 0)
    (hpay : pay = if r = 0 then (s.drop 2).take n1 else []) :
    Calls Tryd.prog 18 #[.int .u8 (kind : Int), .slice ao 128 cap] w fun e w' => ∃ u, e = .returned (.tuple #[u, .int .i64 r]) ∧ GotX w u pay w' := by
  have HR := hide hr
  have HP := hide hpay
  have HV := hide hv
  have HF := hide hF
  have HRS := hide (hrs w.drew (below_drew' w))
  have HNU := hide (number_any c 4 (by decide) (by omega) w.drew)
  have HCELL := hide hcell
  have HS := hide hs
  have hn1 : n1 < 256 := hv.lt n1 (List.mem_of_getElem? g1)
  have HAO := hide hao
  clear hr hpay hv hF hrs hcell hs hc32 hao
  go_enter Tryd.func18, Tryd.ntmps18
  go_wp2
  go_region_with (first
    | (go_at_call 11; refine HRS.out.mono ?_; rintro e w' ⟨rfl, rfl⟩)
    | (go_at_call 26; refine HNU.out.mono ?_; rintro e w2 ⟨u, rfl, hou, hb2⟩; obtain ⟨ao3, n3, cap3, rfl⟩ := hou.form')
    | (go_at_call 15; refine (same_any (be 4 c) dr _ _ _ hou.bytes ((HF.out.below (below_drew' w)).below hb2)).mono ?_; rintro e w3 ⟨rfl, rfl⟩))
  have HB2 : Hid (Below w.heap.size w w3) := (below_drew' w).trans hb2
  clear hb2 hou cutT cutF HRS HNU HF
  obtain rfl := HAO.out
  have c0 : w3.cell? ⟨g, off, none⟩ = some (.int .u8 (k0 : Int)) := by
    have : w.cell? ⟨g, off, none⟩ = some (.int .u8 (k0 : Int)) := HCELL.out 0 k0 g0
    rw [HB2.out.cell (cell_lt this)]; exact this
  have c1 : w3.cell? ⟨g, off + 1, none⟩ = some (.int .u8 (n1 : Int)) := by
    have := HCELL.out 1 n1 g1
    rw [HB2.out.cell (cell_lt this)]; exact this
  by_cases hd : be 4 c = dr
  · have hdt : decide (be 4 c = dr) = true := by simpa using hd
    rw [hdt]
    clear hdt
    by_cases hk : k0 = kind
    · subst hk
      by_cases hn : 122 < n1
      · have hn' : (122 : Int) < (n1 : Int) := by omega
        have HR2 : Hid (r = 14) := by show _ = _; rw [HR.out]; simp [hd, hn]
        have HP2 : Hid (pay = []) := by show _ = _; rw [HP.out, HR2.out]; rfl
        clear hd
        go_wp2
        go_ret2
        exact ⟨_, by rw [HR2.out]; rfl, by rw [HP2.out]; exact ⟨Own.nil _ _, HB2.out⟩⟩
      · have hn' : ¬ (122 : Int) < (n1 : Int) := by omega
        have H14 : Hid (((s.take 124).drop (2 + n1)).all (· == 0) = false → r = 14 ∧ pay = []) := fun h => by
          have hr : r = 14 := by rw [HR.out]; simp only [h, or_true, if_true]; simp [hd]
          exact ⟨hr, by rw [HP.out, hr]; rfl⟩
        have H0 : Hid (((s.take 124).drop (2 + n1)).all (· == 0) = true → r = 0 ∧ pay = (s.drop 2).take n1) := fun h => by
          have hr : r = 0 := by rw [HR.out, h]; simp [hn, hd]
          exact ⟨hr, by rw [HP.out, hr]; rfl⟩
        obtain ⟨aE, nE, cE, cutE, HE⟩ := cut_both w3 _ s 2 (2 + n1) (HV.out.below HB2.out) (by omega) (by have := HS.out; omega)
        have e2 : ((2 + n1 : Nat) : Int) = 2 + (n1 : Int) := by omega
        rw [e2] at cutE
        have cutE' : ∀ w2, (Instr.slice 23 (.slice (some ⟨g, off, none⟩) 128 cap) (some (.int .i64 2)) (some (.int .i64 (2 + (n1 : Int)))) none).run Tryd.prog w2 = .ok (.slice aE nE cE) w2 := by rw [← HS.out]; exact cutE
        have hsub : 2 + n1 - 2 = n1 := by omega
        rw [hsub] at HE
        have HCP := hide (copy_any _ _ w3 HE.out)
        clear cutE e2 hsub hd
        go_wp2
        go_loopg [7] (122 - n1) (fun k i wr => wr = w3 ∧ ∃ j, j + k = 124 ∧ i = .int .i64 (j : Int) ∧ 2 + n1 ≤ j ∧ ((s.take j).drop (2 + n1)).all (· == 0) = true)
        case atStart => exact ⟨rfl, 2 + n1, by omega, by go_num, Nat.le_refl _, by rw [List.drop_of_length_le (by simp; omega)]; rfl⟩
        case round =>
          obtain ⟨rfl, j, hj, rfl, hj2, hall⟩ := hrel
          have HA := hide hall
          clear hall
          cases gk with
          | zero =>
            obtain rfl : j = 124 := by omega
            obtain ⟨hr, hp⟩ := H0.out HA.out
            have HR2 := hide hr
            have HP2 := hide hp
            clear hr hp H0 H14 HR HP
            go_wp2_with fail
            refine HCP.out.mono ?_
            rintro e w4 ⟨u4, rfl, ho4, hb4⟩
            have HO4 := hide (ho4.base (base' := w.heap.size) HB2.out.size)
            have HB4 := hide (HB2.out.trans (hb4.mono HB2.out.size))
            obtain ⟨a4, n4, c4, rfl⟩ := ho4.form'
            clear ho4 hb4
            go_wp2
            go_ret2
            exact ⟨_, by rw [HR2.out]; rfl, by rw [HP2.out]; exact ⟨HO4.out, HB4.out⟩⟩
          | succ m =>
            have hjl : j < 124 := by omega
            have hlt : (j : Int) < 124 := by omega
            have hlt2 : (j : Int) < 128 := by omega
            have hb0 : (0 : Int) ≤ (j : Int) := by omega
            obtain ⟨b, hb⟩ : ∃ b, s[j]? = some b := ⟨s[j]'(by have := HS.out; omega), by simp⟩
            have k1 : wr.cell? ⟨g, off + j, none⟩ = some (.int .u8 (b : Int)) := by
              have := HCELL.out j b hb
              rw [HB2.out.cell (cell_lt this)]; exact this
            have HTS := hide (take_snoc hb)
            have HBJ := hide hb
            have HSL : Hid ((s.take j).length = j) := by show _ = _; have := HS.out; simp; omega
            clear hb
            by_cases hz : b = 0
            · subst hz
              go_wp2
              go_roundg m
              case measure => omega
              case rel =>
                refine ⟨rfl, j + 1, by omega, by go_num, by omega, ?_⟩
                rw [HTS.out, List.drop_append_of_le_length (by rw [HSL.out]; exact hj2), List.all_append, HA.out]; rfl
            · have hz1 : ((b : Int) != 0) = true := by simp; omega
              have HF2 : Hid (((s.take 124).drop (2 + n1)).all (· == 0) = false) := by
                show _ = _
                rw [List.all_eq_false]
                refine ⟨b, ?_, by simpa using hz⟩
                refine List.mem_of_getElem? (i := j - (2 + n1)) ?_
                rw [List.getElem?_drop, show 2 + n1 + (j - (2 + n1)) = j by omega, List.getElem?_take_of_lt hjl]
                exact HBJ.out
              obtain ⟨hr, hp⟩ := H14.out HF2.out
              have HR2 := hide hr
              have HP2 := hide hp
              clear hr hp H0 H14 HR HP hz
              go_wp2
              go_ret2
              exact ⟨_, by rw [HR2.out]; rfl, by rw [HP2.out]; exact ⟨Own.nil _ _, HB2.out⟩⟩
    · have hk1 : ((k0 : Int) != (kind : Int)) = true := by simp; omega
      have HR2 : Hid (r = 13) := by show _ = _; rw [HR.out]; simp [hd, hk]
      have HP2 : Hid (pay = []) := by show _ = _; rw [HP.out, HR2.out]; rfl
      clear hd hk
      go_wp2
      go_ret2
      exact ⟨_, by rw [HR2.out]; rfl, by rw [HP2.out]; exact ⟨Own.nil _ _, HB2.out⟩⟩
  · have hdt : decide (be 4 c = dr) = false := by simpa using hd
    rw [hdt]
    clear hdt
    have HR2 : Hid (r = 12) := by show _ = _; rw [HR.out]; simp [hd]
    have HP2 : Hid (pay = []) := by show _ = _; rw [HP.out, HR2.out]; rfl
    clear hd
    go_wp2
    go_ret2
    exact ⟨_, by rw [HR2.out]; rfl, by rw [HP2.out]; exact ⟨Own.nil _ _, HB2.out⟩⟩

theorem rget_any (kind : Nat) (s : List Nat) (v : Value) (w : World) (hv : Bytes w v s) :
    Calls Tryd.prog 18 #[.int .u8 (kind : Int), v] w fun e w' => ∃ u, e = .returned (.tuple #[u, .int .i64 (gErr kind s)]) ∧ GotX w u (gPay kind s) w' := by
  by_cases hl : s.length = 128
  · obtain ⟨aT, nT, cT, cutT, HT⟩ := cut_to w v s 124 hv (by omega)
    obtain ⟨aF, nF, cF, cutF, HF⟩ := cut_from w v s 124 hv (by omega)
    have g0 : s[0]? = some (s.getD 0 0) := by
      rw [List.getD_eq_getElem?_getD, List.getElem?_eq_getElem (by omega)]; rfl
    have g1 : s[1]? = some (s.getD 1 0) := by
      rw [List.getD_eq_getElem?_getD, List.getElem?_eq_getElem (by omega)]; rfl
    have hiff := val_iff (s.drop 124) HF.out.lt (crc (s.take 124)) (by rw [show (s.drop 124).length = 4 by simp; omega]; exact crc_lt _)
    rw [show (s.drop 124).length = 4 by simp; omega] at hiff
    have hr : gErr kind s = if be 4 (crc (s.take 124)) ≠ s.drop 124 then 12 else if s.getD 0 0 ≠ kind then 13 else if 122 < s.getD 1 0 ∨ ((s.take 124).drop (2 + s.getD 1 0)).all (· == 0) = false then 14 else 0 := by
      unfold gErr
      rw [if_neg (by omega)]
      by_cases h1 : val (s.drop 124) = crc (s.take 124)
      · have h2 := hiff.1 h1
        simp only [h1, h2, ne_eq, not_true_eq_false, if_false]
      · have h2 : ¬ be 4 (crc (s.take 124)) = s.drop 124 := fun h => h1 (hiff.2 h)
        simp only [h1, h2, ne_eq, not_false_eq_true, if_true]
    have hv' := hv
    obtain ⟨g, off, cap, rfl, hcell, -, -⟩ := hv.at0 (by omega)
    rw [hl] at cutT cutF hv' ⊢
    exact rget_core kind _ _ (crc (s.take 124)) s (s.drop 124) (gPay kind s) (gErr kind s) _ aT aF cap nT cT nF cF g off w cutT cutF (crc_lt _) (fun w2 hb => rsum_any _ _ w2 (HT.out.below hb)) HF.out hv' hl rfl hcell g0 g1 hr rfl
  · refine (rget_size kind s v w hv hl).mono ?_
    rintro e w' ⟨rfl, rfl⟩
    have h1 : gErr kind s = 11 := by unfold gErr; rw [if_pos hl]
    have h2 : gPay kind s = [] := by unfold gPay; rw [h1]; rfl
    exact ⟨_, by rw [h1], by rw [h2]; exact ⟨Own.nil _ _, Below.refl _ _⟩⟩
end Go.Proofs.YtlgmfiboekmhkaaDoor
