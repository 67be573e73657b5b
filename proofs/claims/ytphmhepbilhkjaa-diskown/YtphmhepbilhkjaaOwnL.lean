/- DiskOwn walked. -/
import Derived.Test.YtphmhepbilhkjaaOver
namespace Go.Proofs.Ytphmhepbilhkjaa
open Go.RowKit Go.Extern

set_option maxRecDepth 100000 in
set_option maxHeartbeats 4000000 in
theorem ownL_any (w : World) (i : Int) (dv : Value) (d : List Nat) (hi : I64 i) (hd : Bytes w dv d) : Calls Try.prog 8 #[.int .i64 i, dv] w fun e w' => e = .returned (.bool true) ∧ Below w.heap.size w w' := by
  have HD := hide hd
  have HI := hide hi
  obtain ⟨ao, cap, g0, off0, rfl, -⟩ := hd
  clear hi
  have HN := hide (new_any w 4)
  go_enter Try.func8, Try.ntmps8
  go_wp2_with fail
  refine HN.out.mono ?_
  rintro e w1 ⟨hb1, hif⟩
  rw [if_pos (by rfl)] at hif
  obtain ⟨b, F, rfl, hdk, hF⟩ := hif
  rw [errV_zero]
  rw [show fresh (Int.toNat 4) = fresh 4 from rfl] at hdk
  have HB1 := hide hb1
  have HF := hide hF
  have HDK := hide hdk
  clear hb1 hdk hF HN
  by_cases hl : d.length = 128
  · have HLN := hide hl
    have hne : ((128 : Int) != 128) = false := by simp
    rw [show d.length = 128 from hl]
    have HD2 : Hid (Bytes w (.slice ao 128 cap) d) := by rw [← hl]; exact HD.out
    have HCP := hide (copy_any d (.slice ao 128 cap) w1 (HD2.out.below HB1.out))
    clear hl HD
    go_wp2_with fail
    refine HCP.out.mono ?_
    rintro e w2 ⟨u, rfl, hu, hb2⟩
    have HU := hide hu
    have HB2 := hide hb2
    have HWR := hide (write_any (HDK.out.below hb2) i u d hu.bytes (fun s hs => by rw [fresh_wait s hs]; decide))
    obtain ⟨aou, capu, rfl⟩ := hu.form
    rw [show d.length = 128 from HLN.out] at HU HWR ⊢
    clear hu hb2 HCP
    go_wp2_with fail
    refine HWR.out.mono ?_
    rintro e w3 ⟨rfl, hdk3, htn3⟩
    have HDK3 := hide hdk3
    have HT3 := hide htn3
    have HUG : Hid (∀ k, (Value.slice aou 128 capu).ownBlock = some k → w1.heap.size ≤ k ∧ k < w2.heap.size) := fun k hk => HU.out.lt k hk
    have HU3 : Hid (Over w3 w3 (.slice aou 128 capu) 128) := by
      have hu3 : Own w3 w1.heap.size (.slice aou 128 capu) d := by
        obtain ⟨h1, h2⟩ := HU.out
        refine ⟨ownsRow_of_block h1 (fun k o hk ho => ?_), h2⟩
        rw [htn3.block k (heap_lt ho) (fun hx => by have := (HF.out k hx).2; have := (HUG.out k hk).1; omega)]; exact ho
      have := Over.start hu3
      rw [HLN.out] at this
      exact this
    have HB3 : Hid (Below w.heap.size w w3) := by
      have h2 := HB2.out.size
      have h1 := HB1.out.size
      exact HB1.out.trans ((HB2.out.mono h1).trans (htn3.below (by omega) (fun k hk => (HF.out k hk).1)))
    generalize hev : errV (wErr (fresh 4) i d) = ev
    have HEV := hide hev
    clear hdk3 htn3 HWR hev
    go_wp2_with fail
    go_loopg [43] 128 (fun gk q wr => ∃ j, j + gk = 128 ∧ q = .int .i64 (j : Int) ∧ Over w3 wr (.slice aou 128 capu) 128)
    case atStart => exact ⟨0, by omega, rfl, HU3.out⟩
    case round =>
      obtain ⟨j, hj, rfl, hov⟩ := hrel
      cases gk with
      | succ m =>
        have hlt : (j : Int) < 128 := by omega
        have hb0 : (0 : Int) ≤ (j : Int) := by omega
        obtain ⟨g, rfl⟩ := hov.form (by decide)
        obtain ⟨x, hx, k1, f1, hset⟩ := hov.at_ (show j < 128 by omega)
        obtain ⟨y, hy, hxy⟩ := u8_not x hx
        have HSET := hide (hset y hy)
        clear hset hov hx hy
        go_wp2
        go_roundg m
        case measure => omega
        case rel => exact ⟨j + 1, by omega, by go_num, HSET.out⟩
      | zero =>
        have hend : ¬ (j : Int) < 128 := by omega
        have HOV := hide hov
        clear hov hj HU3
        have HDK4 : Hid (Dk wr (ext F w2 w3) b (wSet (fresh 4) i d)) := HDK3.out.over HOV.out (fun k hk hx => by
          have h1 := HUG.out k hk
          rcases hx with hx | hx
          · have := (HF.out k hx).2; omega
          · omega)
        have HB4 : Hid (Below w.heap.size w wr) := by
          refine HB3.out.trans (HOV.out.below HB3.out.size (fun k hk => ?_))
          have h1 := HUG.out k hk
          have h2 := HB1.out.size
          omega
        have HSZ4 : Hid (w3.heap.size ≤ wr.heap.size) := HOV.out.2.size
        clear HOV
        have hww4 : ∀ s ∈ wSet (fresh 4) i d, s.wait.length ≤ 1000000 := fun s hs => by
          obtain ⟨q, hq⟩ := List.getElem?_of_mem hs
          obtain ⟨s1, h1, rfl⟩ := wSet_at HLN.out hq
          have := fresh_wait s1 (List.mem_of_getElem? h1)
          split
          · simp [this]
          · simp [this]
        cases hh : hasB (fresh 4) i with
        | false =>
          have hlo : ¬ (0 ≤ i ∧ i < 4) := by
            intro hx
            have : hasB (fresh 4) i = true := by simp [hasB, fresh]; exact hx
            rw [hh] at this; cases this
          have hev20 : ev = .iface 72 (.int .i64 20) := by rw [← HEV.out, show wErr (fresh 4) i d = 20 by simp [wErr, hh]]; rfl
          subst hev20
          have HIS := hide (is_any 20 20 wr)
          rw [errV_20] at HIS
          have HPD := hide (pending_any HDK4.out)
          rw [wSet_no (by simp [hh])] at HPD
          have HA : Hid (∀ w', Below wr.heap.size wr w' → Calls Try.prog 12 #[] w' fun e w'' => e = .returned (.bool true) ∧ Below w.heap.size w w'') := fun w' hb => (awake_any w').mono fun e w'' h => ⟨h.1, HB4.out.trans ((hb.mono HB4.out.size).trans (h.2.mono (Nat.le_trans HB4.out.size hb.size)))⟩
          have hdd : decide (i < 0) = true ∨ (decide (i < 0) = false ∧ decide (3 < i) = true) := by
            by_cases h0 : i < 0
            · exact .inl (by simpa using h0)
            · exact .inr ⟨by simpa using h0, by simp; omega⟩
          clear hlo hh hww4 HDK4
          rcases hdd with hd1 | ⟨hd1, hd2⟩
          · go_wp2_with (first | (go_at_call 11; refine HIS.out.mono ?_; rintro e w' ⟨rfl, hww⟩; obtain rfl : wr = w' := hww.symm) | (go_at_call 19; refine HPD.out.mono ?_; rintro e w5 ⟨lv, rfl, hrow, hb5⟩; have HA5 := hide (HA.out w5 hb5); obtain ⟨aol, capl, rfl⟩ := ownsRow_form hrow; rw [show (pendI (fresh 4)).length = 0 from rfl]; clear hrow hb5 HA) | (go_at_call 12; refine HA5.out.mono ?_; rintro e w' ⟨rfl, hb⟩; have HBB := hide hb; clear hb))
            go_ret
            exact ⟨rfl, HBB.out⟩
          · go_wp2_with (first | (go_at_call 11; refine HIS.out.mono ?_; rintro e w' ⟨rfl, hww⟩; obtain rfl : wr = w' := hww.symm) | (go_at_call 19; refine HPD.out.mono ?_; rintro e w5 ⟨lv, rfl, hrow, hb5⟩; have HA5 := hide (HA.out w5 hb5); obtain ⟨aol, capl, rfl⟩ := ownsRow_form hrow; rw [show (pendI (fresh 4)).length = 0 from rfl]; clear hrow hb5 HA) | (go_at_call 12; refine HA5.out.mono ?_; rintro e w' ⟨rfl, hb⟩; have HBB := hide hb; clear hb))
            go_ret
            exact ⟨rfl, HBB.out⟩
        | true =>
          obtain ⟨k, s0, rfl, hs0⟩ := hasB_at hh
          have hk4 : k < 4 := by have := (List.getElem?_eq_some_iff.1 hs0).1; simpa [fresh] using this
          have hev0 : ev = .nilIface := by rw [← HEV.out, show wErr (fresh 4) (k : Int) d = 0 by simp [wErr, hh, HLN.out]]; rfl
          subst hev0
          rw [fresh_get hk4] at hs0
          cases hs0
          have hsk := wSet_eq (fresh_get hk4) HLN.out
          have HRD := hide (read_any HDK4.out (k : Int) HI.out hww4)
          have hkl : k < (wSet (fresh 4) (k : Int) d).length := (List.getElem?_eq_some_iff.1 hsk).1
          rw [show Readed (wSet (fresh 4) (k : Int) d) (k : Int) wr = fun e w' => ∃ u, e = .returned (.tuple #[u, errV 0]) ∧ Own w' wr.heap.size u d ∧ Below wr.heap.size wr w' by
            unfold Readed
            rw [show rErr (wSet (fresh 4) (k : Int) d) (k : Int) = 0 by simp [rErr, hasB_nat hkl, hsk, zeroSec], show rDat (wSet (fresh 4) (k : Int) d) (k : Int) = d by unfold rDat; rw [hasB_nat hkl, Int.toNat_natCast, hsk]; exact Sec.top_snoc zeroSec d]] at HRD
          have HWW4 := hide hww4
          have HSK := hide hsk
          have hd1 : decide ((k : Int) < 0) = false := by simp
          have hd2 : decide (3 < k) = false := by simp; omega
          have hd3 : decide ((3 : Int) < (k : Int)) = false := by simp; omega
          clear hh hww4 hsk hkl hk4
          go_wp2_with fail
          refine HRD.out.mono ?_
          rintro e w5 ⟨c, rfl, ho, hb5⟩
          rw [errV_zero]
          have HSM := hide (same_any d d c (.slice ao 128 cap) w5 ho.bytes ((HD2.out.below HB4.out).below hb5))
          rw [show decide (d = d) = true by simp] at HSM
          have HB5 : Hid (Below w.heap.size w w5) := HB4.out.trans (hb5.mono HB4.out.size)
          have HDK5 := hide (HDK4.out.below hb5)
          have HCG : Hid (∀ q, c.ownBlock = some q → wr.heap.size ≤ q) := fun q hq => (ho.lt q hq).1
          have HOV : Hid (Over w5 w5 c 128) := by have := Over.start ho; rw [HLN.out] at this; exact this
          have HSZ5 := hide hb5.size
          obtain ⟨aoc, capc, rfl⟩ := ho.form
          rw [show d.length = 128 from HLN.out] at *
          clear ho hb5 HRD HDK4
          go_wp2_with (go_at_call 16; refine HSM.out.mono ?_; rintro e w' ⟨rfl, hww⟩; obtain rfl : w5 = w' := hww.symm)
          go_loopg [92] 128 (fun gk q wz => ∃ j, j + gk = 128 ∧ q = .int .i64 (j : Int) ∧ Over w5 wz (.slice aoc 128 capc) 128)
          case atStart => exact ⟨0, by omega, rfl, HOV.out⟩
          case round =>
            clear HOV HSM
            obtain ⟨j2, hj2, rfl, hov⟩ := hrel
            cases gk with
            | succ m =>
              have hlt : (j2 : Int) < 128 := by omega
              have hb0 : (0 : Int) ≤ (j2 : Int) := by omega
              obtain ⟨g, rfl⟩ := hov.form (by decide)
              obtain ⟨x, hx, k1, f1, hset⟩ := hov.at_ (show j2 < 128 by omega)
              obtain ⟨y, hy, hxy⟩ := u8_not x hx
              have HSET := hide (hset y hy)
              clear hset hov hx hy
              go_wp2
              go_roundg m
              case measure => omega
              case rel => exact ⟨j2 + 1, by omega, by go_num, HSET.out⟩
            | zero =>
              have hend2 : ¬ (j2 : Int) < 128 := by omega
              have hFc : ∀ q, ext F w2 w3 q → q < w3.heap.size := fun q hq => by
                rcases hq with hq | hq
                · have h1 := (HF.out q hq).2
                  have h2 := HB2.out.size
                  have h3 := HT3.out.size
                  omega
                · exact hq.2
              have hFg : ∀ q, ext F w2 w3 q → w.heap.size ≤ q := fun q hq => by
                rcases hq with hq | hq
                · exact (HF.out q hq).1
                · have h1 := HB1.out.size
                  have h2 := HB2.out.size
                  omega
              have HDK6 : Hid (Dk wr (ext F w2 w3) b (wSet (fresh 4) (k : Int) d)) := HDK5.out.over hov (fun q hq hx => by
                have h1 := HCG.out q hq
                have h2 := hFc q hx
                have h3 := HSZ4.out
                omega)
              have HFG := hide hFg
              have HB6 : Hid (Below w.heap.size w wr) := HB5.out.trans (hov.below HB5.out.size (fun q hq => Nat.le_trans HB4.out.size (HCG.out q hq)))
              have HFL := hide (flush_any HDK6.out HWW4.out)
              clear hov hj2 HDK5 HB5 hFc hFg
              go_wp2_with fail
              refine HFL.out.mono ?_
              rintro e w7 ⟨rfl, hdk7, htn7⟩
              have hsk7 : ((wSet (fresh 4) (k : Int) d).map Sec.flushed)[k]? = some ⟨d, false, []⟩ := by rw [List.getElem?_map, HSK.out]; simp [Sec.flushed, zeroSec]; exact Sec.top_snoc zeroSec d
              have HRD := hide (read_any hdk7 (k : Int) HI.out (fun s hs => by obtain ⟨s0, -, rfl⟩ := List.mem_map.1 hs; simp [Sec.flushed]))
              have hkl : k < ((wSet (fresh 4) (k : Int) d).map Sec.flushed).length := (List.getElem?_eq_some_iff.1 hsk7).1
              rw [show Readed ((wSet (fresh 4) (k : Int) d).map Sec.flushed) (k : Int) w7 = fun e w' => ∃ u, e = .returned (.tuple #[u, errV 0]) ∧ Own w' w7.heap.size u d ∧ Below w7.heap.size w7 w' by
                unfold Readed
                rw [show rErr ((wSet (fresh 4) (k : Int) d).map Sec.flushed) (k : Int) = 0 by unfold rErr; rw [hasB_nat hkl, Int.toNat_natCast, hsk7]; rfl, show rDat ((wSet (fresh 4) (k : Int) d).map Sec.flushed) (k : Int) = d by unfold rDat; rw [hasB_nat hkl, Int.toNat_natCast, hsk7]; rfl]] at HRD
              have HB7 : Hid (Below w.heap.size w w7) := HB6.out.trans (htn7.below HB6.out.size HFG.out)
              clear hdk7 htn7 hsk7 hkl HFL HDK6
              go_wp2_with fail
              refine HRD.out.mono ?_
              rintro e w8 ⟨c8, rfl, ho8, hb8⟩
              rw [errV_zero]
              have HSM := hide (same_any d d c8 (.slice ao 128 cap) w8 ho8.bytes ((HD2.out.below HB7.out).below hb8))
              rw [show decide (d = d) = true by simp] at HSM
              have HA := hide (awake_any w8)
              have HB8 : Hid (Below w.heap.size w w8) := HB7.out.trans (hb8.mono HB7.out.size)
              obtain ⟨aoc8, capc8, rfl⟩ := ho8.form
              clear ho8 hb8 HRD
              go_wp2_with (first | (go_at_call 16; refine HSM.out.mono ?_; rintro e w' ⟨rfl, hww⟩; obtain rfl : w8 = w' := hww.symm) | (go_at_call 12; refine HA.out.mono ?_; rintro e w' ⟨rfl, hb⟩; have HBB := hide (HB8.out.trans (hb.mono HB8.out.size)); clear hb))
              go_ret
              exact ⟨rfl, HBB.out⟩
  · have hne : ((d.length : Int) != 128) = true := by simp; omega
    have HA := hide (awake_any w1)
    clear hl
    go_wp2_with (go_at_call 12; refine HA.out.mono ?_; rintro e w' ⟨rfl, hb⟩; have HBB := hide (HB1.out.trans (hb.mono HB1.out.size)); clear hb)
    go_ret
    exact ⟨rfl, HBB.out⟩
end Go.Proofs.Ytphmhepbilhkjaa
