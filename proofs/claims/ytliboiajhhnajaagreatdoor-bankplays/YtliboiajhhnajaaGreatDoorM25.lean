import Derived.Test.YtliboiajhhnajaaGreatDoorM24
import Derived.Test.YtliboiajhhnajaaGreatDoorM14
import Derived.Test.YtliboiajhhnajaaGreatDoorM06
import Derived.Test.YtliboiajhhnajaaGreatDoorM13
import Derived.Test.YtliboiajhhnajaaGreatDoorM22
/- BFill by its contract. -/
namespace Go.Proofs.YtliboiajhhnajaaGreatDoor
open Go.RowKit Go.Extern

def bfC (D : List Dev) (_q : Pw) (i : Int) (_d : List Nat) : Int := if lookC D i = 0 then 0 else lookC D i
def bfD (D : List Dev) (_q : Pw) (i : Int) (d : List Nat) : List Dev := if lookC D i = 0 then putDev D i (fillS (secsOf D i) d) else D
set_option maxRecDepth 100000 in
set_option maxHeartbeats 1000000 in
theorem bfill_any {w : World} {F : Nat → Prop} {b : Nat} {D : List Dev} {q : Pw} (h : Bk w F b D q) (i : Int) (dv : Value) (d : List Nat) (hd : Bytes w dv d) (hdl : d.length ≤ 1000) (hout : ∀ k, dv.ownBlock = some k → ¬ F k) :
    Calls Tryz.prog 31 #[.pointer (some ⟨b, 0, none⟩), .int .i64 i, dv] w (BTurned F b (bfD D q i d) q (bfC D q i d) "fill".toUTF8 i 0 w) := by
  have HP := hide (find_any h i)
  have HBK := hide h
  have HD := hide hd
  obtain ⟨aod, capd, gd, offd, rfl, -⟩ := hd
  by_cases hc : lookC D i = 0
  · obtain ⟨k, p, S, rfl, hk⟩ := lookC_zero hc
    have hpv := (lookC_at hk).2
    obtain ⟨v, G, hat⟩ := h
    rw [hpv, hc, errV_zero] at HP
    have HE : Hid (bfC D q (k : Int) d = 0 ∧ bfD D q (k : Int) d = D.set k (some (p, fillS S d))) := ⟨by unfold bfC; rw [if_pos hc], by unfold bfD; rw [if_pos hc, secsOf_at hk, putDev_at hk]⟩
    have HCALL := hide (fill_any (hat.dev k p S hk) (.slice aod d.length capd) d HD.out hdl (fun j hj hg => hout j hj (hat.inG k j hg)))
    have HK := hide hk
    have HAT := hide hat
    clear hc hpv hat hk HBK hout hdl
    go_enter Tryz.func31, Tryz.ntmps31
    go_wp2_with fail
    refine HP.out.mono ?_
    rintro e w' ⟨rfl, hw'⟩
    obtain rfl : w = w' := hw'.symm
    go_wp2_with fail
    refine HCALL.out.mono ?_
    rintro e w2 ⟨rfl, hdk2, ht2⟩
    have hset := HAT.out.set HK.out hdk2 ht2
    have HB2 : Hid (Bk w2 (ext F w w2) b (D.set k (some (p, fillS S d))) q) := ⟨_, _, hset.1⟩
    have HT2 : Hid (Turn F w w2) := hset.2
    have HWR := hide (wrap_any "fill".toUTF8 (k : Int) 0 (0) w2)
    rw [errV_zero] at HWR
    clear hset hdk2 ht2 HCALL
    go_wp2_with fail
    refine HWR.out.mono ?_
    rintro e w3 ⟨u, rfl, hu, hb3, hform⟩
    have HEND := hide (BTurned.wrapped HB2.out HT2.out hu hb3 hform)
    clear hu hb3
    rcases hform with rfl | rfl
    · go_wp2
      go_ret
      rw [HE.out.1, HE.out.2]; exact HEND.out
    · go_wp2
      go_ret
      rw [HE.out.1, HE.out.2]; exact HEND.out
  · have HE : Hid (bfC D q i d = lookC D i ∧ bfD D q i d = D) := ⟨by unfold bfC; rw [if_neg hc], by unfold bfD; rw [if_neg hc]⟩
    have hev := errV_code hc
    obtain ⟨a, ha⟩ := findV_form D i
    have HWR := hide (wrap_any "fill".toUTF8 i 0 (lookC D i) w)
    rw [hev] at HP HWR
    rw [ha] at HP
    clear hev ha hc h
    go_enter Tryz.func31, Tryz.ntmps31
    go_wp2_with fail
    refine HP.out.mono ?_
    rintro e w' ⟨rfl, hw'⟩
    obtain rfl : w = w' := hw'.symm
    go_wp2_with fail
    refine HWR.out.mono ?_
    rintro e w3 ⟨u, rfl, hu, hb3, hform⟩
    have HEND := hide (BTurned.wrapped HBK.out.ext_self (Turn.refl _ _) hu hb3 hform)
    clear hu hb3
    rcases hform with rfl | rfl
    · go_wp2
      go_ret
      rw [HE.out.1, HE.out.2]; exact HEND.out
    · go_wp2
      go_ret
      rw [HE.out.1, HE.out.2]; exact HEND.out
end Go.Proofs.YtliboiajhhnajaaGreatDoor

/- BGrow by its contract. -/
namespace Go.Proofs.YtliboiajhhnajaaGreatDoor
open Go.RowKit Go.Extern

def bgC (D : List Dev) (q : Pw) (i : Int) (n : Int) : Int := if lookP D q i = 0 then gErr (secsOf D i) n else lookP D q i
def bgD (D : List Dev) (q : Pw) (i : Int) (n : Int) : List Dev := if lookP D q i = 0 then putDev D i (gSet (secsOf D i) n) else D
set_option maxRecDepth 100000 in
set_option maxHeartbeats 1000000 in
theorem bgrow_any {w : World} {F : Nat → Prop} {b : Nat} {D : List Dev} {q : Pw} (h : Bk w F b D q) (i : Int) (n : Int) :
    Calls Tryz.prog 15 #[.pointer (some ⟨b, 0, none⟩), .int .i64 i, .int .i64 n] w (BTurned F b (bgD D q i n) q (bgC D q i n) "grow".toUTF8 i 0 w) := by
  have HP := hide (powered_any h i)
  have HBK := hide h
  by_cases hc : lookP D q i = 0
  · obtain ⟨hdn, k, p, S, rfl, hk, hpv⟩ := lookP_zero hc
    obtain ⟨v, G, hat⟩ := h
    rw [hpv, hc, errV_zero] at HP
    have HE : Hid (bgC D q (k : Int) n = gErr S n ∧ bgD D q (k : Int) n = D.set k (some (p, gSet S n))) := ⟨by unfold bgC; rw [if_pos hc, secsOf_at hk], by unfold bgD; rw [if_pos hc, secsOf_at hk, putDev_at hk]⟩
    have HCALL := hide (grow_any (hat.dev k p S hk) n)
    have HK := hide hk
    have HAT := hide hat
    clear hc hpv hat hk HBK hdn
    go_enter Tryz.func15, Tryz.ntmps15
    go_wp2_with fail
    refine HP.out.mono ?_
    rintro e w' ⟨rfl, hw'⟩
    obtain rfl : w = w' := hw'.symm
    go_wp2_with fail
    refine HCALL.out.mono ?_
    rintro e w2 ⟨rfl, hdk2, ht2⟩
    have hset := HAT.out.set HK.out hdk2 ht2
    have HB2 : Hid (Bk w2 (ext F w w2) b (D.set k (some (p, gSet S n))) q) := ⟨_, _, hset.1⟩
    have HT2 : Hid (Turn F w w2) := hset.2
    have HWR := hide (wrap_any "grow".toUTF8 (k : Int) 0 (gErr S n) w2)
    obtain ⟨ev, hev⟩ : ∃ ev, ev = errV (gErr S n) := ⟨_, rfl⟩
    rw [← hev] at HWR
    rw [← hev]
    have hevf : ev = .nilIface ∨ ∃ T x, ev = .iface T x := by rw [hev]; exact errV_form _
    clear hev
    clear hset hdk2 ht2 HCALL hevf
    go_wp2_with fail
    refine HWR.out.mono ?_
    rintro e w3 ⟨u, rfl, hu, hb3, hform⟩
    have HEND := hide (BTurned.wrapped HB2.out HT2.out hu hb3 hform)
    clear hu hb3
    rcases hform with rfl | rfl
    · go_wp2
      go_ret
      rw [HE.out.1, HE.out.2]; exact HEND.out
    · go_wp2
      go_ret
      rw [HE.out.1, HE.out.2]; exact HEND.out
  · have HE : Hid (bgC D q i n = lookP D q i ∧ bgD D q i n = D) := ⟨by unfold bgC; rw [if_neg hc], by unfold bgD; rw [if_neg hc]⟩
    have hev := errV_code hc
    obtain ⟨a, ha⟩ := poweredV_form D q i
    have HWR := hide (wrap_any "grow".toUTF8 i 0 (lookP D q i) w)
    rw [hev] at HP HWR
    rw [ha] at HP
    clear hev ha hc h
    go_enter Tryz.func15, Tryz.ntmps15
    go_wp2_with fail
    refine HP.out.mono ?_
    rintro e w' ⟨rfl, hw'⟩
    obtain rfl : w = w' := hw'.symm
    go_wp2_with fail
    refine HWR.out.mono ?_
    rintro e w3 ⟨u, rfl, hu, hb3, hform⟩
    have HEND := hide (BTurned.wrapped HBK.out.ext_self (Turn.refl _ _) hu hb3 hform)
    clear hu hb3
    rcases hform with rfl | rfl
    · go_wp2
      go_ret
      rw [HE.out.1, HE.out.2]; exact HEND.out
    · go_wp2
      go_ret
      rw [HE.out.1, HE.out.2]; exact HEND.out
end Go.Proofs.YtliboiajhhnajaaGreatDoor

/- Flush by its contract. -/
namespace Go.Proofs.YtliboiajhhnajaaGreatDoor
open Go.RowKit Go.Extern

theorem Ints.turnB {w w' : World} {F : Nat → Prop} {v : Value} {ns : List Int} (h : Ints w v ns) (ht : Turn F w w') (hv : 0 < ns.length → ∀ k, v.ownBlock = some k → ¬ F k) : Ints w' v ns := by
  obtain ⟨ao, cap, g, off, rfl, h2, h3, h4⟩ := h
  refine ⟨ao, cap, g, off, rfl, h2, fun i q hq => ?_, h4⟩
  have hp : 0 < ns.length := by
    rcases Nat.eq_zero_or_pos ns.length with e | e
    · rw [List.length_eq_zero_iff.1 e] at hq; cases hq
    · exact e
  obtain rfl := h2 hp
  have hc := h3 i q hq
  rw [World.cell?_of_block (w := w) (ht.block g (cell_lt hc) (hv hp g rfl))]; exact hc

/-- One device is flushed. -/
def fl1C (D : List Dev) (q : Pw) (i : Int) : Int := if lookP D q i = 0 then spendC q else lookP D q i
def fl1D (D : List Dev) (q : Pw) (i : Int) : List Dev := if fl1C D q i = 0 then putDev D i ((secsOf D i).map Sec.flushed) else D
def fl1Q (D : List Dev) (q : Pw) (i : Int) : Pw := if lookP D q i = 0 then spent q else q
def BFlushed1 (F : Nat → Prop) (b : Nat) (D' : List Dev) (q' : Pw) (c : Int) (w : World) (e : Ending) (w' : World) : Prop := e = .returned (errV c) ∧ Bk w' (ext F w w') b D' q' ∧ Turn F w w'
set_option maxRecDepth 100000 in
set_option maxHeartbeats 1000000 in
theorem bflush1_any {w : World} {F : Nat → Prop} {b : Nat} {D : List Dev} {q : Pw} (h : Bk w F b D q) (hq : Small q) (hww : WlB D 1000000) (i : Int) :
    Calls Tryz.prog 57 #[.pointer (some ⟨b, 0, none⟩), .int .i64 i] w (BFlushed1 F b (fl1D D q i) (fl1Q D q i) (fl1C D q i) w) := by
  have HP := hide (powered_any h i)
  have HBK := hide h
  by_cases hc : lookP D q i = 0
  · obtain ⟨hdn, k, p, S, rfl, hk, hpv⟩ := lookP_zero hc
    obtain ⟨v, G, hat⟩ := h
    rw [hpv, hc, errV_zero] at HP
    have HSP := hide (spend_any hat hq)
    have HIB := hide hat.inB
    by_cases hl : q.left = 0
    · have HE : Hid (fl1C D q (k : Int) = 22 ∧ fl1D D q (k : Int) = D ∧ fl1Q D q (k : Int) = spent q) := by
        have e : fl1C D q (k : Int) = 22 := by unfold fl1C; rw [if_pos hc]; simp [spendC, hl]
        exact ⟨e, by unfold fl1D; rw [if_neg (by omega)], by unfold fl1Q; rw [if_pos hc]⟩
      have HSC : Hid (spendC q = 22) := by show _ = _; simp [spendC, hl]
      clear hl hc hpv hdn hww hat hk HBK
      go_enter Tryz.func57, Tryz.ntmps57
      go_wp2_with fail
      refine HP.out.mono ?_
      rintro e w' ⟨rfl, hw'⟩
      obtain rfl : w = w' := hw'.symm
      go_wp2_with fail
      refine HSP.out.mono ?_
      rintro e w1 ⟨rfl, hb1, ht1, hs1⟩
      rw [HSC.out, errV_22]
      have HB1 : Hid (Bk w1 (ext F w w1) b D (spent q)) := (show Bk w1 F b D (spent q) from ⟨_, _, hb1⟩).mono (fun _ hk => .inl hk)
      have HT1 : Hid (Turn F w w1) := ⟨ht1.os, ht1.tape, ht1.output, ht1.size, fun j hj hn => ht1.block j hj (fun e => hn (by rw [e]; exact HIB.out))⟩
      clear hb1 ht1 hs1 HP HSP
      go_wp2
      go_ret
      rw [HE.out.1, HE.out.2.1, HE.out.2.2]; exact ⟨rfl, HB1.out, HT1.out⟩
    · have HE : Hid (fl1C D q (k : Int) = 0 ∧ fl1D D q (k : Int) = D.set k (some (p, S.map Sec.flushed)) ∧ fl1Q D q (k : Int) = spent q) := by
        have e : fl1C D q (k : Int) = 0 := by unfold fl1C; rw [if_pos hc]; simp [spendC, hl]
        exact ⟨e, by unfold fl1D; rw [if_pos e, secsOf_at hk, putDev_at hk], by unfold fl1Q; rw [if_pos hc]⟩
      have HSC : Hid (spendC q = 0) := by show _ = _; simp [spendC, hl]
      have HWW := hide (hww k p S hk)
      have HK := hide hk
      clear hl hc hpv hdn hww hat hk HBK
      go_enter Tryz.func57, Tryz.ntmps57
      go_wp2_with fail
      refine HP.out.mono ?_
      rintro e w' ⟨rfl, hw'⟩
      obtain rfl : w = w' := hw'.symm
      go_wp2_with fail
      refine HSP.out.mono ?_
      rintro e w1 ⟨rfl, hb1, ht1, hs1⟩
      rw [HSC.out, errV_zero]
      have HFL := hide (flush_any (hb1.dev k p S HK.out) HWW.out)
      have HB1 := hide hb1
      have HS1 := hide hs1
      have HT1 : Hid (Turn F w w1) := ⟨ht1.os, ht1.tape, ht1.output, ht1.size, fun j hj hn => ht1.block j hj (fun e => hn (by rw [e]; exact HIB.out))⟩
      clear hb1 ht1 hs1 HP HSP
      go_wp2_with fail
      refine HFL.out.mono ?_
      rintro e w2 ⟨rfl, hdk2, ht2⟩
      have hset := HB1.out.set HK.out hdk2 ht2
      have HB2 : Hid (Bk w2 (ext F w w2) b (D.set k (some (p, S.map Sec.flushed))) (spent q)) := (show Bk w2 (ext F w1 w2) b _ (spent q) from ⟨_, _, hset.1⟩).mono (fun j hj => by rcases hj with hj | hj; exact .inl hj; exact .inr ⟨by have := HS1.out; omega, hj.2⟩)
      have HT2 : Hid (Turn F w w2) := HT1.out.trans hset.2 (fun _ _ h => h)
      clear hset hdk2 ht2 HFL
      go_wp2
      go_ret
      rw [HE.out.1, HE.out.2.1, HE.out.2.2]; exact ⟨rfl, HB2.out, HT2.out⟩
  · have HE : Hid (fl1C D q i = lookP D q i ∧ fl1D D q i = D ∧ fl1Q D q i = q) := by
      have e : fl1C D q i = lookP D q i := by unfold fl1C; rw [if_neg hc]
      exact ⟨e, by unfold fl1D; rw [if_neg (by rw [e]; exact hc)], by unfold fl1Q; rw [if_neg hc]⟩
    have hev := errV_code hc
    obtain ⟨a, ha⟩ := poweredV_form D q i
    have HEV := hide hev
    rw [hev] at HP
    rw [ha] at HP
    clear hev ha hc h hww
    go_enter Tryz.func57, Tryz.ntmps57
    go_wp2_with fail
    refine HP.out.mono ?_
    rintro e w' ⟨rfl, hw'⟩
    obtain rfl : w = w' := hw'.symm
    go_wp2
    go_ret
    rw [HE.out.1, HE.out.2.1, HE.out.2.2]; exact ⟨by rw [HEV.out]; rfl, HBK.out.ext_self, Turn.refl _ _⟩

/-- Devices are flushed, one behind the other, till one has an error. -/
def flAll : List Dev → Pw → List Int → List Dev × Pw × Int × Int
  | D, q, [] => (D, q, 0, 0)
  | D, q, i :: r => if fl1C D q i = 0 then flAll (fl1D D q i) (fl1Q D q i) r else (fl1D D q i, fl1Q D q i, fl1C D q i, i)
def BFlushed (F : Nat → Prop) (b : Nat) (r : List Dev × Pw × Int × Int) (w : World) (e : Ending) (w' : World) : Prop := BTurned F b r.1 r.2.1 r.2.2.1 "flush".toUTF8 r.2.2.2 0 w e w'
def SmallN (q : Pw) (n : Int) : Prop := I64 q.left ∧ 0 ≤ q.done ∧ q.done ≤ n
theorem SmallN.small {q : Pw} {n : Int} (h : SmallN q n) (hn : n ≤ 1000000) : Small q := ⟨h.1, h.2.1, by have := h.2.2; omega⟩
theorem SmallN.mono {q : Pw} {n m : Int} (h : SmallN q n) (hn : n ≤ m) : SmallN q m := ⟨h.1, h.2.1, by have := h.2.2; omega⟩
theorem SmallN.spend {q : Pw} {n : Int} (h : SmallN q n) : SmallN (spent q) (n + 1) := by
  obtain ⟨h1, h2, h3⟩ := h
  unfold spent
  split
  · exact ⟨h1, h2, by simp; omega⟩
  · refine ⟨?_, by simp; omega, by simp; omega⟩
    unfold I64 at *
    simp only
    split <;> omega
theorem SmallN.fl1 {D : List Dev} {q : Pw} {n : Int} (h : SmallN q n) (i : Int) : SmallN (fl1Q D q i) (n + 1) := by
  unfold fl1Q
  split
  · exact h.spend
  · exact h.mono (by omega)
theorem WlB.put {D : List Dev} {j : Nat} (h : WlB D j) {i : Int} {S' : List Sec} (hS : ∀ s ∈ S', s.wait.length ≤ j) : WlB (putDev D i S') j := by
  unfold putDev
  split
  · rename_i p S0 hi
    intro k p' S hk s hs
    by_cases e : i.toNat = k
    · subst e
      rw [List.getElem?_set_self (List.getElem?_eq_some_iff.1 hi).1] at hk
      cases hk
      exact hS s hs
    · rw [List.getElem?_set_ne e] at hk
      exact h k p' S hk s hs
  · exact h
theorem flushed_wait {S : List Sec} {s : Sec} (h : s ∈ S.map Sec.flushed) : s.wait = [] := by
  obtain ⟨t, -, rfl⟩ := List.mem_map.1 h; rfl
theorem WlB.fl1 {D : List Dev} {q : Pw} {j : Nat} (h : WlB D j) (i : Int) : WlB (fl1D D q i) j := by
  unfold fl1D
  split
  · exact h.put (fun s hs => by rw [flushed_wait hs]; exact Nat.zero_le _)
  · exact h

set_option maxRecDepth 100000 in
set_option maxHeartbeats 1000000 in
theorem bflush_any {w : World} {F : Nat → Prop} {b : Nat} {D : List Dev} {q : Pw} (h : Bk w F b D q) {n0 : Int} (hq : SmallN q n0) (hww : WlB D 1000000) (pv : Value) (ns : List Int) (hp : Ints w pv ns) (hout : 0 < ns.length → ∀ k, pv.ownBlock = some k → ¬ F k) (hn : n0 + ns.length ≤ 1000000) (hl : ns.length ≤ 1000) :
    Calls Tryz.prog 25 #[.pointer (some ⟨b, 0, none⟩), pv] w (BFlushed F b (flAll D q ns) w) := by
  have HBK := hide h
  have HQ := hide hq
  have HWW := hide hww
  have HI := hide hp
  have HN := hide hn
  have HL := hide hl
  obtain ⟨ao, cap, g, off, rfl, h2, h3, -⟩ := hp
  have H2 := hide h2
  have H3 := hide h3
  have HOUT := hide hout
  clear h hq hww h2 h3 hout hn hl
  go_enter Tryz.func25, Tryz.ntmps25
  go_wp2_with fail
  go_loopg [10] ns.length (fun gk i wr => ∃ j D' q', j + gk = ns.length ∧ i = .int .i64 (j : Int) ∧ Bk wr (ext F w wr) b D' q' ∧ Turn F w wr ∧ flAll D' q' (ns.drop j) = flAll D q ns ∧ SmallN q' (n0 + j) ∧ WlB D' 1000000)
  case atStart => exact ⟨0, D, q, by omega, rfl, HBK.out.ext_self, Turn.refl _ _, rfl, HQ.out.mono (by omega), HWW.out⟩
  case round =>
    obtain ⟨j, D', q', hj, rfl, hbk, htn, hfl, hsm, hwl⟩ := hrel
    have HB := hide hbk
    have HT := hide htn
    have HF := hide hfl
    have HS := hide hsm
    have HW := hide hwl
    clear hbk htn hfl hsm hwl HBK HQ HWW
    cases gk with
    | zero =>
      have hend : ¬ (j : Int) < (ns.length : Int) := by omega
      have HE : Hid (flAll D q ns = (D', q', 0, 0)) := by
        have := HF.out
        rw [List.drop_of_length_le (by omega)] at this
        exact this.symm
      clear hj
      go_wp2
      go_ret
      rw [HE.out]
      exact ⟨_, rfl, ⟨FErr.nil0, fun k hk => by cases hk⟩, HB.out, HT.out⟩
    | succ m =>
      have hlt : (j : Int) < (ns.length : Int) := by omega
      have hjl : j < ns.length := by omega
      obtain rfl := H2.out (by omega)
      obtain ⟨i, hi⟩ : ∃ i, ns[j]? = some i := ⟨ns[j], by simp⟩
      have cj : wr.cell? ⟨g, off + j, none⟩ = some (.int .i64 i) := by
        have hc := H3.out j i hi
        rw [World.cell?_of_block (w := w) (HT.out.block g (cell_lt hc) (HOUT.out (by omega) g rfl))]; exact hc
      have hdr : ns.drop j = i :: ns.drop (j + 1) := by
        rw [List.drop_eq_getElem_cons hjl]; congr 1; exact (List.getElem?_eq_some_iff.1 hi).2
      have HDR := hide hdr
      have HSM : Hid (Small q') := HS.out.small (by have := HN.out; omega)
      have HCALL := hide (bflush1_any HB.out HSM.out HW.out i)
      have hjj : (j : Int) + 1 < 1002 := by have := HL.out; omega
      clear hi hdr
      by_cases hc : fl1C D' q' i = 0
      · have HC := hide hc
        rw [hc] at HCALL
        clear hc
        go_wp2_with fail
        refine HCALL.out.mono ?_
        rintro e w2 ⟨rfl, hb2, ht2⟩
        rw [errV_zero]
        have HB2 : Hid (Bk w2 (ext F w w2) b (fl1D D' q' i) (fl1Q D' q' i)) := hb2.mono (fun k hk => ext_ext HT.out.size ht2.size k hk)
        have HT2 : Hid (Turn F w w2) := HT.out.trans ht2 (fun k hk h => by rcases h with h | h; exact h; omega)
        clear hb2 ht2 HCALL
        go_wp2
        go_roundg m
        case measure => omega
        case rel =>
          refine ⟨j + 1, _, _, by omega, by go_num, HB2.out, HT2.out, ?_, (HS.out.fl1 i).mono (by omega), HW.out.fl1 i⟩
          have := HF.out
          rw [HDR.out] at this
          simp only [flAll, HC.out, if_true] at this
          exact this
      · have HC := hide hc
        have hev := errV_code hc
        have HE : Hid (flAll D q ns = (fl1D D' q' i, fl1Q D' q' i, fl1C D' q' i, i)) := by
          have := HF.out
          rw [HDR.out] at this
          simp only [flAll, hc, if_false] at this
          exact this.symm
        have HEV := hide hev
        clear hc hev
        go_wp2_with fail
        refine HCALL.out.mono ?_
        rintro e w2 ⟨rfl, hb2, ht2⟩
        rw [HEV.out]
        have HB2 : Hid (Bk w2 (ext F w w2) b (fl1D D' q' i) (fl1Q D' q' i)) := hb2.mono (fun k hk => ext_ext HT.out.size ht2.size k hk)
        have HT2 : Hid (Turn F w w2) := HT.out.trans ht2 (fun k hk h => by rcases h with h | h; exact h; omega)
        have HWR := hide (wrap_any "flush".toUTF8 i 0 (fl1C D' q' i) w2)
        rw [HEV.out] at HWR
        clear hb2 ht2 HCALL HEV
        go_wp2_with fail
        refine HWR.out.mono ?_
        rintro e w3 ⟨u, rfl, hu, hb3, hform⟩
        have HEND := hide (BTurned.wrapped HB2.out HT2.out hu hb3 hform)
        clear hu hb3
        rcases hform with rfl | rfl
        · go_wp2
          go_ret
          rw [HE.out]; exact HEND.out
        · go_wp2
          go_ret
          rw [HE.out]; exact HEND.out
end Go.Proofs.YtliboiajhhnajaaGreatDoor

/- A sector of the document's own disk, bad or good. -/
namespace Go.Proofs.YtliboiajhhnajaaGreatDoor
open Go.RowKit Go.Extern

theorem RkAt.badB {w : World} {G : Nat → Prop} {b g n cap : Nat} {T : List (Value × Sec)} (h : RkAt w G b (.slice (some ⟨g, 0, none⟩) n cap) T) {i : Nat} {u : Value} {s : Sec} (hi : T[i]? = some (u, s)) (on : Bool) :
    RkAt (w.setCell ⟨g, i * 2 + 1, none⟩ (.bool on)) (ext G w (w.setCell ⟨g, i * 2 + 1, none⟩ (.bool on))) b (.slice (some ⟨g, 0, none⟩) n cap) (T.set i (u, { s with bad := on })) ∧ Turn G w (w.setCell ⟨g, i * 2 + 1, none⟩ (.bool on)) := by
  have hn : n = T.length := by obtain ⟨a, c, e⟩ := h.form; injection e
  subst hn
  refine h.put (p' := (u, { s with bad := on })) (Below.refl _ _) ((h.val i _ hi).keep (fun _ _ _ => rfl) (fun k hk _ => .inl hk)) (fun k hk => Below.heap_setCell _ _ _ _ (fun e => hk (by rw [e]; rfl))) (by simp [World.setCell]) ?_ ⟨rfl, rfl, rfl⟩
  rw [List.length_set, rcells_set hi, set_same (rcells_get0 hi)]
  exact ownsRow_setCell h.row (i * 2 + 1) _
end Go.Proofs.YtliboiajhhnajaaGreatDoor
