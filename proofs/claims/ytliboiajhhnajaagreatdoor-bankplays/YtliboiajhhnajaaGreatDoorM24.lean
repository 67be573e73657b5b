import Derived.Test.YtliboiajhhnajaaGreatDoorM23
import Derived.Test.YtliboiajhhnajaaGreatDoorM07
import Derived.Test.YtliboiajhhnajaaGreatDoorM03
import Derived.Test.YtliboiajhhnajaaGreatDoorM04
/- Write by its contract. -/
namespace Go.Proofs.YtliboiajhhnajaaGreatDoor
open Go.RowKit Go.Extern

/-- What a call that may fail leaves of a bank: the fault, or none; the devices and the power. -/
def BTurned (F : Nat → Prop) (b : Nat) (D' : List Dev) (q' : Pw) (c : Int) (op : ByteArray) (d p : Int) (w : World) (e : Ending) (w' : World) : Prop :=
  ∃ u, e = .returned u ∧ FErrN w.heap.size w' u c op d p ∧ Bk w' (ext F w w') b D' q' ∧ Turn F w w'
theorem ext_below {F : Nat → Prop} {w w1 w2 : World} (h : w1.heap.size ≤ w2.heap.size) (k : Nat) (hk : ext F w w1 k) : ext F w w2 k := by
  rcases hk with hk | hk
  · exact .inl hk
  · exact .inr ⟨hk.1, by omega⟩
theorem BTurned.wrapped {F : Nat → Prop} {b : Nat} {D' : List Dev} {q' : Pw} {c : Int} {op : ByteArray} {d p : Int} {w w1 w2 : World} {u : Value} (hb : Bk w1 (ext F w w1) b D' q') (ht : Turn F w w1) (hu : FErr w2 u c op d p) (h2 : Below w1.heap.size w1 w2) (hform : u = .nilIface ∨ u = .iface 98 (.pointer (some ⟨w1.heap.size, 0, none⟩))) : BTurned F b D' q' c op d p w (.returned u) w2 :=
  ⟨u, rfl, ⟨hu, fun k hk => by
    rcases hform with e | e
    · rw [e] at hk; cases hk
    · rw [e] at hk; cases hk; exact ht.size⟩, (hb.below h2).mono (fun k hk => ext_below h2.size k hk), ht.trans (Turn.of_below (F := F) h2) (fun _ _ h => h)⟩
theorem Bk.ext_self {w : World} {F : Nat → Prop} {b : Nat} {D : List Dev} {q : Pw} (h : Bk w F b D q) : Bk w (ext F w w) b D q := h.mono (fun _ hk => .inl hk)

/-- The sectors of a device; a device laid anew. -/
def secsOf (D : List Dev) (i : Int) : List Sec := match D[i.toNat]? with | some (some (_, S)) => S | _ => []
def putDev (D : List Dev) (i : Int) (S' : List Sec) : List Dev := match D[i.toNat]? with | some (some (p, _)) => D.set i.toNat (some (p, S')) | _ => D
theorem secsOf_at {D : List Dev} {k p : Nat} {S : List Sec} (h : D[k]? = some (some (p, S))) : secsOf D (k : Int) = S := by unfold secsOf; rw [Int.toNat_natCast, h]
theorem putDev_at {D : List Dev} {k p : Nat} {S : List Sec} (h : D[k]? = some (some (p, S))) (S' : List Sec) : putDev D (k : Int) S' = D.set k (some (p, S')) := by unfold putDev; rw [Int.toNat_natCast, h]
/-- No device has more than so many writes that wait for one sector. -/
def WlB (D : List Dev) (j : Nat) : Prop := ∀ (i p : Nat) (S : List Sec), D[i]? = some (some (p, S)) → ∀ s ∈ S, s.wait.length ≤ j

/-- What Write does. -/
def bwC (D : List Dev) (q : Pw) (i s : Int) (d : List Nat) : Int := if lookP D q i = 0 then (if wErr (secsOf D i) s d = 0 then spendC q else wErr (secsOf D i) s d) else lookP D q i
def bwD (D : List Dev) (q : Pw) (i s : Int) (d : List Nat) : List Dev := if bwC D q i s d = 0 then putDev D i (wSet (secsOf D i) s d) else D
def bwQ (D : List Dev) (q : Pw) (i s : Int) (d : List Nat) : Pw := if lookP D q i = 0 ∧ wErr (secsOf D i) s d = 0 then spent q else q
theorem wErr_take (S : List Sec) (s : Int) (d : List Nat) : takeB S s d = decide (wErr S s d = 0) := by
  unfold takeB wErr
  cases hasB S s with
  | false => simp
  | true =>
    by_cases h : d.length = 128
    · simp [h]
    · simp [h]
theorem Dk.turnB {w w' : World} {F : Nat → Prop} {b p : Nat} {S : List Sec} (h : Dk w F p S) (ht : Turn (fun k => k = b) w w') (hb : ¬ F b) : Dk w' F p S := h.turn ht (fun k hk e => hb (by rw [← e]; exact hk))

set_option maxRecDepth 100000 in
set_option maxHeartbeats 1000000 in
theorem bwrite_any {w : World} {F : Nat → Prop} {b : Nat} {D : List Dev} {q : Pw} (h : Bk w F b D q) (hq : Small q) (hww : WlB D 999999) (i s : Int) (dv : Value) (d : List Nat) (hd : Bytes w dv d) (hout : 0 < d.length → ∀ k, dv.ownBlock = some k → ¬ F k) :
    Calls Tryz.prog 22 #[.pointer (some ⟨b, 0, none⟩), .int .i64 i, .int .i64 s, dv] w (BTurned F b (bwD D q i s d) (bwQ D q i s d) (bwC D q i s d) "write".toUTF8 i s w) := by
  have HP := hide (powered_any h i)
  have HBK := hide h
  have HD := hide hd
  obtain ⟨aod, capd, gd, offd, rfl, -⟩ := hd
  by_cases hc : lookP D q i = 0
  · obtain ⟨hdn, k, p, S, rfl, hk, hpv⟩ := lookP_zero hc
    obtain ⟨v, G, hat⟩ := h
    rw [hpv, hc, errV_zero] at HP
    have HS := hide (secsOf_at hk)
    have HPD := hide (fun S' => putDev_at hk S')
    have HC := hide hc
    have hdk := hat.dev k p S hk
    have HT := hide (takes_any hdk s (.slice aod d.length capd) d HD.out)
    have HAT := hide hat
    have HK := hide hk
    have HOUT : Hid (0 < d.length → ∀ j, (Value.slice aod d.length capd).ownBlock = some j → j ≠ b ∧ ¬ G k j) := fun hp j hj => ⟨fun e => hout hp j hj (by rw [e]; exact hat.inB), fun hg => hout hp j hj (hat.inG k j hg)⟩
    have HWW : Hid (∀ s ∈ S, s.wait.length < 1000000) := fun s hs => by have := hww k p S hk s hs; omega
    clear hc hpv hdn hout hww
    by_cases hw : wErr S s d = 0
    · have HW := hide hw
      rw [wErr_take, hw] at HT
      have HSP := hide (spend_any hat hq)
      clear hat hw hdk hk
      by_cases hl : q.left = 0
      · have HE : Hid (bwC D q (k : Int) s d = 22 ∧ bwD D q (k : Int) s d = D ∧ bwQ D q (k : Int) s d = spent q) := by
          have e : bwC D q (k : Int) s d = 22 := by unfold bwC; rw [HS.out, if_pos HC.out, if_pos HW.out]; simp [spendC, hl]
          exact ⟨e, by unfold bwD; rw [if_neg (by omega)], by unfold bwQ; rw [HS.out, if_pos ⟨HC.out, HW.out⟩]⟩
        have HSC : Hid (spendC q = 22) := by show _ = _; simp [spendC, hl]
        clear hl
        go_enter Tryz.func22, Tryz.ntmps22
        go_wp2_with fail
        refine HP.out.mono ?_
        rintro e w' ⟨rfl, hw'⟩
        obtain rfl : w = w' := hw'.symm
        go_wp2_with fail
        refine HT.out.mono ?_
        rintro e w' ⟨rfl, hw'⟩
        obtain rfl : w = w' := hw'.symm
        go_wp2_with fail
        refine HSP.out.mono ?_
        rintro e w1 ⟨rfl, hb1, ht1, hs1⟩
        rw [HSC.out, errV_22]
        have HB1 : Hid (Bk w1 (ext F w w1) b D (spent q)) := (show Bk w1 F b D (spent q) from ⟨_, _, hb1⟩).mono (fun _ hk => .inl hk)
        have HT1 : Hid (Turn F w w1) := ⟨ht1.os, ht1.tape, ht1.output, ht1.size, fun j hj hn => ht1.block j hj (fun e => hn (by rw [e]; exact HAT.out.inB))⟩
        have HWR := hide (wrap_any "write".toUTF8 (k : Int) s 22 w1)
        rw [errV_22] at HWR
        clear hb1 ht1 hs1 HP HT HSP
        go_wp2_with fail
        refine HWR.out.mono ?_
        rintro e w2 ⟨u, rfl, hu, hb2, hform⟩
        have HEND := hide (BTurned.wrapped HB1.out HT1.out hu hb2 hform)
        clear hu hb2
        rcases hform with rfl | rfl
        · go_wp2
          go_ret
          rw [HE.out.1, HE.out.2.1, HE.out.2.2]; exact HEND.out
        · go_wp2
          go_ret
          rw [HE.out.1, HE.out.2.1, HE.out.2.2]; exact HEND.out
      · have HE : Hid (bwC D q (k : Int) s d = 0 ∧ bwD D q (k : Int) s d = D.set k (some (p, wSet S s d)) ∧ bwQ D q (k : Int) s d = spent q) := by
          have e : bwC D q (k : Int) s d = 0 := by unfold bwC; rw [HS.out, if_pos HC.out, if_pos HW.out]; simp [spendC, hl]
          exact ⟨e, by unfold bwD; rw [if_pos e, HS.out, HPD.out], by unfold bwQ; rw [HS.out, if_pos ⟨HC.out, HW.out⟩]⟩
        have HSC : Hid (spendC q = 0) := by show _ = _; simp [spendC, hl]
        clear hl
        go_enter Tryz.func22, Tryz.ntmps22
        go_wp2_with fail
        refine HP.out.mono ?_
        rintro e w' ⟨rfl, hw'⟩
        obtain rfl : w = w' := hw'.symm
        go_wp2_with fail
        refine HT.out.mono ?_
        rintro e w' ⟨rfl, hw'⟩
        obtain rfl : w = w' := hw'.symm
        go_wp2_with fail
        refine HSP.out.mono ?_
        rintro e w1 ⟨rfl, hb1, ht1, hs1⟩
        rw [HSC.out, errV_zero]
        have hdk1 : Dk w1 (G k) p S := hb1.dev k p S HK.out
        have hd1 : Bytes w1 (.slice aod d.length capd) d := HD.out.turnB ht1 (fun hp j hj e => (HOUT.out hp j hj).1 e)
        have HWRI := hide (write_any hdk1 s (.slice aod d.length capd) d hd1 HWW.out)
        rw [HW.out] at HWRI
        have HB1 := hide hb1
        have HT1 : Hid (Turn F w w1) := ⟨ht1.os, ht1.tape, ht1.output, ht1.size, fun j hj hn => ht1.block j hj (fun e => hn (by rw [e]; exact HAT.out.inB))⟩
        have HS1 := hide hs1
        clear hb1 ht1 hs1 HP HT HSP hdk1 hd1
        go_wp2_with fail
        refine HWRI.out.mono ?_
        rintro e w2 ⟨rfl, hdk2, ht2⟩
        rw [errV_zero]
        have hset := HB1.out.set HK.out hdk2 ht2
        have HB2 : Hid (Bk w2 (ext F w w2) b (D.set k (some (p, wSet S s d))) (spent q)) := (show Bk w2 (ext F w1 w2) b _ (spent q) from ⟨_, _, hset.1⟩).mono (fun j hj => by rcases hj with hj | hj; exact .inl hj; exact .inr ⟨by have := HS1.out; omega, hj.2⟩)
        have HT2 : Hid (Turn F w w2) := HT1.out.trans hset.2 (fun _ _ h => h)
        have HWR := hide (wrap_any "write".toUTF8 (k : Int) s 0 w2)
        rw [errV_zero] at HWR
        clear hset hdk2 ht2 HWRI
        go_wp2_with fail
        refine HWR.out.mono ?_
        rintro e w3 ⟨u, rfl, hu, hb3, hform⟩
        have HEND := hide (BTurned.wrapped HB2.out HT2.out hu hb3 hform)
        clear hu hb3
        rcases hform with rfl | rfl
        · go_wp2
          go_ret
          rw [HE.out.1, HE.out.2.1, HE.out.2.2]; exact HEND.out
        · go_wp2
          go_ret
          rw [HE.out.1, HE.out.2.1, HE.out.2.2]; exact HEND.out
    · have HW := hide hw
      have HE : Hid (bwC D q (k : Int) s d = wErr S s d ∧ bwD D q (k : Int) s d = D ∧ bwQ D q (k : Int) s d = q) := by
        have e : bwC D q (k : Int) s d = wErr S s d := by unfold bwC; rw [HS.out, if_pos HC.out, if_neg hw]
        exact ⟨e, by unfold bwD; rw [if_neg (by rw [e]; exact hw)], by unfold bwQ; rw [HS.out, if_neg (fun x => hw x.2)]⟩
      have hwt : decide (wErr S s d = 0) = false := by simpa using hw
      rw [wErr_take, hwt] at HT
      have HWRI := hide (write_any hdk s (.slice aod d.length capd) d HD.out HWW.out)
      have hev := errV_code hw
      have hsame : wSet S s d = S := wSet_no (fun x => hw (by unfold wErr; rw [if_pos x.1, if_pos x.2]))
      have hDD : D.set k (some (p, S)) = D := List.ext_getElem? fun j => by
        by_cases e : k = j
        · subst e; rw [List.getElem?_set_self (List.getElem?_eq_some_iff.1 hk).1, hk]
        · rw [List.getElem?_set_ne e]
      rw [hsame] at HWRI
      have HDD := hide hDD
      have HEV := hide hev
      clear hat hw hdk hk hwt hsame hDD hev
      go_enter Tryz.func22, Tryz.ntmps22
      go_wp2_with fail
      refine HP.out.mono ?_
      rintro e w' ⟨rfl, hw'⟩
      obtain rfl : w = w' := hw'.symm
      go_wp2_with fail
      refine HT.out.mono ?_
      rintro e w' ⟨rfl, hw'⟩
      obtain rfl : w = w' := hw'.symm
      go_wp2_with fail
      refine HWRI.out.mono ?_
      rintro e w2 ⟨rfl, hdk2, ht2⟩
      have hset := HAT.out.set HK.out hdk2 ht2
      have HB2 : Hid (Bk w2 (ext F w w2) b D q) := by have : Bk w2 (ext F w w2) b _ q := ⟨_, _, hset.1⟩; rw [HDD.out] at this; exact this
      have HT2 : Hid (Turn F w w2) := hset.2
      have HWR := hide (wrap_any "write".toUTF8 (k : Int) s (wErr S s d) w2)
      rw [HEV.out] at HWR
      rw [HEV.out]
      clear hset hdk2 ht2 HWRI HEV
      go_wp2_with fail
      refine HWR.out.mono ?_
      rintro e w3 ⟨u, rfl, hu, hb3, hform⟩
      have HEND := hide (BTurned.wrapped HB2.out HT2.out hu hb3 hform)
      clear hu hb3
      rcases hform with rfl | rfl
      · go_wp2
        go_ret
        rw [HE.out.1, HE.out.2.1, HE.out.2.2]; exact HEND.out
      · go_wp2
        go_ret
        rw [HE.out.1, HE.out.2.1, HE.out.2.2]; exact HEND.out
  · have HE : Hid (bwC D q i s d = lookP D q i ∧ bwD D q i s d = D ∧ bwQ D q i s d = q) := by
      have e : bwC D q i s d = lookP D q i := by unfold bwC; rw [if_neg hc]
      exact ⟨e, by unfold bwD; rw [if_neg (by rw [e]; exact hc)], by unfold bwQ; rw [if_neg (fun x => hc x.1)]⟩
    have hev := errV_code hc
    obtain ⟨a, ha⟩ := poweredV_form D q i
    have HWR := hide (wrap_any "write".toUTF8 i s (lookP D q i) w)
    rw [hev] at HP HWR
    rw [ha] at HP
    clear hev ha hc h hout hww
    go_enter Tryz.func22, Tryz.ntmps22
    go_wp2_with fail
    refine HP.out.mono ?_
    rintro e w' ⟨rfl, hw'⟩
    obtain rfl : w = w' := hw'.symm
    go_wp2_with fail
    refine HWR.out.mono ?_
    rintro e w3 ⟨u, rfl, hu, hb3, hform⟩
    have HEND := hide (BTurned.wrapped HBK.out.ext_self (Turn.refl _ _) hu hb3 hform)
    clear hu hb3
    rcases hform with rfl | rfl
    · go_wp2
      go_ret
      rw [HE.out.1, HE.out.2.1, HE.out.2.2]; exact HEND.out
    · go_wp2
      go_ret
      rw [HE.out.1, HE.out.2.1, HE.out.2.2]; exact HEND.out
end Go.Proofs.YtliboiajhhnajaaGreatDoor

/- Read and Detach by their contracts. -/
namespace Go.Proofs.YtliboiajhhnajaaGreatDoor
open Go.RowKit Go.Extern

def brC (D : List Dev) (q : Pw) (i s : Int) : Int := if lookP D q i = 0 then rErr (secsOf D i) s else lookP D q i
def brD (D : List Dev) (q : Pw) (i s : Int) : List Nat := if lookP D q i = 0 then rDat (secsOf D i) s else []
def BReaded (D : List Dev) (q : Pw) (i s : Int) (w : World) (e : Ending) (w' : World) : Prop := ∃ u x, e = .returned (.tuple #[u, x]) ∧ FErr w' x (brC D q i s) "read".toUTF8 i s ∧ Own w' w.heap.size u (brD D q i s) ∧ Below w.heap.size w w' ∧ (x = .nilIface ∨ ∃ g, x = .iface 98 (.pointer (some ⟨g, 0, none⟩)))
set_option maxRecDepth 100000 in
set_option maxHeartbeats 1000000 in
theorem bread_any {w : World} {F : Nat → Prop} {b : Nat} {D : List Dev} {q : Pw} (h : Bk w F b D q) (hww : WlB D 1000000) (i s : Int) (hs : I64 s) :
    Calls Tryz.prog 19 #[.pointer (some ⟨b, 0, none⟩), .int .i64 i, .int .i64 s] w (BReaded D q i s w) := by
  have HP := hide (powered_any h i)
  by_cases hc : lookP D q i = 0
  · obtain ⟨hdn, k, p, S, rfl, hk, hpv⟩ := lookP_zero hc
    obtain ⟨v, G, hat⟩ := h
    rw [hpv, hc, errV_zero] at HP
    have HE : Hid (brC D q (k : Int) s = rErr S s ∧ brD D q (k : Int) s = rDat S s) := ⟨by unfold brC; rw [if_pos hc, secsOf_at hk], by unfold brD; rw [if_pos hc, secsOf_at hk]⟩
    have HCALL := hide (read_any (hat.dev k p S hk) s hs (hww k p S hk))
    clear hc hpv hat hk hdn hww hs
    go_enter Tryz.func19, Tryz.ntmps19
    go_wp2_with fail
    refine HP.out.mono ?_
    rintro e w' ⟨rfl, hw'⟩
    obtain rfl : w = w' := hw'.symm
    go_wp2_with fail
    refine HCALL.out.mono ?_
    rintro e w2 ⟨u, rfl, hu, hb2⟩
    have HU := hide hu
    have HB2 := hide hb2
    have HWR := hide (wrap_any "read".toUTF8 (k : Int) s (rErr S s) w2)
    obtain ⟨ev, hev⟩ : ∃ ev, ev = errV (rErr S s) := ⟨_, rfl⟩
    rw [← hev] at HWR
    rw [← hev]
    obtain ⟨aou, capu, rfl⟩ := hu.form
    clear hev hu hb2 HCALL
    go_wp2_with fail
    refine HWR.out.mono ?_
    rintro e w3 ⟨x, rfl, hx, hb3, hform⟩
    have HX := hide hx
    have HU3 := hide (HU.out.below hb3)
    have HB3 := hide (HB2.out.trans (hb3.mono HB2.out.size))
    clear hx hb3
    rcases hform with rfl | rfl
    · go_wp2
      go_ret2
      exact ⟨_, _, rfl, by rw [HE.out.1]; exact HX.out, by rw [HE.out.2]; exact HU3.out, HB3.out, .inl rfl⟩
    · go_wp2
      go_ret2
      exact ⟨_, _, rfl, by rw [HE.out.1]; exact HX.out, by rw [HE.out.2]; exact HU3.out, HB3.out, .inr ⟨_, rfl⟩⟩
  · have HE : Hid (brC D q i s = lookP D q i ∧ brD D q i s = []) := ⟨by unfold brC; rw [if_neg hc], by unfold brD; rw [if_neg hc]⟩
    have hev := errV_code hc
    obtain ⟨a, ha⟩ := poweredV_form D q i
    have HWR := hide (wrap_any "read".toUTF8 i s (lookP D q i) w)
    rw [hev] at HP HWR
    rw [ha] at HP
    clear hev ha hc h hww hs
    go_enter Tryz.func19, Tryz.ntmps19
    go_wp2_with fail
    refine HP.out.mono ?_
    rintro e w' ⟨rfl, hw'⟩
    obtain rfl : w = w' := hw'.symm
    go_wp2_with fail
    refine HWR.out.mono ?_
    rintro e w3 ⟨x, rfl, hx, hb3, hform⟩
    have HX := hide hx
    have HB3 := hide hb3
    clear hx hb3
    rcases hform with rfl | rfl
    · go_wp2
      go_ret2
      exact ⟨_, _, rfl, by rw [HE.out.1]; exact HX.out, by rw [HE.out.2]; exact Own.nil _ _, HB3.out, .inl rfl⟩
    · go_wp2
      go_ret2
      exact ⟨_, _, rfl, by rw [HE.out.1]; exact HX.out, by rw [HE.out.2]; exact Own.nil _ _, HB3.out, .inr ⟨_, rfl⟩⟩

def bdD (D : List Dev) (q : Pw) (i : Int) : List Dev := if lookP D q i = 0 then D.set i.toNat none else D
set_option maxRecDepth 100000 in
set_option maxHeartbeats 1000000 in
theorem bdetach_any {w : World} {F : Nat → Prop} {b : Nat} {D : List Dev} {q : Pw} (h : Bk w F b D q) (i : Int) :
    Calls Tryz.prog 17 #[.pointer (some ⟨b, 0, none⟩), .int .i64 i] w (BTurned F b (bdD D q i) q (lookP D q i) "detach".toUTF8 i 0 w) := by
  have HP := hide (powered_any h i)
  have HBK := hide h
  by_cases hc : lookP D q i = 0
  · obtain ⟨hdn, k, p, S, rfl, hk, hpv⟩ := lookP_zero hc
    obtain ⟨v, G, hat⟩ := h
    rw [hpv, hc, errV_zero] at HP
    have HE : Hid (lookP D q (k : Int) = 0 ∧ bdD D q (k : Int) = D.set k none) := ⟨hc, by unfold bdD; rw [if_pos hc, Int.toNat_natCast]⟩
    have c0 := hat.c0
    obtain ⟨ao, cap, rfl⟩ := hat.form
    obtain ⟨g, rfl, -, ck, fk⟩ := hat.at_ hk
    have hlt : (k : Int) < (D.length : Int) := by have := (List.getElem?_eq_some_iff.1 hk).1; omega
    have hge : (0 : Int) ≤ (k : Int) := by omega
    have HG := hide (hat.gone k)
    have HFG : Hid (F g) := hat.inV g rfl
    have HWR := hide (wrap_any "detach".toUTF8 (k : Int) 0 0 (w.setCell ⟨g, k, none⟩ (.pointer none)))
    rw [errV_zero] at HWR
    clear hc hpv hat hk hdn HBK
    go_enter Tryz.func17, Tryz.ntmps17
    go_wp2_with fail
    refine HP.out.mono ?_
    rintro e w' ⟨rfl, hw'⟩
    obtain rfl : w = w' := hw'.symm
    go_wp2_with fail
    refine HWR.out.mono ?_
    rintro e w3 ⟨x, rfl, hx, hb3, hform⟩
    obtain rfl := hx.zero
    have HEND : Hid (BTurned F b (D.set k none) q 0 "detach".toUTF8 (k : Int) 0 w (.returned .nilIface) w3) :=
      BTurned.wrapped (show Bk _ (ext F w _) b _ q from ⟨_, _, HG.out.mono (fun _ hk => .inl hk)⟩) (set_turn (F := F) w ⟨g, k, none⟩ _ HFG.out) hx hb3 hform
    clear hx hb3 hform
    go_wp2
    go_ret
    rw [HE.out.1, HE.out.2]; exact HEND.out
  · have HE : Hid (bdD D q i = D) := by show _ = _; unfold bdD; rw [if_neg hc]
    have hev := errV_code hc
    obtain ⟨a, ha⟩ := poweredV_form D q i
    have HWR := hide (wrap_any "detach".toUTF8 i 0 (lookP D q i) w)
    rw [hev] at HP HWR
    rw [ha] at HP
    clear hev ha hc h
    go_enter Tryz.func17, Tryz.ntmps17
    go_wp2_with fail
    refine HP.out.mono ?_
    rintro e w' ⟨rfl, hw'⟩
    obtain rfl : w = w' := hw'.symm
    go_wp2_with fail
    refine HWR.out.mono ?_
    rintro e w3 ⟨x, rfl, hx, hb3, hform⟩
    have HEND := hide (BTurned.wrapped HBK.out.ext_self (Turn.refl _ _) hx hb3 hform)
    clear hx hb3
    rcases hform with rfl | rfl
    · go_wp2
      go_ret
      rw [HE.out]; exact HEND.out
    · go_wp2
      go_ret
      rw [HE.out]; exact HEND.out
end Go.Proofs.YtliboiajhhnajaaGreatDoor

/- BBad by its contract. -/
namespace Go.Proofs.YtliboiajhhnajaaGreatDoor
open Go.RowKit Go.Extern

def bbC (D : List Dev) (_q : Pw) (i : Int) (s : Int) (_on : Bool) : Int := if lookC D i = 0 then bErr (secsOf D i) s else lookC D i
def bbD (D : List Dev) (_q : Pw) (i : Int) (s : Int) (on : Bool) : List Dev := if lookC D i = 0 then putDev D i (bSet (secsOf D i) s on) else D
set_option maxRecDepth 100000 in
set_option maxHeartbeats 1000000 in
theorem bbad_any {w : World} {F : Nat → Prop} {b : Nat} {D : List Dev} {q : Pw} (h : Bk w F b D q) (i : Int) (s : Int) (on : Bool) :
    Calls Tryz.prog 29 #[.pointer (some ⟨b, 0, none⟩), .int .i64 i, .int .i64 s, .bool on] w (BTurned F b (bbD D q i s on) q (bbC D q i s on) "bad".toUTF8 i s w) := by
  have HP := hide (find_any h i)
  have HBK := hide h
  by_cases hc : lookC D i = 0
  · obtain ⟨k, p, S, rfl, hk⟩ := lookC_zero hc
    have hpv := (lookC_at hk).2
    obtain ⟨v, G, hat⟩ := h
    rw [hpv, hc, errV_zero] at HP
    have HE : Hid (bbC D q (k : Int) s on = bErr S s ∧ bbD D q (k : Int) s on = D.set k (some (p, bSet S s on))) := ⟨by unfold bbC; rw [if_pos hc, secsOf_at hk], by unfold bbD; rw [if_pos hc, secsOf_at hk, putDev_at hk]⟩
    have HCALL := hide (bad_any (hat.dev k p S hk) s on)
    have HK := hide hk
    have HAT := hide hat
    clear hc hpv hat hk HBK
    go_enter Tryz.func29, Tryz.ntmps29
    go_wp2_with fail
    refine HP.out.mono ?_
    rintro e w' ⟨rfl, hw'⟩
    obtain rfl : w = w' := hw'.symm
    go_wp2_with fail
    refine HCALL.out.mono ?_
    rintro e w2 ⟨rfl, hdk2, ht2⟩
    have hset := HAT.out.set HK.out hdk2 ht2
    have HB2 : Hid (Bk w2 (ext F w w2) b (D.set k (some (p, bSet S s on))) q) := ⟨_, _, hset.1⟩
    have HT2 : Hid (Turn F w w2) := hset.2
    have HWR := hide (wrap_any "bad".toUTF8 (k : Int) s (bErr S s) w2)
    obtain ⟨ev, hev⟩ : ∃ ev, ev = errV (bErr S s) := ⟨_, rfl⟩
    rw [← hev] at HWR
    rw [← hev]
    have hevf : ev = .nilIface ∨ ∃ T x, ev = .iface T x := by rw [hev]; exact errV_form _
    clear hev
    clear hset hdk2 ht2 HCALL hevf
    go_wp2_with fail
    refine HWR.out.mono ?_
    rintro e w3 ⟨u, rfl, hu, hb3, hform⟩
    have HEND := hide (BTurned.wrapped HB2.out HT2.out hu hb3 hform)
    clear hu hb3
    rcases hform with rfl | rfl
    · go_wp2
      go_ret
      rw [HE.out.1, HE.out.2]; exact HEND.out
    · go_wp2
      go_ret
      rw [HE.out.1, HE.out.2]; exact HEND.out
  · have HE : Hid (bbC D q i s on = lookC D i ∧ bbD D q i s on = D) := ⟨by unfold bbC; rw [if_neg hc], by unfold bbD; rw [if_neg hc]⟩
    have hev := errV_code hc
    obtain ⟨a, ha⟩ := findV_form D i
    have HWR := hide (wrap_any "bad".toUTF8 i s (lookC D i) w)
    rw [hev] at HP HWR
    rw [ha] at HP
    clear hev ha hc h
    go_enter Tryz.func29, Tryz.ntmps29
    go_wp2_with fail
    refine HP.out.mono ?_
    rintro e w' ⟨rfl, hw'⟩
    obtain rfl : w = w' := hw'.symm
    go_wp2_with fail
    refine HWR.out.mono ?_
    rintro e w3 ⟨u, rfl, hu, hb3, hform⟩
    have HEND := hide (BTurned.wrapped HBK.out.ext_self (Turn.refl _ _) hu hb3 hform)
    clear hu hb3
    rcases hform with rfl | rfl
    · go_wp2
      go_ret
      rw [HE.out.1, HE.out.2]; exact HEND.out
    · go_wp2
      go_ret
      rw [HE.out.1, HE.out.2]; exact HEND.out
end Go.Proofs.YtliboiajhhnajaaGreatDoor
