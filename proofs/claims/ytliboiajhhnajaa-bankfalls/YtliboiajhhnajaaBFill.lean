/- BFill by its contract. -/
import Derived.Test.YtliboiajhhnajaaBWrite
import Derived.Test.YtliboiajhhnajaaPFill
namespace Go.Proofs.Ytliboiajhhnajaa
open Go.RowKit Go.Extern

def bfC (D : List Dev) (_q : Pw) (i : Int) (_d : List Nat) : Int := if lookC D i = 0 then 0 else lookC D i
def bfD (D : List Dev) (_q : Pw) (i : Int) (d : List Nat) : List Dev := if lookC D i = 0 then putDev D i (fillS (secsOf D i) d) else D
set_option maxRecDepth 100000 in
set_option maxHeartbeats 1000000 in
theorem bfill_any {w : World} {F : Nat → Prop} {b : Nat} {D : List Dev} {q : Pw} (h : Bk w F b D q) (i : Int) (dv : Value) (d : List Nat) (hd : Bytes w dv d) (hdl : d.length ≤ 1000) (hout : ∀ k, dv.ownBlock = some k → ¬ F k) :
    Calls Try.prog 21 #[.pointer (some ⟨b, 0, none⟩), .int .i64 i, dv] w (BTurned F b (bfD D q i d) q (bfC D q i d) "fill".toUTF8 i 0 w) := by
  have HP := hide (find_any h i)
  have HBK := hide h
  have HD := hide hd
  obtain ⟨aod, capd, gd, offd, rfl, -⟩ := hd
  by_cases hc : lookC D i = 0
  · obtain ⟨k, p, S, rfl, hk⟩ := lookC_zero hc
    have hpv := (lookC_at hk).2
    obtain ⟨v, G, hat⟩ := h
    rw [hpv, hc, errV_zero] at HP
    have HE : Hid (bfC D q (k : Int) d = 0 ∧ bfD D q (k : Int) d = D.set k (some (p, fillS S d))) := ⟨by unfold bfC; rw [if_pos hc], by unfold bfD; rw [if_pos hc, secsOf_at hk, putDev_at hk]⟩
    have HCALL := hide (fill_any (hat.dev k p S hk) (.slice aod d.length capd) d HD.out hdl (fun j hj hg => hout j hj (hat.inG k j hg)))
    have HK := hide hk
    have HAT := hide hat
    clear hc hpv hat hk HBK hout hdl
    go_enter Try.func21, Try.ntmps21
    go_wp2_with fail
    refine HP.out.mono ?_
    rintro e w' ⟨rfl, hw'⟩
    obtain rfl : w = w' := hw'.symm
    go_wp2_with fail
    refine HCALL.out.mono ?_
    rintro e w2 ⟨rfl, hdk2, ht2⟩
    have hset := HAT.out.set HK.out hdk2 ht2
    have HB2 : Hid (Bk w2 (ext F w w2) b (D.set k (some (p, fillS S d))) q) := ⟨_, _, hset.1⟩
    have HT2 : Hid (Turn F w w2) := hset.2
    have HWR := hide (wrap_any "fill".toUTF8 (k : Int) 0 (0) w2)
    rw [errV_zero] at HWR
    clear hset hdk2 ht2 HCALL
    go_wp2_with fail
    refine HWR.out.mono ?_
    rintro e w3 ⟨u, rfl, hu, hb3, hform⟩
    have HEND := hide (BTurned.wrapped HB2.out HT2.out hu hb3)
    clear hu hb3
    rcases hform with rfl | rfl
    · go_wp2
      go_ret
      rw [HE.out.1, HE.out.2]; exact HEND.out
    · go_wp2
      go_ret
      rw [HE.out.1, HE.out.2]; exact HEND.out
  · have HE : Hid (bfC D q i d = lookC D i ∧ bfD D q i d = D) := ⟨by unfold bfC; rw [if_neg hc], by unfold bfD; rw [if_neg hc]⟩
    have hev := errV_code hc
    obtain ⟨a, ha⟩ := findV_form D i
    have HWR := hide (wrap_any "fill".toUTF8 i 0 (lookC D i) w)
    rw [hev] at HP HWR
    rw [ha] at HP
    clear hev ha hc h
    go_enter Try.func21, Try.ntmps21
    go_wp2_with fail
    refine HP.out.mono ?_
    rintro e w' ⟨rfl, hw'⟩
    obtain rfl : w = w' := hw'.symm
    go_wp2_with fail
    refine HWR.out.mono ?_
    rintro e w3 ⟨u, rfl, hu, hb3, hform⟩
    have HEND := hide (BTurned.wrapped HBK.out.ext_self (Turn.refl _ _) hu hb3)
    clear hu hb3
    rcases hform with rfl | rfl
    · go_wp2
      go_ret
      rw [HE.out.1, HE.out.2]; exact HEND.out
    · go_wp2
      go_ret
      rw [HE.out.1, HE.out.2]; exact HEND.out
end Go.Proofs.Ytliboiajhhnajaa
