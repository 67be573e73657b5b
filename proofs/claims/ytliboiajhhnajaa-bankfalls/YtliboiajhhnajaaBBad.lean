/- BBad by its contract. -/
import Derived.Test.YtliboiajhhnajaaBWrite
import Derived.Test.YtliboiajhhnajaaPut3
namespace Go.Proofs.Ytliboiajhhnajaa
open Go.RowKit Go.Extern

def bbC (D : List Dev) (_q : Pw) (i : Int) (s : Int) (_on : Bool) : Int := if lookC D i = 0 then bErr (secsOf D i) s else lookC D i
def bbD (D : List Dev) (_q : Pw) (i : Int) (s : Int) (on : Bool) : List Dev := if lookC D i = 0 then putDev D i (bSet (secsOf D i) s on) else D
set_option maxRecDepth 100000 in
set_option maxHeartbeats 1000000 in
theorem bbad_any {w : World} {F : Nat → Prop} {b : Nat} {D : List Dev} {q : Pw} (h : Bk w F b D q) (i : Int) (s : Int) (on : Bool) :
    Calls Try.prog 20 #[.pointer (some ⟨b, 0, none⟩), .int .i64 i, .int .i64 s, .bool on] w (BTurned F b (bbD D q i s on) q (bbC D q i s on) "bad".toUTF8 i s w) := by
  have HP := hide (find_any h i)
  have HBK := hide h
  by_cases hc : lookC D i = 0
  · obtain ⟨k, p, S, rfl, hk⟩ := lookC_zero hc
    have hpv := (lookC_at hk).2
    obtain ⟨v, G, hat⟩ := h
    rw [hpv, hc, errV_zero] at HP
    have HE : Hid (bbC D q (k : Int) s on = bErr S s ∧ bbD D q (k : Int) s on = D.set k (some (p, bSet S s on))) := ⟨by unfold bbC; rw [if_pos hc, secsOf_at hk], by unfold bbD; rw [if_pos hc, secsOf_at hk, putDev_at hk]⟩
    have HCALL := hide (bad_any (hat.dev k p S hk) s on)
    have HK := hide hk
    have HAT := hide hat
    clear hc hpv hat hk HBK
    go_enter Try.func20, Try.ntmps20
    go_wp2_with fail
    refine HP.out.mono ?_
    rintro e w' ⟨rfl, hw'⟩
    obtain rfl : w = w' := hw'.symm
    go_wp2_with fail
    refine HCALL.out.mono ?_
    rintro e w2 ⟨rfl, hdk2, ht2⟩
    have hset := HAT.out.set HK.out hdk2 ht2
    have HB2 : Hid (Bk w2 (ext F w w2) b (D.set k (some (p, bSet S s on))) q) := ⟨_, _, hset.1⟩
    have HT2 : Hid (Turn F w w2) := hset.2
    have HWR := hide (wrap_any "bad".toUTF8 (k : Int) s (bErr S s) w2)
    obtain ⟨ev, hev⟩ : ∃ ev, ev = errV (bErr S s) := ⟨_, rfl⟩
    rw [← hev] at HWR
    rw [← hev]
    have hevf : ev = .nilIface ∨ ∃ T x, ev = .iface T x := by rw [hev]; exact errV_form _
    clear hev
    clear hset hdk2 ht2 HCALL hevf
    go_wp2_with fail
    refine HWR.out.mono ?_
    rintro e w3 ⟨u, rfl, hu, hb3, hform⟩
    have HEND := hide (BTurned.wrapped HB2.out HT2.out hu hb3)
    clear hu hb3
    rcases hform with rfl | rfl
    · go_wp2
      go_ret
      rw [HE.out.1, HE.out.2]; exact HEND.out
    · go_wp2
      go_ret
      rw [HE.out.1, HE.out.2]; exact HEND.out
  · have HE : Hid (bbC D q i s on = lookC D i ∧ bbD D q i s on = D) := ⟨by unfold bbC; rw [if_neg hc], by unfold bbD; rw [if_neg hc]⟩
    have hev := errV_code hc
    obtain ⟨a, ha⟩ := findV_form D i
    have HWR := hide (wrap_any "bad".toUTF8 i s (lookC D i) w)
    rw [hev] at HP HWR
    rw [ha] at HP
    clear hev ha hc h
    go_enter Try.func20, Try.ntmps20
    go_wp2_with fail
    refine HP.out.mono ?_
    rintro e w' ⟨rfl, hw'⟩
    obtain rfl : w = w' := hw'.symm
    go_wp2_with fail
    refine HWR.out.mono ?_
    rintro e w3 ⟨u, rfl, hu, hb3, hform⟩
    have HEND := hide (BTurned.wrapped HBK.out.ext_self (Turn.refl _ _) hu hb3)
    clear hu hb3
    rcases hform with rfl | rfl
    · go_wp2
      go_ret
      rw [HE.out.1, HE.out.2]; exact HEND.out
    · go_wp2
      go_ret
      rw [HE.out.1, HE.out.2]; exact HEND.out
end Go.Proofs.Ytliboiajhhnajaa
