/- Read and Detach by their contracts. -/
import Derived.Test.YtliboiajhhnajaaDoorBWrite
import Derived.Test.YtliboiajhhnajaaDoorRead
namespace Go.Proofs.YtliboiajhhnajaaDoor
open Go.RowKit Go.Extern

def brC (D : List Dev) (q : Pw) (i s : Int) : Int := if lookP D q i = 0 then rErr (secsOf D i) s else lookP D q i
def brD (D : List Dev) (q : Pw) (i s : Int) : List Nat := if lookP D q i = 0 then rDat (secsOf D i) s else []
def BReaded (D : List Dev) (q : Pw) (i s : Int) (w : World) (e : Ending) (w' : World) : Prop := ∃ u x, e = .returned (.tuple #[u, x]) ∧ FErr w' x (brC D q i s) "read".toUTF8 i s ∧ Own w' w.heap.size u (brD D q i s) ∧ Below w.heap.size w w' ∧ (x = .nilIface ∨ ∃ g, x = .iface 48 (.pointer (some ⟨g, 0, none⟩)))
def bdD (D : List Dev) (q : Pw) (i : Int) : List Dev := if lookP D q i = 0 then D.set i.toNat none else D
set_option maxRecDepth 100000 in
set_option maxHeartbeats 1000000 in
theorem bdetach_any {w : World} {F : Nat → Prop} {b : Nat} {D : List Dev} {q : Pw} (h : Bk w F b D q) (i : Int) :
    Calls Tryd.prog 8 #[.pointer (some ⟨b, 0, none⟩), .int .i64 i] w (BTurned F b (bdD D q i) q (lookP D q i) "detach".toUTF8 i 0 w) := by
  have HP := hide (powered_any h i)
  have HBK := hide h
  by_cases hc : lookP D q i = 0
  · obtain ⟨hdn, k, p, S, rfl, hk, hpv⟩ := lookP_zero hc
    obtain ⟨v, G, hat⟩ := h
    rw [hpv, hc, errV_zero] at HP
    have HE : Hid (lookP D q (k : Int) = 0 ∧ bdD D q (k : Int) = D.set k none) := ⟨hc, by unfold bdD; rw [if_pos hc, Int.toNat_natCast]⟩
    have c0 := hat.c0
    obtain ⟨ao, cap, rfl⟩ := hat.form
    obtain ⟨g, rfl, -, ck, fk⟩ := hat.at_ hk
    have hlt : (k : Int) < (D.length : Int) := by have := (List.getElem?_eq_some_iff.1 hk).1; omega
    have hge : (0 : Int) ≤ (k : Int) := by omega
    have HG := hide (hat.gone k)
    have HFG : Hid (F g) := hat.inV g rfl
    have HWR := hide (wrap_any "detach".toUTF8 (k : Int) 0 0 (w.setCell ⟨g, k, none⟩ (.pointer none)))
    rw [errV_zero] at HWR
    clear hc hpv hat hk hdn HBK
    go_enter Tryd.func8, Tryd.ntmps8
    go_wp2_with fail
    refine HP.out.mono ?_
    rintro e w' ⟨rfl, hw'⟩
    obtain rfl : w = w' := hw'.symm
    go_wp2_with fail
    refine HWR.out.mono ?_
    rintro e w3 ⟨x, rfl, hx, hb3, hform⟩
    obtain rfl := hx.zero
    have HEND : Hid (BTurned F b (D.set k none) q 0 "detach".toUTF8 (k : Int) 0 w (.returned .nilIface) w3) :=
      BTurned.wrapped (show Bk _ (ext F w _) b _ q from ⟨_, _, HG.out.mono (fun _ hk => .inl hk)⟩) (set_turn (F := F) w ⟨g, k, none⟩ _ HFG.out) hx hb3
    clear hx hb3 hform
    go_wp2
    go_ret
    rw [HE.out.1, HE.out.2]; exact HEND.out
  · have HE : Hid (bdD D q i = D) := by show _ = _; unfold bdD; rw [if_neg hc]
    have hev := errV_code hc
    obtain ⟨a, ha⟩ := poweredV_form D q i
    have HWR := hide (wrap_any "detach".toUTF8 i 0 (lookP D q i) w)
    rw [hev] at HP HWR
    rw [ha] at HP
    clear hev ha hc h
    go_enter Tryd.func8, Tryd.ntmps8
    go_wp2_with fail
    refine HP.out.mono ?_
    rintro e w' ⟨rfl, hw'⟩
    obtain rfl : w = w' := hw'.symm
    go_wp2_with fail
    refine HWR.out.mono ?_
    rintro e w3 ⟨x, rfl, hx, hb3, hform⟩
    have HEND := hide (BTurned.wrapped HBK.out.ext_self (Turn.refl _ _) hx hb3)
    clear hx hb3
    rcases hform with rfl | rfl
    · go_wp2
      go_ret
      rw [HE.out]; exact HEND.out
    · go_wp2
      go_ret
      rw [HE.out]; exact HEND.out
end Go.Proofs.YtliboiajhhnajaaDoor
