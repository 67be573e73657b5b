/- Kind by its contract. -/
import Derived.Test.YtlgmfiboekmhkaaDoorGet
namespace Go.Proofs.YtlgmfiboekmhkaaDoor
open Go.RowKit Go.Extern

/-- Is it a frame of whichever kind? -/
def kOk (s : List Nat) : Bool := decide (s.length = 128 ∧ gErr (s.getD 0 0) s = 0)
def kOf (s : List Nat) : Nat := if kOk s then s.getD 0 0 else 0

set_option maxRecDepth 100000 in
set_option maxHeartbeats 400000 in
theorem kind_any (s : List Nat) (v : Value) (w : World) (hL : Laid w) (hv : Bytes w v s) :
    Calls Tryd.prog 19 #[v] w fun e w' => e = .returned (.tuple #[.int .u8 (kOf s : Nat), .bool (kOk s)]) ∧ Below w.heap.size w w' := by
  by_cases hl : s.length = 128
  · have HG := hide (get_any (s.getD 0 0) s v w hL hv)
    have hok : kOk s = decide (gErr (s.getD 0 0) s = 0) := by simp [kOk, hl]
    obtain ⟨g, off, cap, rfl, hc, -, -⟩ := hv.at0 (by omega)
    have g0 : s[0]? = some (s.getD 0 0) := by
      rw [List.getD_eq_getElem?_getD, List.getElem?_eq_getElem (by omega)]; rfl
    have c0 : w.cell? ⟨g, off, none⟩ = some (.int .u8 ((s.getD 0 0 : Nat) : Int)) := hc 0 _ g0
    have HK : Hid (kOf s = if kOk s then s.getD 0 0 else 0) := rfl
    rw [hl] at HG ⊢
    generalize gErr (s.getD 0 0) s = r at *
    generalize gPay (s.getD 0 0) s = pay at *
    generalize s.getD 0 0 = k0 at *
    by_cases hr : r = 0
    · subst hr
      have hok' : kOk s = true := by rw [hok]; rfl
      have hk' : kOf s = k0 := by rw [HK.out, hok']; rfl
      rw [hok', hk']
      clear hok hok' hk' HK hc g0 hl hv hL
      go_enter Tryd.func19, Tryd.ntmps19
      go_wp2_with fail
      refine HG.out.mono ?_
      rintro e w' ⟨u, rfl, ho, hb⟩
      rw [errV_zero]
      have HB := hide hb
      obtain ⟨ao2, n2, cap2, rfl⟩ := ho.form'
      clear ho hb
      go_wp2
      go_ret2
      exact ⟨rfl, HB.out⟩
    · have hok' : kOk s = false := by rw [hok]; simpa using hr
      have hk' : kOf s = 0 := by rw [HK.out, hok']; rfl
      rw [hok', hk']
      clear hok hok' hk' HK hc g0 hl hv hL
      go_enter Tryd.func19, Tryd.ntmps19
      go_wp2_with fail
      refine HG.out.mono ?_
      rintro e w' ⟨u, rfl, ho, hb⟩
      rw [errV_code hr]
      have HB := hide hb
      obtain ⟨ao2, n2, cap2, rfl⟩ := ho.form'
      clear ho hb hr
      go_wp2
      go_ret2
      exact ⟨rfl, HB.out⟩
  · have hok' : kOk s = false := by simp [kOk, hl]
    have hk' : kOf s = 0 := by simp [kOf, hok']
    rw [hok', hk']
    have hl' : ((s.length : Int) != 128) = true := by simp; omega
    obtain ⟨ao, cap, g, off, rfl, -⟩ := hv
    clear hok' hk' hl
    go_enter Tryd.func19, Tryd.ntmps19
    go_wp2
    go_ret2
    exact ⟨rfl, Below.refl _ _⟩
end Go.Proofs.YtlgmfiboekmhkaaDoor
