/- Keys of this program's maps: numbers, and owners. -/
import Derived.Test.YtjopdejgijojmaaMp
import Derived.DeepKeys5
namespace Go.Proofs.Ytjopdejgijojmaa
open Go.RowKit Go.Extern

/-- An owner: its volume and its block. -/
abbrev Own := Int × Int
def OkO (o : Own) : Prop := I64 o.1 ∧ I64 o.2
def encI (k : Int) : Value := .int .i64 k
def encO (o : Own) : Value := .agg #[.int .i64 o.1, .int .i64 o.2]
theorem encI_inj {a b : Int} (h : encI a = encI b) : a = b := by unfold encI at h; injection h
theorem encO_inj {a b : Own} (h : encO a = encO b) : a = b := by
  unfold encO at h
  simp at h
  exact Prod.ext h.1 h.2
theorem laidOut : laidOutB Try.prog = true := by kernel_rfl
theorem lawI : Maps.Keyed Try.prog 3 := Maps.int_keyed Try.underlying3
theorem lawO : Maps.Keyed Try.prog 35 := Maps.Keyed.of_law (deep_law_laid laidOut (m := 2) (by omega) (of_decide_eq_true (by kernel_rfl)) (by kernel_rfl) (by kernel_rfl))
theorem typesO : Try.prog.keyType 35 = true := by kernel_rfl
theorem sizeTypes : Try.prog.types.size = 176 := by kernel_rfl
theorem formedO (o : Own) : (encO o).formed Try.prog 35 = true := by kernel_rfl
theorem cellsO : Try.prog.cellsOf 35 = 2 := by kernel_rfl
theorem cellsI : Try.prog.cellsOf 3 = 1 := by kernel_rfl
theorem litsI {n : Nat} {k : Int} (h : I64 k) : Try.prog.keyLits (n + 1) 3 [.int .i64 k] = some [.int .i64 k] := by
  simp [Program.keyLits, Try.underlying3, h.wf]
theorem litsO {n : Nat} {o : Own} (h : OkO o) : Try.prog.keyLits (n + 2) 35 [.int .i64 o.1, .int .i64 o.2] = some [.int .i64 o.1, .int .i64 o.2] := by
  unfold Program.keyLits
  simp [Try.underlying35, cellsO, cellsI, litsI h.1, litsI h.2]
theorem keyO {o : Own} (h : OkO o) : ∃ kl, keyOf Try.prog 35 (encO o) = some kl := by
  have e : (encO o).cells.toList = [.int .i64 o.1, .int .i64 o.2] := rfl
  unfold keyOf
  simp only [Try.underlying35, typesO, formedO, e, sizeTypes, litsO (n := 176 - 1) h]
  exact ⟨_, rfl⟩
theorem KI : KeyE Try.prog 3 encI I64 := ⟨lawI, fun h => ⟨_, Maps.keyOf_int_mk Try.underlying3 h.wf⟩, encI_inj⟩
theorem KO : KeyE Try.prog 35 encO OkO := ⟨lawO, fun h => keyO h, encO_inj⟩
end Go.Proofs.Ytjopdejgijojmaa
