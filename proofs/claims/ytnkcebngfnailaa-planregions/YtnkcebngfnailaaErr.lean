/- errors.Is of a code, and the statements' own 'is', by their contracts. -/
import Derived.Test.YtnkcebngfnailaaCore
import Derived.LaidEql
import Derived.Stop.Asserts
import Derived.RowKitTokens
namespace Go.Proofs.Ytnkcebngfnailaa
open Go.RowKit Go.Extern.Stop Go.Stop Go.Extern

theorem Try.typeOfC (v : Value) (w : World) : (ReflectliteType.typeOf #[.iface 51 v]).run Try.prog w = .ok (.iface 65 (.agg #[.pointer (some ⟨0, 51, none⟩)])) w := by kernel_rfl
theorem Try.methodComparable (h : Value) (w : World) : (Go.method 250 65 (.agg #[h]) "Comparable").run Try.prog w = .ok (72, .agg #[h]) w := by kernel_rfl
theorem comparableC (w : World) : (callFunc 72 #[.agg #[.pointer (some ⟨0, 51, none⟩)]]).run Try.prog w = .ok (.value (.bool true)) w := by kernel_rfl
theorem Try.noIsC (v : Value) (xT : TypeId) (w : World) : (Instr.typeAssert (.iface 51 v) xT 67 true).run Try.prog w = .ok (.tuple #[.nilIface, .bool false]) w := run_typeAssert_lacksB Try.underlying67 (by kernel_rfl) (by kernel_rfl) v xT w
theorem Try.noUnwrapC (v : Value) (xT : TypeId) (w : World) : (Instr.typeAssert (.iface 51 v) xT 70 true).run Try.prog w = .ok (.tuple #[.nilIface, .bool false]) w := run_typeAssert_lacksB Try.underlying70 (by kernel_rfl) (by kernel_rfl) v xT w
theorem Try.noUnwrapsC (v : Value) (xT : TypeId) (w : World) : (Instr.typeAssert (.iface 51 v) xT 72 true).run Try.prog w = .ok (.tuple #[.nilIface, .bool false]) w := run_typeAssert_lacksB Try.underlying72 (by kernel_rfl) (by kernel_rfl) v xT w
theorem Try.compC : (Try.prog.info? 51).map (·.comparable) = some true := by kernel_rfl
theorem run_equalIn_iface_int {P : Program} (w : World) (d : Nat) {ti tn : TypeId} {ms : Array (String × TypeId)} {i : TypeInfo} {k : IntKind} (a b : Int)
    (hi : P.underlying ti = some (.interface ms)) (hn : P.underlying tn = some (.int k)) (hinfo : P.info? tn = some i) (hcomp : i.comparable = true) :
    (Op.equalIn (d + 2) ti (.iface tn (.int k a)) (.iface tn (.int k b))).run P w = .ok (a == b) w := by
  simp [Op.equalIn, run_underlying hi, run_underlying hn, typeInfo, hinfo, hcomp]
theorem run_eql_iface_int {P : Program} (w : World) {ti tn : TypeId} {ms : Array (String × TypeId)} {i : TypeInfo} {k : IntKind} (a b : Int)
    (hi : P.underlying ti = some (.interface ms)) (hn : P.underlying tn = some (.int k)) (hinfo : P.info? tn = some i) (hcomp : i.comparable = true) :
    (binOp .eql ti (.iface tn (.int k a)) (.iface tn (.int k b))).run P w = .ok (.bool (a == b)) w := by
  simp only [binOp]
  simp [Op.equal, Op.maxDepth, run_equalIn_iface_int w 9998 a b hi hn hinfo hcomp]
theorem Try.eqlCode (a b : Int) (w : World) : (binOp .eql 26 (.iface 51 (.int .i64 a)) (.iface 51 (.int .i64 b))).run Try.prog w = .ok (.bool (a == b)) w := by
  obtain ⟨i, hi, hcmp⟩ := Option.map_eq_some_iff.1 Try.compC
  exact run_eql_iface_int w a b Try.underlying26 Try.underlying51 hi hcmp

/-- An error by its number; 0: none. -/
def errV (c : Int) : Value := if c = 0 then .nilIface else .iface 51 (.int .i64 c)
theorem errV_zero : errV 0 = .nilIface := rfl
theorem errV_code {c : Int} (h : c ≠ 0) : errV c = .iface 51 (.int .i64 c) := by simp [errV, h]

set_option maxRecDepth 100000 in
set_option maxHeartbeats 1000000 in
theorem eis_any (c n : Int) (w : World) :
    Calls Try.prog 29 #[.iface 51 (.int .i64 c), .iface 51 (.int .i64 n), .bool true] w fun ev w' => ev = .returned (.bool (c == n)) ∧ w' = w := by
  have f1 := Try.eqlCode
  have f4 := Try.noIsC
  have f6 := Try.noUnwrapC
  have f7 := Try.noUnwrapsC
  go_enter Try.func29, Try.ntmps29
  go_wp2
  go_loopg [0] 0 (fun _ v wr => wr = w ∧ v = .iface 51 (.int .i64 c))
  case atStart => exact ⟨rfl, rfl⟩
  case round =>
    obtain ⟨rfl, rfl⟩ := hrel
    by_cases hcn : c = n
    · have hcb : (c == n) = true := by simp [hcn]
      clear hcn
      go_wp2
      go_ret
      exact ⟨by rw [hcb]; rfl, rfl⟩
    · have hcb : (c == n) = false := by simp [hcn]
      clear hcn
      go_wp2
      go_ret
      exact ⟨by rw [hcb]; rfl, rfl⟩

theorem errorsIs_any (c n : Int) (w : World) :
    Calls Try.prog 24 #[.iface 51 (.int .i64 c), .iface 51 (.int .i64 n)] w fun ev w' => ev = .returned (.bool (c == n)) ∧ w' = w := by
  have h26 := @run_callFunc_extern Try.prog 28 _ ReflectliteType.typeOf Try.func28 (by kernel_rfl) (by kernel_rfl) (by kernel_rfl) (by kernel_rfl)
  have f1 := Try.typeOfC
  have f2 := Try.methodComparable
  have f3 := comparableC
  go_enter Try.func24, Try.ntmps24
  go_wp2_with (go_at_call 29; refine (eis_any c n _).mono ?_; rintro e w' ⟨rfl, rfl⟩)
  go_ret
  exact ⟨rfl, rfl⟩

set_option maxRecDepth 100000 in
theorem is_any (c n : Int) (w : World) :
    Calls Try.prog 13 #[errV c, .int .i64 n] w fun ev w' => ev = .returned (.bool (decide (c = n))) ∧ w' = w := by
  by_cases hc : c = 0
  · subst hc
    rw [errV_zero]
    by_cases hn : n = 0
    · subst hn
      go_enter Try.func13, Try.ntmps13
      go_wp2
      go_ret
      exact ⟨rfl, rfl⟩
    · have hd : decide ((0 : Int) = n) = false := by simp; omega
      rw [hd]
      clear hd
      go_enter Try.func13, Try.ntmps13
      go_wp2
      go_ret
      exact ⟨rfl, rfl⟩
  · rw [errV_code hc]
    by_cases hn : n = 0
    · subst hn
      have hd : decide (c = 0) = false := by simpa using hc
      rw [hd]
      clear hd
      go_enter Try.func13, Try.ntmps13
      go_wp2
      go_ret
      exact ⟨rfl, rfl⟩
    · have HD : Hid ((c == n) = decide (c = n)) := by show _ = _; rw [Bool.eq_iff_iff]; simp
      go_enter Try.func13, Try.ntmps13
      go_wp2_with (go_at_call 24; refine (errorsIs_any c n _).mono ?_; rintro e w' ⟨rfl, rfl⟩)
      go_ret
      exact ⟨by rw [← HD.out]; rfl, rfl⟩
end Go.Proofs.Ytnkcebngfnailaa
