/- errors.Is of a code, and the statements' own 'is', by their contracts. -/
import Derived.Test.YtjofbehmhdjohaaCore
import Derived.LaidEql
import Derived.Stop.Asserts
import Derived.RowKitTokens
namespace Go.Proofs.Ytjofbehmhdjohaa
open Go.RowKit Go.Extern.Stop Go.Stop Go.Extern

theorem Try.typeOfC (v : Value) (w : World) : (ReflectliteType.typeOf #[.iface 66 v]).run Try.prog w = .ok (.iface 85 (.agg #[.pointer (some ⟨0, 66, none⟩)])) w := by kernel_rfl
theorem Try.methodComparable (h : Value) (w : World) : (Go.method 250 85 (.agg #[h]) "Comparable").run Try.prog w = .ok (69, .agg #[h]) w := by kernel_rfl
theorem comparableC (w : World) : (callFunc 69 #[.agg #[.pointer (some ⟨0, 66, none⟩)]]).run Try.prog w = .ok (.value (.bool true)) w := by kernel_rfl
theorem Try.noIsC (v : Value) (xT : TypeId) (w : World) : (Instr.typeAssert (.iface 66 v) xT 87 true).run Try.prog w = .ok (.tuple #[.nilIface, .bool false]) w := run_typeAssert_lacksB Try.underlying87 (by kernel_rfl) (by kernel_rfl) v xT w
theorem Try.noUnwrapC (v : Value) (xT : TypeId) (w : World) : (Instr.typeAssert (.iface 66 v) xT 90 true).run Try.prog w = .ok (.tuple #[.nilIface, .bool false]) w := run_typeAssert_lacksB Try.underlying90 (by kernel_rfl) (by kernel_rfl) v xT w
theorem Try.noUnwrapsC (v : Value) (xT : TypeId) (w : World) : (Instr.typeAssert (.iface 66 v) xT 92 true).run Try.prog w = .ok (.tuple #[.nilIface, .bool false]) w := run_typeAssert_lacksB Try.underlying92 (by kernel_rfl) (by kernel_rfl) v xT w
theorem Try.compC : (Try.prog.info? 66).map (·.comparable) = some true := by kernel_rfl
theorem run_equalIn_iface_int {P : Program} (w : World) (d : Nat) {ti tn : TypeId} {ms : Array (String × TypeId)} {i : TypeInfo} {k : IntKind} (a b : Int)
    (hi : P.underlying ti = some (.interface ms)) (hn : P.underlying tn = some (.int k)) (hinfo : P.info? tn = some i) (hcomp : i.comparable = true) :
    (Op.equalIn (d + 2) ti (.iface tn (.int k a)) (.iface tn (.int k b))).run P w = .ok (a == b) w := by
  simp [Op.equalIn, run_underlying hi, run_underlying hn, typeInfo, hinfo, hcomp]
theorem run_eql_iface_int {P : Program} (w : World) {ti tn : TypeId} {ms : Array (String × TypeId)} {i : TypeInfo} {k : IntKind} (a b : Int)
    (hi : P.underlying ti = some (.interface ms)) (hn : P.underlying tn = some (.int k)) (hinfo : P.info? tn = some i) (hcomp : i.comparable = true) :
    (binOp .eql ti (.iface tn (.int k a)) (.iface tn (.int k b))).run P w = .ok (.bool (a == b)) w := by
  simp only [binOp]
  simp [Op.equal, Op.maxDepth, run_equalIn_iface_int w 9998 a b hi hn hinfo hcomp]
theorem Try.eqlCode (a b : Int) (w : World) : (binOp .eql 38 (.iface 66 (.int .i64 a)) (.iface 66 (.int .i64 b))).run Try.prog w = .ok (.bool (a == b)) w := by
  obtain ⟨i, hi, hcmp⟩ := Option.map_eq_some_iff.1 Try.compC
  exact run_eql_iface_int w a b Try.underlying38 Try.underlying66 hi hcmp

/-- An error by its number; 0: none. -/
def errV (c : Int) : Value := if c = 0 then .nilIface else .iface 66 (.int .i64 c)
theorem errV_zero : errV 0 = .nilIface := rfl
theorem errV_code {c : Int} (h : c ≠ 0) : errV c = .iface 66 (.int .i64 c) := by simp [errV, h]

set_option maxRecDepth 100000 in
set_option maxHeartbeats 1000000 in
theorem eis_any (c n : Int) (w : World) :
    Calls Try.prog 40 #[.iface 66 (.int .i64 c), .iface 66 (.int .i64 n), .bool true] w fun ev w' => ev = .returned (.bool (c == n)) ∧ w' = w := by
  have f1 := Try.eqlCode
  have f4 := Try.noIsC
  have f6 := Try.noUnwrapC
  have f7 := Try.noUnwrapsC
  go_enter Try.func40, Try.ntmps40
  go_wp2
  go_loopg [0] 0 (fun _ v wr => wr = w ∧ v = .iface 66 (.int .i64 c))
  case atStart => exact ⟨rfl, rfl⟩
  case round =>
    obtain ⟨rfl, rfl⟩ := hrel
    by_cases hcn : c = n
    · have hcb : (c == n) = true := by simp [hcn]
      clear hcn
      go_wp2
      go_ret
      exact ⟨by rw [hcb]; rfl, rfl⟩
    · have hcb : (c == n) = false := by simp [hcn]
      clear hcn
      go_wp2
      go_ret
      exact ⟨by rw [hcb]; rfl, rfl⟩

theorem errorsIs_any (c n : Int) (w : World) :
    Calls Try.prog 34 #[.iface 66 (.int .i64 c), .iface 66 (.int .i64 n)] w fun ev w' => ev = .returned (.bool (c == n)) ∧ w' = w := by
  have h26 := @run_callFunc_extern Try.prog 39 _ ReflectliteType.typeOf Try.func39 (by kernel_rfl) (by kernel_rfl) (by kernel_rfl) (by kernel_rfl)
  have f1 := Try.typeOfC
  have f2 := Try.methodComparable
  have f3 := comparableC
  go_enter Try.func34, Try.ntmps34
  go_wp2_with (go_at_call 40; refine (eis_any c n _).mono ?_; rintro e w' ⟨rfl, rfl⟩)
  go_ret
  exact ⟨rfl, rfl⟩

set_option maxRecDepth 100000 in
theorem is_any (c n : Int) (w : World) :
    Calls Try.prog 16 #[errV c, .int .i64 n] w fun ev w' => ev = .returned (.bool (decide (c = n))) ∧ w' = w := by
  by_cases hc : c = 0
  · subst hc
    rw [errV_zero]
    by_cases hn : n = 0
    · subst hn
      go_enter Try.func16, Try.ntmps16
      go_wp2
      go_ret
      exact ⟨rfl, rfl⟩
    · have hd : decide ((0 : Int) = n) = false := by simp; omega
      rw [hd]
      clear hd
      go_enter Try.func16, Try.ntmps16
      go_wp2
      go_ret
      exact ⟨rfl, rfl⟩
  · rw [errV_code hc]
    by_cases hn : n = 0
    · subst hn
      have hd : decide (c = 0) = false := by simpa using hc
      rw [hd]
      clear hd
      go_enter Try.func16, Try.ntmps16
      go_wp2
      go_ret
      exact ⟨rfl, rfl⟩
    · have HD : Hid ((c == n) = decide (c = n)) := by show _ = _; rw [Bool.eq_iff_iff]; simp
      go_enter Try.func16, Try.ntmps16
      go_wp2_with (go_at_call 34; refine (errorsIs_any c n _).mono ?_; rintro e w' ⟨rfl, rfl⟩)
      go_ret
      exact ⟨by rw [← HD.out]; rfl, rfl⟩
end Go.Proofs.Ytjofbehmhdjohaa
