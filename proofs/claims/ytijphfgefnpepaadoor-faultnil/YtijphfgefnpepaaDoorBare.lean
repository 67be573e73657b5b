/- What is told of nothing, and of a fault around nothing. -/
import Derived.Test.YtijphfgefnpepaaDoorText
import Derived.Test.YtijphfgefnpepaaDoorPath
namespace Go.Proofs.YtijphfgefnpepaaDoor
open Go.RowKit Go.Extern.Stop Go.Stop Go.Extern

theorem nilEnd : EndOk .nilIface := Or.inl rfl

theorem unwrap_bare (b : Nat) (w : World) (h : w.cell? ⟨b, 3, none⟩ = some .nilIface) :
    Calls Tryd.prog 19 #[.pointer (some ⟨b, 0, none⟩)] w fun e w' => e = .returned .nilIface ∧ w' = w := by
  go_enter Tryd.func19, Tryd.ntmps19
  go_wp2
  go_ret
  exact ⟨rfl, rfl⟩

set_option maxHeartbeats 1000000 in
theorem as38_bare (b : Nat) (t vb : Addr) (w : World) (h : w.cell? ⟨b, 3, none⟩ = some .nilIface) :
    Calls Tryd.prog 38 #[.iface 48 (.pointer (some ⟨b, 0, none⟩)), .iface 59 (.pointer (some t)), .agg #[.pointer (some ⟨4, 59, none⟩), .pointer (some vb), .int .u64 150], .iface 89 (.agg #[.pointer (some ⟨4, 27, none⟩)])] w
      fun ev w' => ev = .returned (.bool false) ∧ Below w.heap.size w w' := by
  have h26 := @run_callFunc_extern Tryd.prog 26 _ ReflectliteType.typeOf Tryd.func26 (by kernel_rfl) (by kernel_rfl) (by kernel_rfl) (by kernel_rfl)
  have h81 := @run_callFunc_extern Tryd.prog 81 _ (ReflectliteType.relation "AssignableTo" ReflectliteType.assignableTo) Tryd.func81 (by kernel_rfl) (by kernel_rfl) (by kernel_rfl) (by kernel_rfl)
  have f1 := Tryd.typeOf48
  have f3 := Tryd.methodAssignableTo
  have f4 := Tryd.assignable48_27
  have f6 := Tryd.noAs48
  have f7 := Tryd.hasUnwrap48
  have f8 := Tryd.methodUnwrap
  have h' := cell_alloc_old h (.cells #[.pointer (some ⟨4, 59, none⟩), .pointer (some vb), .int .u64 150] 80)
  go_enter Tryd.func38, Tryd.ntmps38
  go_wp2
  refine wp_loop_rounds 1 ?_
  rw [rounds_succ]
  go_wp2_with (go_at_call 19; refine (unwrap_bare b _ h').mono ?_; rintro e w' ⟨rfl, rfl⟩)
  go_ret
  exact ⟨rfl, (Below.refl _ _).alloc (Nat.le_refl _) _⟩

set_option maxHeartbeats 1000000 in
theorem as_bare (b : Nat) (t : Addr) (w : World) (h : w.cell? ⟨b, 3, none⟩ = some .nilIface)
    (hg : w.cell? ⟨0, 0, none⟩ = some (.iface 89 (.agg #[.pointer (some ⟨4, 25, none⟩)]))) :
    Calls Tryd.prog 23 #[.iface 48 (.pointer (some ⟨b, 0, none⟩)), .iface 59 (.pointer (some t))] w fun ev w' => ev = .returned (.bool false) ∧ Below w.heap.size w w' := by
  have h35 := @run_callFunc_extern Tryd.prog 35 _ (fun args => ReflectliteValue.unpack (args.getD 0 (.tuple #[]))) Tryd.func35 (by kernel_rfl) (by kernel_rfl) (by kernel_rfl) (by kernel_rfl)
  have h36 := @run_callFunc_extern Tryd.prog 36 _ (ReflectliteValue.methodAny (ReflectliteValue.valueError "reflectlite.Value.Type" 0) (fun t _ _ _ => ReflectliteType.toType t)) Tryd.func36 (by kernel_rfl) (by kernel_rfl) (by kernel_rfl) (by kernel_rfl)
  have h37 := @run_callFunc_extern Tryd.prog 37 _ (ReflectliteValue.method (ReflectliteValue.valueError "reflectlite.Value.IsNil" 0) ReflectliteValue.isNil) Tryd.func37 (by kernel_rfl) (by kernel_rfl) (by kernel_rfl) (by kernel_rfl)
  have h72 := @run_callFunc_extern Tryd.prog 72 _ (ReflectliteType.abiMethod fun t => do pure (.int .u8 (← Rtype.kind t))) Tryd.func72 (by kernel_rfl) (by kernel_rfl) (by kernel_rfl) (by kernel_rfl)
  have h83 := @run_callFunc_extern Tryd.prog 83 _ (ReflectliteType.method ReflectliteType.elem) Tryd.func83 (by kernel_rfl) (by kernel_rfl) (by kernel_rfl) (by kernel_rfl)
  have h84 := @run_callFunc_extern Tryd.prog 84 _ (ReflectliteType.relation "Implements" ReflectliteType.implements_) Tryd.func84 (by kernel_rfl) (by kernel_rfl) (by kernel_rfl) (by kernel_rfl)
  have f1 := Tryd.valueOf59
  have f2 := Tryd.type59
  have f3 := Tryd.methodKind
  have f4 := Tryd.methodElem
  have f5 := Tryd.methodImplements
  have f6 := Tryd.kind59
  have f7 := Tryd.kind27
  have f8 := Tryd.elem59
  have f9 := Tryd.implements27
  have n8 := Tryd.isNil59 ⟨w.heap.size, 0, none⟩ t ((w.alloc (.cells #[.pointer (some t)] 59)).alloc (.cells #[.pointer (some ⟨4, 59, none⟩), .pointer (some ⟨w.heap.size, 0, none⟩), .int .u64 150] 80)) (by simp)
  have hg2 := cell_alloc_old (cell_alloc_old hg (.cells #[.pointer (some t)] 59)) (.cells #[.pointer (some ⟨4, 59, none⟩), .pointer (some ⟨w.heap.size, 0, none⟩), .int .u64 150] 80)
  have HH := hide (as38_bare b t ⟨w.heap.size, 0, none⟩ _ (cell_alloc_old (cell_alloc_old h (.cells #[.pointer (some t)] 59)) (.cells #[.pointer (some ⟨4, 59, none⟩), .pointer (some ⟨w.heap.size, 0, none⟩), .int .u64 150] 80)))
  clear h
  go_enter Tryd.func23, Tryd.ntmps23
  go_wp2_with (go_at_call 38; refine HH.out.mono ?_; rintro e w' ⟨rfl, hb1⟩)
  go_ret
  exact ⟨rfl, ((((Below.refl _ _).alloc (Nat.le_refl _) _).alloc (by simp) _).trans (hb1.mono (by simp; omega)))⟩

theorem codeOf_bare (b : Nat) (w : World) (h : w.cell? ⟨b, 3, none⟩ = some .nilIface) (hL : Laid w) :
    Calls Tryd.prog 11 #[.iface 48 (.pointer (some ⟨b, 0, none⟩))] w fun e w' => e = .returned (.tuple #[.int .i64 0, .bool false]) ∧ Below w.heap.size w w' := by
  have hb0 : Below w.heap.size w (w.alloc (.cells #[.int .i64 0] 27)) := (Below.refl _ _).alloc (Nat.le_refl _) _
  have HA := hide (as_bare b ⟨w.heap.size, 0, none⟩ (w.alloc (.cells #[.int .i64 0] 27)) (cell_alloc_old h _) (hL.below hb0))
  have HB := hide hb0
  clear h hL hb0
  go_enter Tryd.func11, Tryd.ntmps11
  go_wp2_with (go_at_call 23; refine HA.out.mono ?_; rintro e w' ⟨rfl, hb1⟩)
  go_ret2
  exact ⟨rfl, HB.out.trans (hb1.mono (by simp))⟩

theorem isAny_nil (v : Value) (w : World) : Calls Tryd.prog 17 #[.nilIface, v] w fun e w' => e = .returned (.bool false) ∧ Below w.heap.size w w' := by
  go_enter Tryd.func17, Tryd.ntmps17
  go_wp2_with fail
  refine (codeOf_nil w).mono ?_
  rintro e w1 ⟨rfl, hb1⟩
  have HB1 := hide hb1
  clear hb1
  go_wp2
  go_ret
  exact ⟨rfl, HB1.out.alloc HB1.out.size _⟩
end Go.Proofs.YtijphfgefnpepaaDoor
