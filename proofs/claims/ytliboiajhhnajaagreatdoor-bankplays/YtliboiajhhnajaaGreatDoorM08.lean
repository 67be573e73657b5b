import Derived.Test.YtliboiajhhnajaaGreatDoorM06
import Derived.LaidEql
import Derived.Stop.Asserts
import Derived.RowKitTokens
/- Faults around codes: Wrap and errors.Is by their contracts. -/
namespace Go.Proofs.YtliboiajhhnajaaGreatDoor
open Go.RowKit Go.Extern.Stop Go.Stop Go.Extern

theorem Tryz.noIsF (v : Value) (xT : TypeId) (w : World) : (Instr.typeAssert (.iface 98 v) xT 124 true).run Tryz.prog w = .ok (.tuple #[.nilIface, .bool false]) w := run_typeAssert_lacksB Tryz.underlying124 (by kernel_rfl) (by kernel_rfl) v xT w
theorem Tryz.hasUnwrapF (v : Value) (xT : TypeId) (w : World) : (Instr.typeAssert (.iface 98 v) xT 127 true).run Tryz.prog w = .ok (.tuple #[.iface 98 v, .bool true]) w := run_typeAssert_hasB Tryz.underlying127 (by kernel_rfl) v xT w
theorem Tryz.methodUnwrap (h : Value) (w : World) : (Go.method 250 98 h "Unwrap").run Tryz.prog w = .ok (132, h) w := by kernel_rfl
theorem Tryz.eqlOther (v : Value) (b : Int) (w : World) : (binOp .eql 46 (.iface 98 v) (.iface 85 (.int .i64 b))).run Tryz.prog w = .ok (.bool false) w :=
  run_eql_iface_types (P := Tryz.prog) 98 85 v (.int .i64 b) Tryz.underlying46 (by decide) w

/-- The error 'e' is, in the world 'w', a fault with these words around the code 'c'; 0: it is none. -/
def FErr (w : World) (e : Value) (c : Int) (op : ByteArray) (d p : Int) : Prop :=
  if c = 0 then e = .nilIface else ∃ b, e = .iface 98 (.pointer (some ⟨b, 0, none⟩)) ∧ w.heap[b]? = some (.cells #[.string op, .int .i64 d, .int .i64 p, .iface 85 (.int .i64 c)] 100 (0, 0))
theorem FErr.nil0 {w : World} {op : ByteArray} {d p : Int} : FErr w .nilIface 0 op d p := by simp [FErr]
theorem FErr.zero {w : World} {e : Value} {op : ByteArray} {d p : Int} (h : FErr w e 0 op d p) : e = .nilIface := by simpa [FErr] using h
theorem FErr.at_ {w : World} {e : Value} {c : Int} {op : ByteArray} {d p : Int} (h : FErr w e c op d p) (hc : c ≠ 0) : ∃ b, e = .iface 98 (.pointer (some ⟨b, 0, none⟩)) ∧ w.heap[b]? = some (.cells #[.string op, .int .i64 d, .int .i64 p, .iface 85 (.int .i64 c)] 100 (0, 0)) := by
  simpa [FErr, hc] using h
theorem FErr.keep {w w' : World} {e : Value} {c : Int} {op : ByteArray} {d p : Int} (h : FErr w e c op d p) (hk : ∀ b o, e = .iface 98 (.pointer (Option.some ⟨b, 0, Option.none⟩)) → w.heap[b]? = Option.some o → w'.heap[b]? = Option.some o) : FErr w' e c op d p := by
  unfold FErr at *
  split
  · simpa [*] using h
  · rename_i hc
    simp only [hc, if_false] at h
    obtain ⟨b, h1, h2⟩ := h
    exact ⟨b, h1, hk b _ h1 h2⟩
theorem FErr.below {w w' : World} {e : Value} {c : Int} {op : ByteArray} {d p : Int} (h : FErr w e c op d p) (hb : Below w.heap.size w w') : FErr w' e c op d p :=
  h.keep fun b o _ ho => by rw [hb.block b (heap_lt ho)]; exact ho
theorem four_cell {w : World} {b : Nat} {x y z u : Value} {T : TypeId} (h : w.heap[b]? = some (.cells #[x, y, z, u] T (0, 0))) : w.cell? ⟨b, 0, none⟩ = some x ∧ w.cell? ⟨b, 1, none⟩ = some y ∧ w.cell? ⟨b, 2, none⟩ = some z ∧ w.cell? ⟨b, 3, none⟩ = some u := by
  refine ⟨?_, ?_, ?_, ?_⟩ <;> (rw [cell_of_row w b _ _ _ _ h]; rfl)
theorem errV_form (c : Int) : errV c = .nilIface ∨ ∃ T x, errV c = .iface T x := by
  unfold errV
  split
  · exact .inl rfl
  · exact .inr ⟨_, _, rfl⟩

/-- What Wrap leaves. -/
def Wrapped (c : Int) (op : ByteArray) (d p : Int) (w : World) (e : Ending) (w' : World) : Prop := ∃ u, e = .returned u ∧ FErr w' u c op d p ∧ Below w.heap.size w w' ∧ (u = .nilIface ∨ u = .iface 98 (.pointer (some ⟨w.heap.size, 0, none⟩)))
theorem wrap_any (op : ByteArray) (d p : Int) (c : Int) (w : World) : Calls Tryz.prog 38 #[.string op, .int .i64 d, .int .i64 p, errV c] w (Wrapped c op d p w) := by
  by_cases hc : c = 0
  · subst hc
    rw [errV_zero]
    go_enter Tryz.func38, Tryz.ntmps38
    go_wp2
    go_ret
    exact ⟨_, rfl, FErr.nil0, Below.refl _ _, .inl rfl⟩
  · have HC := hide hc
    rw [errV_code hc]
    clear hc
    go_enter Tryz.func38, Tryz.ntmps38
    go_wp2
    go_ret
    refine ⟨_, rfl, ?_, (Below.refl _ _).alloc (Nat.le_refl _) _, .inr rfl⟩
    unfold FErr
    rw [if_neg HC.out]
    exact ⟨_, rfl, heap_alloc_new w _⟩

theorem unwrap_any (b : Nat) (e' : Value) (w : World) (h : w.cell? ⟨b, 3, none⟩ = some e') (hf : ∃ T x, e' = .iface T x) :
    Calls Tryz.prog 132 #[.pointer (some ⟨b, 0, none⟩)] w fun e w' => e = .returned e' ∧ w' = w := by
  obtain ⟨T, x, rfl⟩ := hf
  go_enter Tryz.func132, Tryz.ntmps132
  go_wp2
  go_ret
  exact ⟨rfl, rfl⟩

set_option maxRecDepth 100000 in
set_option maxHeartbeats 1000000 in
theorem eisF_any (c : Int) (b : Nat) (w : World) (h3 : w.cell? ⟨b, 3, none⟩ = some (.iface 85 (.int .i64 c))) :
    Calls Tryz.prog 71 #[.iface 98 (.pointer (some ⟨b, 0, none⟩)), .iface 85 (.int .i64 c), .bool true] w fun ev w' => ev = .returned (.bool true) ∧ w' = w := by
  have f1 := Tryz.eqlCode
  have f2 := Tryz.eqlOther
  have f3 := Tryz.noIsF
  have f4 := Tryz.noIsC
  have f5 := Tryz.hasUnwrapF
  have f8 := Tryz.methodUnwrap
  have hcb : (c == c) = true := by simp
  go_enter Tryz.func71, Tryz.ntmps71
  go_wp2
  go_loopg [0] 1 (fun gk v wr => wr = w ∧ ((gk = 1 ∧ v = .iface 98 (.pointer (some ⟨b, 0, none⟩))) ∨ (gk = 0 ∧ v = .iface 85 (.int .i64 c))))
  case atStart => exact ⟨rfl, .inl ⟨rfl, rfl⟩⟩
  case round =>
    obtain ⟨rfl, ⟨rfl, rfl⟩ | ⟨rfl, rfl⟩⟩ := hrel
    · go_wp2_with (go_at_call 132; refine (unwrap_any b _ _ h3 ⟨_, _, rfl⟩).mono ?_; rintro e w' ⟨rfl, rfl⟩)
      go_roundg 0
      case measure => omega
      case rel => exact ⟨rfl, .inr ⟨rfl, rfl⟩⟩
    · go_wp2
      go_ret
      exact ⟨rfl, rfl⟩

set_option maxRecDepth 100000 in
set_option maxHeartbeats 1000000 in
/-- errors.Is finds the code in a fault around it. -/
theorem errorsIsF_any (c : Int) (e : Value) (op : ByteArray) (d p : Int) (w : World) (hc : c ≠ 0) (h : FErr w e c op d p) :
    Calls Tryz.prog 43 #[e, .iface 85 (.int .i64 c)] w fun ev w' => ev = .returned (.bool true) ∧ w' = w := by
  have h26 := @run_callFunc_extern Tryz.prog 70 _ ReflectliteType.typeOf Tryz.func70 (by kernel_rfl) (by kernel_rfl) (by kernel_rfl) (by kernel_rfl)
  have f1 := Tryz.typeOfC
  have f2 := Tryz.methodComparable
  have f3 := comparableC
  obtain ⟨b, rfl, hb⟩ := h.at_ hc
  have HE := hide (eisF_any c b w (four_cell hb).2.2.2)
  clear h hb hc
  go_enter Tryz.func43, Tryz.ntmps43
  go_wp2_with (go_at_call 71; refine HE.out.mono ?_; rintro e w' ⟨rfl, rfl⟩)
  go_ret
  exact ⟨rfl, rfl⟩
end Go.Proofs.YtliboiajhhnajaaGreatDoor
