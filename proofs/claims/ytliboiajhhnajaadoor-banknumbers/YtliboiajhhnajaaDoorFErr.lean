/- Faults around codes: Wrap and errors.Is by their contracts. -/
import Derived.Test.YtliboiajhhnajaaDoorGrow
import Derived.LaidEql
import Derived.Stop.Asserts
import Derived.RowKitTokens
namespace Go.Proofs.YtliboiajhhnajaaDoor
open Go.RowKit Go.Extern.Stop Go.Stop Go.Extern

theorem Tryd.noIsF (v : Value) (xT : TypeId) (w : World) : (Instr.typeAssert (.iface 48 v) xT 66 true).run Tryd.prog w = .ok (.tuple #[.nilIface, .bool false]) w := run_typeAssert_lacksB Tryd.underlying66 (by kernel_rfl) (by kernel_rfl) v xT w
theorem Tryd.hasUnwrapF (v : Value) (xT : TypeId) (w : World) : (Instr.typeAssert (.iface 48 v) xT 69 true).run Tryd.prog w = .ok (.tuple #[.iface 48 v, .bool true]) w := run_typeAssert_hasB Tryd.underlying69 (by kernel_rfl) v xT w
theorem Tryd.methodUnwrap (h : Value) (w : World) : (Go.method 250 48 h "Unwrap").run Tryd.prog w = .ok (52, h) w := by kernel_rfl
theorem Tryd.eqlOther (v : Value) (b : Int) (w : World) : (binOp .eql 27 (.iface 48 v) (.iface 46 (.int .i64 b))).run Tryd.prog w = .ok (.bool false) w :=
  run_eql_iface_types (P := Tryd.prog) 48 46 v (.int .i64 b) Tryd.underlying27 (by decide) w

/-- The error 'e' is, in the world 'w', a fault with these words around the code 'c'; 0: it is none. -/
def FErr (w : World) (e : Value) (c : Int) (op : ByteArray) (d p : Int) : Prop :=
  if c = 0 then e = .nilIface else ∃ b, e = .iface 48 (.pointer (some ⟨b, 0, none⟩)) ∧ w.heap[b]? = some (.cells #[.string op, .int .i64 d, .int .i64 p, .iface 46 (.int .i64 c)] 50 (0, 0))
theorem FErr.nil0 {w : World} {op : ByteArray} {d p : Int} : FErr w .nilIface 0 op d p := by simp [FErr]
theorem FErr.zero {w : World} {e : Value} {op : ByteArray} {d p : Int} (h : FErr w e 0 op d p) : e = .nilIface := by simpa [FErr] using h
theorem FErr.at_ {w : World} {e : Value} {c : Int} {op : ByteArray} {d p : Int} (h : FErr w e c op d p) (hc : c ≠ 0) : ∃ b, e = .iface 48 (.pointer (some ⟨b, 0, none⟩)) ∧ w.heap[b]? = some (.cells #[.string op, .int .i64 d, .int .i64 p, .iface 46 (.int .i64 c)] 50 (0, 0)) := by
  simpa [FErr, hc] using h
theorem FErr.keep {w w' : World} {e : Value} {c : Int} {op : ByteArray} {d p : Int} (h : FErr w e c op d p) (hk : ∀ b o, e = .iface 48 (.pointer (Option.some ⟨b, 0, Option.none⟩)) → w.heap[b]? = Option.some o → w'.heap[b]? = Option.some o) : FErr w' e c op d p := by
  unfold FErr at *
  split
  · simpa [*] using h
  · rename_i hc
    simp only [hc, if_false] at h
    obtain ⟨b, h1, h2⟩ := h
    exact ⟨b, h1, hk b _ h1 h2⟩
theorem FErr.below {w w' : World} {e : Value} {c : Int} {op : ByteArray} {d p : Int} (h : FErr w e c op d p) (hb : Below w.heap.size w w') : FErr w' e c op d p :=
  h.keep fun b o _ ho => by rw [hb.block b (heap_lt ho)]; exact ho
theorem four_cell {w : World} {b : Nat} {x y z u : Value} {T : TypeId} (h : w.heap[b]? = some (.cells #[x, y, z, u] T (0, 0))) : w.cell? ⟨b, 0, none⟩ = some x ∧ w.cell? ⟨b, 1, none⟩ = some y ∧ w.cell? ⟨b, 2, none⟩ = some z ∧ w.cell? ⟨b, 3, none⟩ = some u := by
  refine ⟨?_, ?_, ?_, ?_⟩ <;> (rw [cell_of_row w b _ _ _ _ h]; rfl)
theorem errV_form (c : Int) : errV c = .nilIface ∨ ∃ T x, errV c = .iface T x := by
  unfold errV
  split
  · exact .inl rfl
  · exact .inr ⟨_, _, rfl⟩

/-- What Wrap leaves. -/
def Wrapped (c : Int) (op : ByteArray) (d p : Int) (w : World) (e : Ending) (w' : World) : Prop := ∃ u, e = .returned u ∧ FErr w' u c op d p ∧ Below w.heap.size w w' ∧ (u = .nilIface ∨ u = .iface 48 (.pointer (some ⟨w.heap.size, 0, none⟩)))
theorem wrap_any (op : ByteArray) (d p : Int) (c : Int) (w : World) : Calls Tryd.prog 11 #[.string op, .int .i64 d, .int .i64 p, errV c] w (Wrapped c op d p w) := by
  by_cases hc : c = 0
  · subst hc
    rw [errV_zero]
    go_enter Tryd.func11, Tryd.ntmps11
    go_wp2
    go_ret
    exact ⟨_, rfl, FErr.nil0, Below.refl _ _, .inl rfl⟩
  · have HC := hide hc
    rw [errV_code hc]
    clear hc
    go_enter Tryd.func11, Tryd.ntmps11
    go_wp2
    go_ret
    refine ⟨_, rfl, ?_, (Below.refl _ _).alloc (Nat.le_refl _) _, .inr rfl⟩
    unfold FErr
    rw [if_neg HC.out]
    exact ⟨_, rfl, heap_alloc_new w _⟩

theorem unwrap_any (b : Nat) (e' : Value) (w : World) (h : w.cell? ⟨b, 3, none⟩ = some e') (hf : ∃ T x, e' = .iface T x) :
    Calls Tryd.prog 52 #[.pointer (some ⟨b, 0, none⟩)] w fun e w' => e = .returned e' ∧ w' = w := by
  obtain ⟨T, x, rfl⟩ := hf
  go_enter Tryd.func52, Tryd.ntmps52
  go_wp2
  go_ret
  exact ⟨rfl, rfl⟩

set_option maxRecDepth 100000 in
set_option maxHeartbeats 1000000 in
theorem eisF_any (c : Int) (b : Nat) (w : World) (h3 : w.cell? ⟨b, 3, none⟩ = some (.iface 46 (.int .i64 c))) :
    Calls Tryd.prog 21 #[.iface 48 (.pointer (some ⟨b, 0, none⟩)), .iface 46 (.int .i64 c), .bool true] w fun ev w' => ev = .returned (.bool true) ∧ w' = w := by
  have f1 := Tryd.eqlCode
  have f2 := Tryd.eqlOther
  have f3 := Tryd.noIsF
  have f4 := Tryd.noIsC
  have f5 := Tryd.hasUnwrapF
  have f8 := Tryd.methodUnwrap
  have hcb : (c == c) = true := by simp
  go_enter Tryd.func21, Tryd.ntmps21
  go_wp2
  go_loopg [0] 1 (fun gk v wr => wr = w ∧ ((gk = 1 ∧ v = .iface 48 (.pointer (some ⟨b, 0, none⟩))) ∨ (gk = 0 ∧ v = .iface 46 (.int .i64 c))))
  case atStart => exact ⟨rfl, .inl ⟨rfl, rfl⟩⟩
  case round =>
    obtain ⟨rfl, ⟨rfl, rfl⟩ | ⟨rfl, rfl⟩⟩ := hrel
    · go_wp2_with (go_at_call 52; refine (unwrap_any b _ _ h3 ⟨_, _, rfl⟩).mono ?_; rintro e w' ⟨rfl, rfl⟩)
      go_roundg 0
      case measure => omega
      case rel => exact ⟨rfl, .inr ⟨rfl, rfl⟩⟩
    · go_wp2
      go_ret
      exact ⟨rfl, rfl⟩

set_option maxRecDepth 100000 in
set_option maxHeartbeats 1000000 in
/-- errors.Is finds the code in a fault around it. -/
theorem errorsIsF_any (c : Int) (e : Value) (op : ByteArray) (d p : Int) (w : World) (hc : c ≠ 0) (h : FErr w e c op d p) :
    Calls Tryd.prog 14 #[e, .iface 46 (.int .i64 c)] w fun ev w' => ev = .returned (.bool true) ∧ w' = w := by
  have h26 := @run_callFunc_extern Tryd.prog 20 _ ReflectliteType.typeOf Tryd.func20 (by kernel_rfl) (by kernel_rfl) (by kernel_rfl) (by kernel_rfl)
  have f1 := Tryd.typeOfC
  have f2 := Tryd.methodComparable
  have f3 := comparableC
  obtain ⟨b, rfl, hb⟩ := h.at_ hc
  have HE := hide (eisF_any c b w (four_cell hb).2.2.2)
  clear h hb hc
  go_enter Tryd.func14, Tryd.ntmps14
  go_wp2_with (go_at_call 21; refine HE.out.mono ?_; rintro e w' ⟨rfl, rfl⟩)
  go_ret
  exact ⟨rfl, rfl⟩
end Go.Proofs.YtliboiajhhnajaaDoor
