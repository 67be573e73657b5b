/- errors.As over a chain of faults around a code: at a fault target it finds the first fault, at a code target the code at the end. -/
import Derived.Test.YtijphfgefnpepaaDoorFacts
import Derived.Below
import Derived.Deep.LoopGhost
namespace Go.Proofs.YtijphfgefnpepaaDoor
open Go.RowKit Go.Extern.Stop Go.Stop Go.Extern

theorem hide {p : Prop} (h : p) : Hid p := h

/-- A link: a word, a device, a place. -/
structure Lk where
  op : ByteArray
  dev : Int
  pl : Int

/-- The error 'e' is, in the world 'w', the faults of the list 'l' around the code 'c'. -/
def Chain (w : World) : List Lk → Int → Value → Prop
  | [], c, e => e = .iface 27 (.int .i64 c)
  | k :: r, c, e => ∃ b e', e = .iface 48 (.pointer (some ⟨b, 0, none⟩)) ∧ w.cell? ⟨b, 0, none⟩ = some (.string k.op) ∧ w.cell? ⟨b, 1, none⟩ = some (.int .i64 k.dev) ∧ w.cell? ⟨b, 2, none⟩ = some (.int .i64 k.pl) ∧ w.cell? ⟨b, 3, none⟩ = some e' ∧ Chain w r c e'

theorem cell_lt {w : World} {a : Addr} {v : Value} (h : w.cell? a = some v) : a.block < w.heap.size := by
  rcases Nat.lt_or_ge a.block w.heap.size with g | g
  · exact g
  · simp [World.cell?, Array.getElem?_eq_none g] at h

theorem Chain.below {w w' : World} (hb : Below w.heap.size w w') : ∀ (l : List Lk) (c : Int) (e : Value), Chain w l c e → Chain w' l c e
  | [], _, _, h => h
  | k :: r, c, e, ⟨b, e', h1, h2, h3, h4, h5, h6⟩ =>
    ⟨b, e', h1, by rw [hb.cell (cell_lt h2)]; exact h2, by rw [hb.cell (cell_lt h3)]; exact h3, by rw [hb.cell (cell_lt h4)]; exact h4, by rw [hb.cell (cell_lt h5)]; exact h5, Chain.below hb r c e' h6⟩

theorem Chain.form {w : World} {l : List Lk} {c : Int} {e : Value} (h : Chain w l c e) : ∃ T x, e = .iface T x := by
  cases l with
  | nil => exact ⟨_, _, h⟩
  | cons k r => obtain ⟨b, e', h1, _⟩ := h; exact ⟨_, _, h1⟩

theorem Chain.alloc {w : World} {l : List Lk} {c : Int} {e : Value} (h : Chain w l c e) (o : Obj) : Chain (w.alloc o) l c e :=
  Chain.below ((Below.refl _ _).alloc (Nat.le_refl _) o) l c e h

/-- (*Fault).Unwrap of a fault that is not nil. -/
theorem unwrap_any (b : Nat) (e' : Value) (w : World) (h : w.cell? ⟨b, 3, none⟩ = some e') (hf : ∃ T x, e' = .iface T x) :
    Calls Tryd.prog 19 #[.pointer (some ⟨b, 0, none⟩)] w fun e w' => e = .returned e' ∧ w' = w := by
  obtain ⟨T, x, rfl⟩ := hf
  go_enter Tryd.func19, Tryd.ntmps19
  go_wp2
  go_ret
  exact ⟨rfl, rfl⟩

set_option maxHeartbeats 1000000 in
theorem as38_code (l : List Lk) (c : Int) (e : Value) (t vb : Addr) (old : Value) (w : World) (hc : Chain w l c e)
    (hv : w.cell? vb = some (.pointer (some t))) (ht : w.cell? t = some old) (hf : w.frozen? t = false) :
    Calls Tryd.prog 38 #[e, .iface 59 (.pointer (some t)), .agg #[.pointer (some ⟨4, 59, none⟩), .pointer (some vb), .int .u64 150], .iface 89 (.agg #[.pointer (some ⟨4, 27, none⟩)])] w
      fun ev w' => ev = .returned (.bool true) ∧ Below t.block w w' ∧ w'.cell? t = some (.int .i64 c) := by
  have h26 := @run_callFunc_extern Tryd.prog 26 _ ReflectliteType.typeOf Tryd.func26 (by kernel_rfl) (by kernel_rfl) (by kernel_rfl) (by kernel_rfl)
  have h81 := @run_callFunc_extern Tryd.prog 81 _ (ReflectliteType.relation "AssignableTo" ReflectliteType.assignableTo) Tryd.func81 (by kernel_rfl) (by kernel_rfl) (by kernel_rfl) (by kernel_rfl)
  have h42 := @run_callFunc_extern Tryd.prog 42 _ (ReflectliteValue.method (ReflectliteValue.valueError "reflectlite.Value.Elem" 0) ReflectliteValue.elem) Tryd.func42 (by kernel_rfl) (by kernel_rfl) (by kernel_rfl) (by kernel_rfl)
  have h35 := @run_callFunc_extern Tryd.prog 35 _ (fun args => ReflectliteValue.unpack (args.getD 0 (.tuple #[]))) Tryd.func35 (by kernel_rfl) (by kernel_rfl) (by kernel_rfl) (by kernel_rfl)
  have h43 := @run_callFunc_extern Tryd.prog 43 _ ReflectliteValue.set Tryd.func43 (by kernel_rfl) (by kernel_rfl) (by kernel_rfl) (by kernel_rfl)
  have f1 := Tryd.typeOf48
  have f2 := Tryd.typeOf27
  have f3 := Tryd.methodAssignableTo
  have f4 := Tryd.assignable48_27
  have f5 := Tryd.assignable27_27
  have f6 := Tryd.noAs48
  have f7 := Tryd.hasUnwrap48
  have f8 := Tryd.methodUnwrap
  have f9 := Tryd.valueOf27
  have htl := cell_lt ht
  have hvl := cell_lt hv
  have hv1 : (w.alloc (.cells #[.pointer (some ⟨4, 59, none⟩), .pointer (some vb), .int .u64 150] 80)).cell? vb = some (.pointer (some t)) := by rw [World.cell?_alloc_lt _ _ vb hvl]; exact hv
  have el := Tryd.elemV59 vb t (w.alloc (.cells #[.pointer (some ⟨4, 59, none⟩), .pointer (some vb), .int .u64 150] 80)) hv1
  have st := Tryd.set27 t ⟨w.heap.size + 1, 0, none⟩ c old ((w.alloc (.cells #[.pointer (some ⟨4, 59, none⟩), .pointer (some vb), .int .u64 150] 80)).alloc (.cells #[.int .i64 c] 27))
    (by rw [World.cell?_alloc_at _ _ _ _ (by simp)]; rfl)
    (by rw [World.cell?_alloc_lt _ _ t (by simp; omega), World.cell?_alloc_lt _ _ t htl]; exact ht)
    (by rw [World.frozen?_alloc_old _ _ t (by simp; omega), World.frozen?_alloc_old _ _ t (Nat.ne_of_lt htl)]; exact hf)
  have hc1 := hc.alloc (.cells #[.pointer (some ⟨4, 59, none⟩), .pointer (some vb), .int .u64 150] 80)
  have HC : Hid (Chain (w.alloc (.cells #[.pointer (some ⟨4, 59, none⟩), .pointer (some vb), .int .u64 150] 80)) l c e) := hc1
  clear hc hc1
  go_enter Tryd.func38, Tryd.ntmps38
  go_wp2
  go_loopg [0] l.length (fun k v wr => wr = w.alloc (.cells #[.pointer (some ⟨4, 59, none⟩), .pointer (some vb), .int .u64 150] 80) ∧ ∃ l', Chain (w.alloc (.cells #[.pointer (some ⟨4, 59, none⟩), .pointer (some vb), .int .u64 150] 80)) l' c v ∧ l'.length = k)
  case atStart => exact ⟨rfl, l, HC.out, rfl⟩
  case round =>
    obtain ⟨rfl, l', hl, rfl⟩ := hrel
    cases l' with
    | nil =>
      have hl' : u0 = .iface 27 (.int .i64 c) := hl
      subst hl'
      clear hl
      go_wp2
      go_ret
      refine ⟨rfl, (((Below.refl _ _).alloc (by omega) _).alloc (by simp; omega) _).setCell (Nat.le_refl _) _, World.cell?_setCell_same _ _ _ (u := old) ?_⟩
      rw [World.cell?_alloc_lt _ _ t (by simp; omega), World.cell?_alloc_lt _ _ t htl]; exact ht
    | cons k r =>
      obtain ⟨b, e', rfl, -, -, -, h5, h6⟩ := hl
      obtain ⟨T, x, hx⟩ := h6.form
      subst hx
      have H6 : Hid (Chain (w.alloc (.cells #[.pointer (some ⟨4, 59, none⟩), .pointer (some vb), .int .u64 150] 80)) r c (.iface T x)) := h6
      clear h6
      go_wp2_with (go_at_call 19; refine (unwrap_any b _ _ h5 ⟨_, _, rfl⟩).mono ?_; rintro e w' ⟨rfl, rfl⟩)
      go_roundg r.length
      case measure => simp
      case rel => exact ⟨rfl, r, H6.out, rfl⟩

set_option maxHeartbeats 1000000 in
theorem as38_fault (e t vb : Addr) (old : Value) (w : World)
    (hv : w.cell? vb = some (.pointer (some t))) (ht : w.cell? t = some old) (hf : w.frozen? t = false) :
    Calls Tryd.prog 38 #[.iface 48 (.pointer (some e)), .iface 87 (.pointer (some t)), .agg #[.pointer (some ⟨4, 87, none⟩), .pointer (some vb), .int .u64 150], .iface 89 (.agg #[.pointer (some ⟨4, 48, none⟩)])] w
      fun ev w' => ev = .returned (.bool true) ∧ Below t.block w w' ∧ w'.cell? t = some (.pointer (some e)) := by
  have h26 := @run_callFunc_extern Tryd.prog 26 _ ReflectliteType.typeOf Tryd.func26 (by kernel_rfl) (by kernel_rfl) (by kernel_rfl) (by kernel_rfl)
  have h81 := @run_callFunc_extern Tryd.prog 81 _ (ReflectliteType.relation "AssignableTo" ReflectliteType.assignableTo) Tryd.func81 (by kernel_rfl) (by kernel_rfl) (by kernel_rfl) (by kernel_rfl)
  have h42 := @run_callFunc_extern Tryd.prog 42 _ (ReflectliteValue.method (ReflectliteValue.valueError "reflectlite.Value.Elem" 0) ReflectliteValue.elem) Tryd.func42 (by kernel_rfl) (by kernel_rfl) (by kernel_rfl) (by kernel_rfl)
  have h35 := @run_callFunc_extern Tryd.prog 35 _ (fun args => ReflectliteValue.unpack (args.getD 0 (.tuple #[]))) Tryd.func35 (by kernel_rfl) (by kernel_rfl) (by kernel_rfl) (by kernel_rfl)
  have h43 := @run_callFunc_extern Tryd.prog 43 _ ReflectliteValue.set Tryd.func43 (by kernel_rfl) (by kernel_rfl) (by kernel_rfl) (by kernel_rfl)
  have f1 := Tryd.typeOf48
  have f3 := Tryd.methodAssignableTo
  have f5 := Tryd.assignable48_48
  have f9 := Tryd.valueOf48
  have htl := cell_lt ht
  have hvl := cell_lt hv
  have hv1 : (w.alloc (.cells #[.pointer (some ⟨4, 87, none⟩), .pointer (some vb), .int .u64 150] 80)).cell? vb = some (.pointer (some t)) := by rw [World.cell?_alloc_lt _ _ vb hvl]; exact hv
  have el := Tryd.elemV87 vb t (w.alloc (.cells #[.pointer (some ⟨4, 87, none⟩), .pointer (some vb), .int .u64 150] 80)) hv1
  have st := Tryd.set48 t ⟨w.heap.size + 1, 0, none⟩ e old ((w.alloc (.cells #[.pointer (some ⟨4, 87, none⟩), .pointer (some vb), .int .u64 150] 80)).alloc (.cells #[.pointer (some e)] 48))
    (by rw [World.cell?_alloc_at _ _ _ _ (by simp)]; rfl)
    (by rw [World.cell?_alloc_lt _ _ t (by simp; omega), World.cell?_alloc_lt _ _ t htl]; exact ht)
    (by rw [World.frozen?_alloc_old _ _ t (by simp; omega), World.frozen?_alloc_old _ _ t (Nat.ne_of_lt htl)]; exact hf)
  go_enter Tryd.func38, Tryd.ntmps38
  go_wp2
  refine wp_loop_rounds 1 ?_
  rw [rounds_succ]
  go_wp2
  go_ret
  refine ⟨rfl, (((Below.refl _ _).alloc (by omega) _).alloc (by simp; omega) _).setCell (Nat.le_refl _) _, World.cell?_setCell_same _ _ _ (u := old) ?_⟩
  rw [World.cell?_alloc_lt _ _ t (by simp; omega), World.cell?_alloc_lt _ _ t htl]; exact ht

set_option maxHeartbeats 1000000 in
theorem as38_none (n : Int) (t vb : Addr) (w : World) :
    Calls Tryd.prog 38 #[.iface 27 (.int .i64 n), .iface 87 (.pointer (some t)), .agg #[.pointer (some ⟨4, 87, none⟩), .pointer (some vb), .int .u64 150], .iface 89 (.agg #[.pointer (some ⟨4, 48, none⟩)])] w
      fun ev w' => ev = .returned (.bool false) ∧ Below w.heap.size w w' := by
  have h26 := @run_callFunc_extern Tryd.prog 26 _ ReflectliteType.typeOf Tryd.func26 (by kernel_rfl) (by kernel_rfl) (by kernel_rfl) (by kernel_rfl)
  have h81 := @run_callFunc_extern Tryd.prog 81 _ (ReflectliteType.relation "AssignableTo" ReflectliteType.assignableTo) Tryd.func81 (by kernel_rfl) (by kernel_rfl) (by kernel_rfl) (by kernel_rfl)
  have f1 := Tryd.typeOf27
  have f3 := Tryd.methodAssignableTo
  have f5 := Tryd.assignable27_48
  have f6 := Tryd.noAs27
  have f7 := Tryd.noUnwrap27
  have f8 := Tryd.noUnwraps27
  go_enter Tryd.func38, Tryd.ntmps38
  go_wp2
  refine wp_loop_rounds 1 ?_
  rw [rounds_succ]
  go_wp2
  go_ret
  exact ⟨rfl, (Below.refl _ _).alloc (Nat.le_refl _) _⟩

end Go.Proofs.YtijphfgefnpepaaDoor
