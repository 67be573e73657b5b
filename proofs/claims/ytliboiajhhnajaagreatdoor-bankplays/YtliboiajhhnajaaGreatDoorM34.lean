import Derived.Test.YtliboiajhhnajaaGreatDoorM09
import Derived.Test.YtliboiajhhnajaaGreatDoorM31
import Derived.Deep.DeepCutAuto
import Derived.Test.YtliboiajhhnajaaGreatDoorM33
import Derived.Test.YtliboiajhhnajaaGreatDoorM18
/- Where, Path and 'told' of one fault around a code, by their contracts. -/
namespace Go.Proofs.YtliboiajhhnajaaGreatDoor
open Go.RowKit Go.Extern.Stop Go.Stop Go.Extern

theorem infoStr : (Tryz.prog.info? 9).map (fun i => (i.zero, i.size, i.bytes)) = some (some (.string ⟨#[]⟩), 1, 16) := by kernel_rfl
theorem append_str (w : World) (B : Nat) (hB : B ≤ w.heap.size) (op : ByteArray) :
    ∃ v' w', (Builtin.append_ #[82, 82] 82 #[.slice none 0 0, .slice (some ⟨w.heap.size, 0, none⟩) 1 1]).run Tryz.prog (w.alloc (.cells #[.string op] 9)) = .ok v' w' ∧ w'.ownsRow B 9 1 v' 1 [.string op] ∧ Below B w w' ∧ ∃ ao n c, v' = .slice ao n c := by
  obtain ⟨i0, hi, hz0, hz1, hz2⟩ := info_parts infoStr
  obtain ⟨v', w', hr, ho, hg, -, hat⟩ := run_append_own_at (P := Tryz.prog) (w.alloc (.cells #[.string op] 9)) B 82 82 9 i0 (.string ⟨#[]⟩) 1 16 Tryz.underlying82 hi hz0 hz1 hz2 rfl (by decide) (.slice none 0 0) 0 [] (World.ownsRow_nil _ _ _ _) ⟨w.heap.size, 0, none⟩ 1 1 [.string op] (by simp)
    (fun j u hj => by
      match j, hj with
      | 0, hj =>
        obtain rfl : Value.string op = u := by simpa using hj
        rw [Addr.add_mid, cell_of_row _ _ _ _ _ _ (heap_alloc_new w _)]; rfl) (by simp [Value.oneCell']) (by unfold maxLen; omega) (by omega) (by simp; omega)
  obtain ⟨ao', cap', hf⟩ := ownsRow_form ho
  refine ⟨v', w', hr, ho, ((Below.refl B w).alloc hB _).grown hg (by simp; omega) (fun k hk => by simp [Value.ownBlock] at hk), ⟨_, _, _, hf⟩⟩
theorem wpList_appendT {w w' : World} {ops : Array Oper} {rest : List Oper} {o : Oper} {a : Act} {Q : Exit → Act → World → Prop} {x y : Operand} {v xv yv : Value} (hgd : o.guard = none) (ho : o.op = .call { callee := .builtin .append, args := #[x, y], argTypes := #[82, 82] })
    (hr : (Builtin.append_ #[82, 82] 82 #[xv, yv]).run Tryz.prog w = .ok v w') (hty : o.type = 82) (hx : a.eval x = xv) (hy : a.eval y = yv)
    (h : wpList Tryz.prog ops Q rest (a.put o.dst v) w') : wpList Tryz.prog ops Q (o :: rest) a w :=
  wpList_exec hgd (exec_append ho (by rw [hty]; exact hr) hx hy) h
theorem where1_any (b : Nat) (op : ByteArray) (d p c : Int) (w : World) (h : w.heap[b]? = some (.cells #[.string op, .int .i64 d, .int .i64 p, .iface 85 (.int .i64 c)] 100 (0, 0))) (hL : Laid w) :
    Calls Tryz.prog 41 #[.iface 98 (.pointer (some ⟨b, 0, none⟩))] w fun ev w' => ev = .returned (.tuple #[.int .i64 d, .int .i64 p, .bool true]) ∧ Below w.heap.size w w' := by
  have HA := hide (first_fault ⟨b, 0, none⟩ w hL)
  have HC := hide (four_cell h)
  clear h hL
  go_enter Tryz.func41, Tryz.ntmps41
  go_wp2_with fail
  refine HA.out.mono ?_
  rintro ev w1 ⟨rfl, hb1⟩
  have HW := hide (where_some b d p w1 (by rw [hb1.cell (cell_lt HC.out.2.1)]; exact HC.out.2.1) (by rw [hb1.cell (cell_lt HC.out.2.2.1)]; exact HC.out.2.2.1))
  have HB := hide hb1
  clear hb1
  go_wp2_with fail
  refine HW.out.mono ?_
  rintro ev w2 ⟨rfl, hb2⟩
  have HB2 := hide hb2
  clear hb2
  go_wp2
  go_ret3
  exact ⟨rfl, HB.out.trans (HB2.out.mono HB.out.size)⟩

set_option maxRecDepth 100000 in
set_option maxHeartbeats 1000000 in
theorem path1_any (b : Nat) (op : ByteArray) (d p c : Int) (w : World) (h : w.heap[b]? = some (.cells #[.string op, .int .i64 d, .int .i64 p, .iface 85 (.int .i64 c)] 100 (0, 0))) (hL : Laid w) :
    Calls Tryz.prog 42 #[.iface 98 (.pointer (some ⟨b, 0, none⟩))] w fun ev w' => ∃ v, ev = .returned v ∧ w'.ownsRow w.heap.size 9 1 v 1 [.string op] ∧ Below w.heap.size w w' := by
  have HA := hide (first_fault ⟨b, 0, none⟩ w hL)
  have HC := hide (four_cell h)
  have HL := hide hL
  clear h hL
  go_enter Tryz.func42, Tryz.ntmps42
  go_wp2_with fail
  refine HA.out.mono ?_
  rintro ev w1 ⟨rfl, hb1⟩
  have HB := hide hb1
  clear hb1
  go_wp2
  go_loopg [3, 4] 1 (fun gk n q wr => Below w.heap.size w wr ∧ ((gk = 1 ∧ n = .slice none 0 0 ∧ q = .pointer (some ⟨b, 0, none⟩)) ∨ (gk = 0 ∧ q = .pointer none ∧ wr.ownsRow w.heap.size 9 1 n 1 [.string op])))
  case atStart => exact ⟨HB.out, .inl ⟨rfl, rfl, rfl⟩⟩
  case round =>
    clear HB HA
    obtain ⟨hb, ⟨rfl, rfl, rfl⟩ | ⟨rfl, rfl, hown⟩⟩ := hrel
    · have HBr := hide hb
      have g0 : wr.cell? ⟨b, 0, none⟩ = some (.string op) := by rw [hb.cell (cell_lt HC.out.1)]; exact HC.out.1
      obtain ⟨v2, w2, hr2, hown2, hbb, ⟨ao2, n2, c2, rfl⟩⟩ := append_str wr w.heap.size hb.size op
      have hb2 := hb.trans hbb
      have HB2 := hide hb2
      have HO2 := hide hown2
      clear hb hbb hown2
      have g3 : w2.cell? ⟨b, 3, none⟩ = some (.iface 85 (.int .i64 c)) := by rw [hb2.cell (cell_lt HC.out.2.2.2)]; exact HC.out.2.2.2
      have HF := hide (first_code c w2 (by have := HL.out; unfold Laid at *; rw [hb2.cell (cell_lt this)]; exact this))
      clear hb2
      go_wp2_with (first | ((with_reducible refine wpList_appendT rfl rfl hr2 ?_ ?_ ?_ ?_); rfl; rfl; rfl))
      refine HF.out.mono ?_
      rintro ev w3 ⟨rfl, hb3⟩
      have HB3 := hide hb3
      clear hb3 HF g3
      go_wp2
      go_roundg 0
      case measure => omega
      case rel => exact ⟨HB2.out.trans (HB3.out.mono HB2.out.size), .inr ⟨rfl, rfl, ownsRow_of_block HO2.out (fun k o _ ho => by rw [HB3.out.block k (heap_lt ho)]; exact ho)⟩⟩
    · have HBr := hide hb
      have HO := hide hown
      obtain ⟨ao, cap, rfl⟩ := ownsRow_form hown
      clear hb hown
      go_wp2
      go_ret
      exact ⟨_, rfl, HO.out, HBr.out⟩

theorem eqlStr (s : ByteArray) (w : World) : (binOp .eql 9 (.string s) (.string s)).run Tryz.prog w = .ok (.bool true) w := by
  simp [binOp, Op.stringOp]
set_option maxRecDepth 100000 in
set_option maxHeartbeats 1000000 in
theorem told_any {w : World} {e : Value} {c : Int} {op : ByteArray} {d p : Int} (h : FErr w e c op d p) (hL : Laid w) :
    Calls Tryz.prog 14 #[e, .int .i64 c, .string op, .int .i64 d, .int .i64 p] w fun ev w' => ev = .returned (.bool true) ∧ Below w.heap.size w w' := by
  by_cases hc : c = 0
  · subst hc
    obtain rfl := h.zero
    clear h hL
    go_enter Tryz.func14, Tryz.ntmps14
    go_wp2
    go_ret
    exact ⟨rfl, Below.refl _ _⟩
  · have hcb : (c == 0) = false := by simpa using hc
    have HE := hide h
    obtain ⟨b, rfl, hb⟩ := h.at_ hc
    have HB := hide hb
    have HL := hide hL
    have HC := hide hc
    have HW := hide (where1_any b op d p c w hb hL)
    have k1 : (d == d) = true := by simp
    have k2 : (p == p) = true := by simp
    have k3 := eqlStr op
    clear h hL hb hc
    go_enter Tryz.func14, Tryz.ntmps14
    go_wp2_with fail
    refine HW.out.mono ?_
    rintro ev w1 ⟨rfl, hb1⟩
    have HB1 := hide hb1
    have HP := hide (path1_any b op d p c w1 (by rw [hb1.block b (heap_lt HB.out)]; exact HB.out) (HL.out.below hb1))
    clear hb1 HW
    go_wp2_with fail
    refine HP.out.mono ?_
    rintro ev w2 ⟨v, rfl, hv, hb2⟩
    have HB2 := hide (HB1.out.trans (hb2.mono HB1.out.size))
    have HIS := hide (errorsIsF_any c _ op d p w2 HC.out (HE.out.below HB2.out))
    obtain ⟨g, cap, cur, rfl, -⟩ := ownsRow_pos hv (by omega)
    have c0 : w2.cell? ⟨g, 0, none⟩ = some (.string op) := row_cell hv (j := 0) rfl
    clear hv hb2 HP HE HC
    go_wp2_with fail
    refine HIS.out.mono ?_
    rintro ev w' ⟨rfl, hww⟩
    obtain rfl : w2 = w' := hww.symm
    clear HIS
    go_wp2
    go_ret
    exact ⟨rfl, HB2.out⟩
end Go.Proofs.YtliboiajhhnajaaGreatDoor

/- What the statements' regions need: fields of an op, calls that are entered. -/
namespace Go.Proofs.YtliboiajhhnajaaGreatDoor
open Go.RowKit Go.Extern

theorem opField1 (b : Nat) (w : World) : (Instr.fieldAt 31 (.pointer (some ⟨b, 0, none⟩)) 1).run Tryz.prog w = .ok (.pointer (some ⟨b, 1, none⟩)) w := by kernel_rfl
theorem opField2 (b : Nat) (w : World) : (Instr.fieldAt 31 (.pointer (some ⟨b, 0, none⟩)) 2).run Tryz.prog w = .ok (.pointer (some ⟨b, 2, none⟩)) w := by kernel_rfl
theorem opField3 (b : Nat) (w : World) : (Instr.fieldAt 31 (.pointer (some ⟨b, 0, none⟩)) 3).run Tryz.prog w = .ok (.pointer (some ⟨b, 3, none⟩)) w := by kernel_rfl
theorem opField4 (b : Nat) (w : World) : (Instr.fieldAt 31 (.pointer (some ⟨b, 0, none⟩)) 4).run Tryz.prog w = .ok (.pointer (some ⟨b, 4, none⟩)) w := by kernel_rfl
theorem opField5 (b : Nat) (w : World) : (Instr.fieldAt 31 (.pointer (some ⟨b, 0, none⟩)) 5).run Tryz.prog w = .ok (.pointer (some ⟨b, 5, none⟩)) w := by kernel_rfl
theorem exec_call4 {ρ : Operand → Value} {o : Oper} {w : World} {f : FuncId} {x y z u : Operand} {ts : Array TypeId} {xv yv zv uv : Value} (ho : o.op = .call { callee := .value (.func f), args := #[x, y, z, u], argTypes := ts }) (hcf : ∀ (args : Array Value) (w : World), (callFunc f args).run Tryz.prog w = .ok (.enter f args) w) (hf : ρ (.func f) = .func (.func f) #[] #[]) (hx : ρ x = xv) (hy : ρ y = yv) (hz : ρ z = zv) (hu : ρ u = uv) : (execOp ρ o).run Tryz.prog w = .ok (.enter f #[xv, yv, zv, uv]) w := by
  unfold execOp; simp [ho, resolve, Deferred.ofValue, invoke, hf, hx, hy, hz, hu, hcf]
theorem enterBWrite (args : Array Value) (w : World) : (callFunc 22 args).run Tryz.prog w = .ok (.enter 22 args) w := by kernel_rfl
theorem enterBBad (args : Array Value) (w : World) : (callFunc 29 args).run Tryz.prog w = .ok (.enter 29 args) w := by kernel_rfl
theorem enterBFill (args : Array Value) (w : World) : (callFunc 31 args).run Tryz.prog w = .ok (.enter 31 args) w := by kernel_rfl
theorem exec_gtr0 {ρ : Operand → Value} {o : Oper} {w : World} {x : Operand} {n : Int} {ob : Bool} {T : TypeId} (ho : o.op = .binOp .gtr 3 x (.const (.int .i64 0)) T) (hx : ρ x = .int .i64 n) (hc : ρ (.const (.int .i64 0)) = .int .i64 0) (hb : decide ((0 : Int) < n) = ob) : (execOp ρ o).run Tryz.prog w = .ok (.value (.bool ob)) w := by
  unfold execOp; simp only [ho, hx, hc]; subst hb; go_simp
/-- An op as it lies in a variable of its own. -/
def opC (kind dev sec n : Int) (aod : Option Addr) (dn capd : Nat) (aop : Option Addr) (pn capp : Nat) : Array Value := #[.int .i64 kind, .int .i64 dev, .int .i64 sec, .int .i64 n, .slice aod dn capd, .slice aop pn capp]
theorem opC_cells {w : World} {OB : Nat} {kind dev sec n : Int} {aod : Option Addr} {dn capd : Nat} {aop : Option Addr} {pn capp : Nat} (h : w.heap[OB]? = some (.cells (opC kind dev sec n aod dn capd aop pn capp) 31 (0, 0))) :
    w.cell? ⟨OB, 1, none⟩ = some (.int .i64 dev) ∧ w.cell? ⟨OB, 2, none⟩ = some (.int .i64 sec) ∧ w.cell? ⟨OB, 3, none⟩ = some (.int .i64 n) ∧ w.cell? ⟨OB, 4, none⟩ = some (.slice aod dn capd) ∧ w.cell? ⟨OB, 5, none⟩ = some (.slice aop pn capp) := by
  refine ⟨?_, ?_, ?_, ?_, ?_⟩ <;> (rw [cell_of_row w OB _ _ _ _ h]; rfl)
theorem ints_one (w : World) {n : Int} (h : I64 n) : Ints (w.alloc (.cells #[.int .i64 n] 3)) (.slice (some ⟨w.heap.size, 0, none⟩) 1 1) [n] := by
  refine ⟨some ⟨w.heap.size, 0, none⟩, 1, w.heap.size, 0, rfl, fun _ => rfl, fun i q hq => ?_, fun m hm => by rw [List.mem_singleton.1 hm]; exact h, by simp, by simp, by simp, by unfold maxLen; omega⟩
  cases i with
  | zero => cases hq; rw [cell_of_row _ _ _ _ _ _ (heap_alloc_new w _)]; rfl
  | succ i => simp at hq
theorem flAll_one (D : List Dev) (q : Pw) (i : Int) : (flAll D q [i]).1 = fl1D D q i ∧ (flAll D q [i]).2.1 = fl1Q D q i := by
  simp only [flAll]
  split <;> exact ⟨rfl, rfl⟩
end Go.Proofs.YtliboiajhhnajaaGreatDoor

/- The two banks side by side, and what the statements' step needs. -/
namespace Go.Proofs.YtliboiajhhnajaaGreatDoor
open Go.RowKit Go.Extern

/-- The program's bank and the document's own, in memory that is newer than 'w0', and that they do not share. -/
structure PR (w0 w : World) (Fa Fb : Nat → Prop) (a b : Nat) (D E : List Dev) (q r : Pw) : Prop where
  x : OneAt w0 w Fa a D q
  y : RBk w Fb b E r
  yf : ∀ k, Fb k → w0.heap.size ≤ k ∧ k < w.heap.size
  ap : ∀ k, Fa k → ¬ Fb k
section
variable {w0 w w1 : World} {Fa Fb : Nat → Prop} {a b : Nat} {D E D' E' : List Dev} {q r q' r' : Pw}
theorem PR.below (h : PR w0 w Fa Fb a b D E q r) (hb : Below w.heap.size w w1) : PR w0 w1 Fa Fb a b D E q r := ⟨h.x.below hb, h.y.below hb, fun k hk => ⟨(h.yf k hk).1, Nat.lt_of_lt_of_le (h.yf k hk).2 hb.size⟩, h.ap⟩
theorem PR.prog (h : PR w0 w Fa Fb a b D E q r) (hk : Bk w1 (ext Fa w w1) a D' q') (ht : Turn Fa w w1) : PR w0 w1 (ext Fa w w1) Fb a b D' E q' r :=
  ⟨h.x.turn hk ht, h.y.turn ht (fun k hb ha => h.ap k ha hb), fun k hk => ⟨(h.yf k hk).1, Nat.lt_of_lt_of_le (h.yf k hk).2 ht.size⟩, fun k hk hb => by
    rcases hk with hk | hk
    · exact h.ap k hk hb
    · have := (h.yf k hb).2; omega⟩
theorem PR.ref (h : PR w0 w Fa Fb a b D E q r) (hk : RBk w1 (ext Fb w w1) b E' r') (ht : Turn Fb w w1) : PR w0 w1 Fa (ext Fb w w1) a b D E' q r' :=
  ⟨h.x.other ht (fun k hk => (h.yf k hk).1) (fun k ha hb => h.ap k ha hb), hk, fun k hk => by
    have h1 := h.x.bel.size
    have h2 := ht.size
    rcases hk with hk | hk
    · have := h.yf k hk; omega
    · omega, fun k hk hb => by
    rcases hb with hb | hb
    · exact h.ap k hk hb
    · have := (h.x.f k hk).2; omega⟩
end
/-- The two banks are alike, behind so many steps. -/
def Sta (w0 w : World) (a b j : Nat) : Prop := ∃ Fa Fb D E q r, PR w0 w Fa Fb a b D E q r ∧ secsL D = secsL E ∧ pwEq q r ∧ WlB D j ∧ SmallN q (300 * (j : Int)) ∧ SmallN r (300 * (j : Int))
theorem Sta.below {w0 w w1 : World} {a b j : Nat} (h : Sta w0 w a b j) (hb : Below w.heap.size w w1) : Sta w0 w1 a b j := by
  obtain ⟨Fa, Fb, D, E, q, r, h1, h2⟩ := h
  exact ⟨Fa, Fb, D, E, q, r, h1.below hb, h2⟩
theorem Sta.bel {w0 w : World} {a b j : Nat} (h : Sta w0 w a b j) : Below w0.heap.size w0 w := by
  obtain ⟨Fa, Fb, D, E, q, r, h1, h2⟩ := h
  exact h1.x.bel
theorem Sta.mono {w0 w : World} {a b j : Nat} (h : Sta w0 w a b j) : Sta w0 w a b (j + 1) := by
  obtain ⟨Fa, Fb, D, E, q, r, h1, h2, h3, h4, h5, h6⟩ := h
  exact ⟨Fa, Fb, D, E, q, r, h1, h2, h3, h4.mono (by omega), h5.mono (by omega), h6.mono (by omega)⟩
theorem Bk.smB {w : World} {F : Nat → Prop} {b : Nat} {D : List Dev} {q : Pw} (h : Bk w F b D q) : SmB D := by
  obtain ⟨v, G, h⟩ := h
  exact fun i p S hi => (h.dev i p S hi).good.1
def StepR (w0 : World) (a b j : Nat) (e : Ending) (w' : World) : Prop := e = .returned (.bool true) ∧ Sta w0 w' a b (j + 1)
def opV (kind dev sec n : Int) (aod : Option Addr) (dn capd : Nat) (aop : Option Addr) (pn capp : Nat) : Value := .agg (opC kind dev sec n aod dn capd aop pn capp)
theorem exec_call5 {ρ : Operand → Value} {o : Oper} {w : World} {f : FuncId} {x y z u t : Operand} {ts : Array TypeId} {xv yv zv uv tv : Value} (ho : o.op = .call { callee := .value (.func f), args := #[x, y, z, u, t], argTypes := ts }) (hcf : ∀ (args : Array Value) (w : World), (callFunc f args).run Tryz.prog w = .ok (.enter f args) w) (hf : ρ (.func f) = .func (.func f) #[] #[]) (hx : ρ x = xv) (hy : ρ y = yv) (hz : ρ z = zv) (hu : ρ u = uv) (ht : ρ t = tv) : (execOp ρ o).run Tryz.prog w = .ok (.enter f #[xv, yv, zv, uv, tv]) w := by
  unfold execOp; simp [ho, resolve, Deferred.ofValue, invoke, hf, hx, hy, hz, hu, ht, hcf]
theorem enterTold (args : Array Value) (w : World) : (callFunc 14 args).run Tryz.prog w = .ok (.enter 14 args) w := by kernel_rfl
theorem enterBGrow (args : Array Value) (w : World) : (callFunc 15 args).run Tryz.prog w = .ok (.enter 15 args) w := by kernel_rfl
theorem enterRBGrow (args : Array Value) (w : World) : (callFunc 16 args).run Tryz.prog w = .ok (.enter 16 args) w := by kernel_rfl
theorem enterBDetach (args : Array Value) (w : World) : (callFunc 17 args).run Tryz.prog w = .ok (.enter 17 args) w := by kernel_rfl
theorem enterRBDetach (args : Array Value) (w : World) : (callFunc 18 args).run Tryz.prog w = .ok (.enter 18 args) w := by kernel_rfl
theorem enterRBWrite (args : Array Value) (w : World) : (callFunc 23 args).run Tryz.prog w = .ok (.enter 23 args) w := by kernel_rfl
theorem enterRBBad (args : Array Value) (w : World) : (callFunc 30 args).run Tryz.prog w = .ok (.enter 30 args) w := by kernel_rfl
theorem enterRBFill (args : Array Value) (w : World) : (callFunc 32 args).run Tryz.prog w = .ok (.enter 32 args) w := by kernel_rfl
theorem WlB.grow {D : List Dev} {j : Nat} (h : WlB D j) (q : Pw) (i n : Int) : WlB (bgD D q i n) j := by
  unfold bgD
  split
  · rename_i hl
    obtain ⟨-, k, p, S, rfl, hk, -⟩ := lookP_zero hl
    refine h.put (fun t ht => ?_)
    rw [secsOf_at hk] at ht
    unfold gSet at ht
    split at ht
    · rcases List.mem_append.1 ht with x | x
      · exact h k p S hk t x
      · rw [List.eq_of_mem_replicate x]; exact Nat.zero_le _
    · exact h k p S hk t ht
  · exact h
theorem WlB.set_none' {D : List Dev} {j : Nat} (h : WlB D j) (k : Nat) : WlB (D.set k none) j := fun i p S hi s hs => by
  by_cases e : k = i
  · subst e
    by_cases hl : k < D.length
    · rw [List.getElem?_set_self hl] at hi; cases hi
    · rw [List.getElem?_eq_none (by simpa using hl)] at hi; cases hi
  · rw [List.getElem?_set_ne e] at hi; exact h i p S hi s hs
theorem WlB.detach {D : List Dev} {j : Nat} (h : WlB D j) (q : Pw) (i : Int) : WlB (bdD D q i) j := by
  unfold bdD
  split
  · exact h.set_none' _
  · exact h
theorem WlB.bad {D : List Dev} {j : Nat} (h : WlB D j) (q : Pw) (i s : Int) (on : Bool) : WlB (bbD D q i s on) j := by
  unfold bbD
  split
  · rename_i hl
    obtain ⟨k, p, S, rfl, hk⟩ := lookC_zero hl
    refine h.put (fun t ht => ?_)
    rw [secsOf_at hk] at ht
    obtain ⟨n, hn⟩ := List.getElem?_of_mem ht
    obtain ⟨t0, h0, e⟩ := bSet_at hn
    have := h k p S hk t0 (List.mem_of_getElem? h0)
    rw [e]
    split <;> exact this
  · exact h
theorem WlB.fill {D : List Dev} {j : Nat} (h : WlB D j) (q : Pw) (i : Int) (d : List Nat) : WlB (bfD D q i d) j := by
  unfold bfD
  split
  · exact h.put (fun t ht => by rw [fillS_wait ht]; exact Nat.zero_le _)
  · exact h
theorem SmallN.bw {D : List Dev} {q : Pw} {n : Int} (h : SmallN q n) (i s : Int) (d : List Nat) : SmallN (bwQ D q i s d) (n + 1) := by
  unfold bwQ
  split
  · exact h.spend
  · exact h.mono (by omega)
end Go.Proofs.YtliboiajhhnajaaGreatDoor

/- A copy of numbers, in new memory. -/
namespace Go.Proofs.YtliboiajhhnajaaGreatDoor
open Go.RowKit Go.Extern

theorem append_picks2 (w : World) (x : Value) (ys : List Int) (hx : Ints w x ys) (hl : ys.length ≤ 1000000) :
    ∃ v' w', (Builtin.append_ #[29, 29] 29 #[.slice (some ⟨w.heap.size, 0, none⟩) 0 0, x]).run Tryz.prog (w.alloc (.cells #[] 3)) = .ok v' w' ∧ Ints w' v' ys ∧ Below w.heap.size w w' ∧ (∀ k, v'.ownBlock = some k → w.heap.size ≤ k ∧ k < w'.heap.size) ∧ ∃ ao n c, v' = .slice ao n c := by
  obtain ⟨i0, hi, hz0, hz1, hz2⟩ := info_parts infoInt
  have hown : (w.alloc (.cells #[] 3)).ownsRow 0 3 1 (.slice (some ⟨w.heap.size, 0, none⟩) 0 0) 0 [] := World.ownsRow_made w #[] 0 (Nat.zero_le _) (by unfold maxLen; decide) rfl
  have hb1 : Below w.heap.size w (w.alloc (.cells #[] 3)) := (Below.refl _ _).alloc (Nat.le_refl _) _
  obtain ⟨ao, cap, g, off, rfl, h2, h3, h4, h5, h6, h7, h8⟩ := hx.below hb1
  cases ao with
  | none =>
    have hy : ys = [] := by
      rcases Nat.eq_zero_or_pos ys.length with h | h
      · exact List.length_eq_zero_iff.1 h
      · cases h2 h
    subst hy
    obtain rfl := h6 rfl
    refine ⟨_, _, run_append_owned_none (P := Tryz.prog) (w := w.alloc (.cells #[] 3)) 0 29 29 3 i0 1 Tryz.underlying29 hi _ 0 _ hown, ints_of_row (ns := []) hown (by simp) (by simp), hb1, fun k hk => ?_, _, _, _, rfl⟩
    simp only [Value.ownBlock, Option.some.injEq] at hk
    exact ⟨by omega, by simp; omega⟩
  | some ad =>
    have hnews : ∀ j u, (cellsI ys)[j]? = some u → (w.alloc (.cells #[] 3)).cell? (ad.add j) = some u := by
      intro j u hu
      unfold cellsI at hu
      rw [List.getElem?_map] at hu
      obtain ⟨n, hn, rfl⟩ := Option.map_eq_some_iff.1 hu
      have hpos : 0 < ys.length := by
        rcases Nat.eq_zero_or_pos ys.length with h | h
        · rw [List.length_eq_zero_iff.1 h] at hn; cases hn
        · exact h
      have e := Option.some.inj (h2 hpos)
      subst e
      rw [Addr.add_mid]; exact h3 j n hn
    obtain ⟨v', w', hr, ho, hg, -, hat⟩ := run_append_own_at (P := Tryz.prog) (w.alloc (.cells #[] 3)) 0 29 29 3 i0 (.int .i64 0) 1 8 Tryz.underlying29 hi hz0 hz1 hz2 rfl (by decide) _ 0 [] hown ad ys.length cap (cellsI ys) (by simp [cellsI]) hnews
      (by intro u hu; simp only [cellsI, List.mem_map] at hu; obtain ⟨b, -, rfl⟩ := hu; rfl) (by unfold maxLen; omega) (by omega) (Nat.zero_le _)
    rw [Nat.zero_add, List.nil_append] at ho
    obtain ⟨ao', cap', hf⟩ := ownsRow_form ho
    refine ⟨v', w', hr, ints_of_row ho h4 h5, hb1.grown hg hb1.size (fun k hk => ?_), fun k hk => ?_, ⟨_, _, _, hf⟩⟩
    · simp only [Value.ownBlock, Option.some.injEq] at hk; omega
    · refine ⟨?_, (ho.lt k hk).2⟩
      rcases hat with e | e
      · rw [e] at hk; simp only [Value.ownBlock, Option.some.injEq] at hk; omega
      · rw [e] at hk; have := Option.some.inj hk; simp at this; omega
theorem Ints.block {w : World} {v : Value} {ns : List Int} (h : Ints w v ns) (hp : 0 < ns.length) : ∀ k, v.ownBlock = some k → k < w.heap.size := by
  obtain ⟨ao, cap, g, off, rfl, h2, h3, -⟩ := h
  intro k hk
  obtain rfl := h2 hp
  simp only [Value.ownBlock, Option.some.injEq] at hk
  subst hk
  exact cell_lt (h3 0 ns[0] (by simp [hp]))
theorem RBk.c0 {w : World} {F : Nat → Prop} {b : Nat} {D : List Dev} {q : Pw} (h : RBk w F b D q) : ∃ ao cap, w.cell? ⟨b, 0, none⟩ = some (.slice ao D.length cap) := by
  obtain ⟨v, G, h⟩ := h
  have := h.c0
  obtain ⟨ao, cap, rfl⟩ := h.form
  exact ⟨ao, cap, this⟩
theorem SmallN.flAll : ∀ (ns : List Int) {D : List Dev} {q : Pw} {n : Int}, SmallN q n → SmallN (flAll D q ns).2.1 (n + ns.length)
  | [], _, _, _, h => h.mono (by simp)
  | i :: rest, D, q, n, h => by
    have h1 := h.fl1 (D := D) i
    simp only [Go.Proofs.YtliboiajhhnajaaGreatDoor.flAll]
    split
    · exact (SmallN.flAll rest h1).mono (by simp; omega)
    · exact h1.mono (by simp; omega)
theorem WlB.flAll : ∀ (ns : List Int) {D : List Dev} {q : Pw} {j : Nat}, WlB D j → WlB (flAll D q ns).1 j
  | [], _, _, _, h => h
  | i :: rest, D, q, j, h => by
    have h1 := h.fl1 (q := q) i
    simp only [Go.Proofs.YtliboiajhhnajaaGreatDoor.flAll]
    split
    · exact WlB.flAll rest h1
    · exact h1
theorem WlB.crD0 : ∀ (D : List Dev) (ps : List Int) {j : Nat}, WlB (crD D ps) j := fun D ps j i p S hi s hs => by
  have key : ∀ (D : List Dev) (ps : List Int) (i p : Nat) (S : List Sec), (crD D ps)[i]? = some (some (p, S)) → ∀ s ∈ S, s.wait = [] := by
    intro D
    induction D with
    | nil => intro ps i p S h; simp [crD] at h
    | cons d r ih =>
      intro ps i p S h
      cases d with
      | none =>
        cases i with
        | zero => simp [crD] at h
        | succ i => simp only [crD, List.getElem?_cons_succ] at h; exact ih _ i p S h
      | some x =>
        obtain ⟨p0, S0⟩ := x
        cases i with
        | zero =>
          simp only [crD, List.getElem?_cons_zero, Option.some.injEq, Prod.mk.injEq] at h
          obtain ⟨rfl, rfl⟩ := h
          intro s hs
          unfold crS at hs
          obtain ⟨t, -, rfl⟩ := List.mem_map.1 hs
          rfl
        | succ i => simp only [crD, List.getElem?_cons_succ] at h; exact ih _ i p S h
  rw [key D ps i p S hi s hs]; exact Nat.zero_le _
end Go.Proofs.YtliboiajhhnajaaGreatDoor
