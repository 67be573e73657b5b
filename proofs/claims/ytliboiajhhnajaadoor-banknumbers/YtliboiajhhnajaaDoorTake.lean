/- Steps of a region that draws its order, one operation at a time. -/
import Derived.Test.YtliboiajhhnajaaDoorFill3
import Derived.Deep.RegionHeld3
namespace Go.Proofs.YtliboiajhhnajaaDoor
open Go.RowKit Go.Extern

section
variable {ops : Array Oper} {Q : Exit → Act → World → Prop} {md : Region.Mode} {S : World → Prop}
/-- An operation that tells the same value in every world that meets S is taken first. -/
theorem take_run (i : Nat) {oi : Oper} (dst : Option Tmp) (v : Value) {fuel : Nat} {listed : Array Bool} {a : Act} {w : World} (hi : ops[i]? = some oi) (hd : oi.dst = dst) (hg : oi.guard = none)
    (hs : Region.noSelect ops = true) (hf : Region.free md ops listed i = true) (hr : (Region.ready md ops listed).contains i = true)
    (hQ : ∀ c a w, Q (.panic c) (a.put dst v) w → Q (.panic c) a w) (hrun : ∀ wx, S wx → (execOp a.eval oi).run Tryd.prog wx = .ok (.value v) wx) (hS : S w)
    (h : wpAnyH Tryd.prog md ops Q S fuel (listed.setIfInBounds i true) (a.put dst v) w) : wpAnyH Tryd.prog md ops Q S (fuel + 1) listed a w := by
  subst hd
  exact wpAnyH_take hi hs hf hr hQ (Or.inl ⟨by simp [Region.wanted, hg], hrun⟩) hS h
/-- The one operation that may come up tells a value, and may turn the world. -/
theorem only_value (i : Nat) {oi : Oper} (dst : Option Tmp) {fuel : Nat} {listed : Array Bool} {a : Act} {w : World} (hi : ops[i]? = some oi) (hd : oi.dst = dst) (hg : oi.guard = none) (hr : Region.ready md ops listed = [i])
    {v : Value} {w' : World} (hrun : (execOp a.eval oi).run Tryd.prog w = .ok (.value v) w') (hS : S w') (h : wpAnyH Tryd.prog md ops Q S fuel (listed.setIfInBounds i true) (a.put dst v) w') : wpAnyH Tryd.prog md ops Q S (fuel + 1) listed a w := by
  subst hd
  refine wpAnyH_ready hr (by simp) (AllReadyH.cons hi (fun K hK => ?_) AllReadyH.nil)
  exact step_value hg hrun (hK.out _ _ hS (fun _ => h))
/-- .. or none. -/
theorem only_skip (i : Nat) {oi : Oper} (dst : Option Tmp) {fuel : Nat} {listed : Array Bool} {a : Act} {w : World} (hi : ops[i]? = some oi) (hd : oi.dst = dst) (hg : oi.guard = none) (hr : Region.ready md ops listed = [i])
    {w' : World} (hrun : (execOp a.eval oi).run Tryd.prog w = .ok .skip w') (hS : S w') (h : wpAnyH Tryd.prog md ops Q S fuel (listed.setIfInBounds i true) (a.put dst undef) w') : wpAnyH Tryd.prog md ops Q S (fuel + 1) listed a w := by
  subst hd
  refine wpAnyH_ready hr (by simp) (AllReadyH.cons hi (fun K hK => ?_) AllReadyH.nil)
  exact step_skip hg hrun (hK.out _ _ hS (fun _ => h))
/-- Two operations that may come up, each telling a value, in either order. -/
theorem both_value (i j : Nat) {oi oj : Oper} (di dj : Option Tmp) {fuel : Nat} {listed : Array Bool} {a : Act} {w : World} (hi : ops[i]? = some oi) (hj : ops[j]? = some oj) (hdi : oi.dst = di) (hdj : oj.dst = dj) (hgi : oi.guard = none) (hgj : oj.guard = none)
    (hr : Region.ready md ops listed = [i, j]) (hri : Region.ready md ops (listed.setIfInBounds i true) = [j]) (hrj : Region.ready md ops (listed.setIfInBounds j true) = [i]) {vi vj : Value} {w' : World}
    (hruni : ∀ b, (b = a ∨ b = a.put dj vj) → ∀ wx, (wx = w ∨ wx = w') → (execOp b.eval oi).run Tryd.prog wx = .ok (.value vi) wx) (hrunj : ∀ b, (b = a ∨ b = a.put di vi) → (execOp b.eval oj).run Tryd.prog w = .ok (.value vj) w') (hS : S w) (hS' : S w')
    (hput : (a.put dj vj).put di vi = (a.put di vi).put dj vj) (hl : (listed.setIfInBounds j true).setIfInBounds i true = (listed.setIfInBounds i true).setIfInBounds j true)
    (h : wpAnyH Tryd.prog md ops Q S fuel ((listed.setIfInBounds i true).setIfInBounds j true) ((a.put di vi).put dj vj) w') : wpAnyH Tryd.prog md ops Q S (fuel + 2) listed a w := by
  subst hdi hdj
  refine wpAnyH_ready hr (by simp) (AllReadyH.cons hi (fun K hK => ?_) (AllReadyH.cons hj (fun K hK => ?_) AllReadyH.nil))
  · refine step_value hgi (hruni a (.inl rfl) w (.inl rfl)) (hK.out _ _ hS (fun _ => ?_))
    exact only_value j oj.dst hj rfl hgj hri (hrunj _ (.inr rfl)) hS' h
  · refine step_value hgj (hrunj a (.inl rfl)) (hK.out _ _ hS' (fun _ => ?_))
    refine only_value i oi.dst hi rfl hgi hrj (hruni _ (.inr rfl) w' (.inr rfl)) hS' ?_
    rw [hput, hl]; exact h
/-- The one operation that may come up is a call. -/
theorem only_call (i : Nat) {oi : Oper} (dst : Option Tmp) {fuel : Nat} {listed : Array Bool} {a : Act} {w : World} (hi : ops[i]? = some oi) (hd : oi.dst = dst) (hg : oi.guard = none) (hr : Region.ready md ops listed = [i])
    {f : FuncId} {args : Array Value} (hrun : (execOp a.eval oi).run Tryd.prog w = .ok (.enter f args) w)
    (hc : Calls Tryd.prog f args w fun e w' => ∃ v, e = .returned v ∧ S w' ∧ wpAnyH Tryd.prog md ops Q S fuel (listed.setIfInBounds i true) (a.put dst v) w') : wpAnyH Tryd.prog md ops Q S (fuel + 1) listed a w := by
  subst hd
  refine wpAnyH_ready hr (by simp) (AllReadyH.cons hi (fun K hK => ?_) AllReadyH.nil)
  rw [if_pos (by simp [Region.wanted, hg])]
  unfold Oper.wp
  rw [hrun]
  refine hc.mono ?_
  rintro e w' ⟨v, rfl, hS, h⟩
  exact hK.out _ _ hS (fun _ => h)
end
section
variable {ρ : Operand → Value} {o : Oper} {w : World}
theorem exec_call1 {f : FuncId} {x : Operand} {ts : Array TypeId} {xv : Value} (ho : o.op = .call { callee := .value (.func f), args := #[x], argTypes := ts }) (hcf : ∀ (args : Array Value) (w : World), (callFunc f args).run Tryd.prog w = .ok (.enter f args) w) (hf : ρ (.func f) = .func (.func f) #[] #[]) (hx : ρ x = xv) : (execOp ρ o).run Tryd.prog w = .ok (.enter f #[xv]) w := by
  unfold execOp; simp [ho, resolve, Deferred.ofValue, invoke, hf, hx, hcf]
theorem exec_call2 {f : FuncId} {x y : Operand} {ts : Array TypeId} {xv yv : Value} (ho : o.op = .call { callee := .value (.func f), args := #[x, y], argTypes := ts }) (hcf : ∀ (args : Array Value) (w : World), (callFunc f args).run Tryd.prog w = .ok (.enter f args) w) (hf : ρ (.func f) = .func (.func f) #[] #[]) (hx : ρ x = xv) (hy : ρ y = yv) : (execOp ρ o).run Tryd.prog w = .ok (.enter f #[xv, yv]) w := by
  unfold execOp; simp [ho, resolve, Deferred.ofValue, invoke, hf, hx, hy, hcf]
theorem exec_call3 {f : FuncId} {x y z : Operand} {ts : Array TypeId} {xv yv zv : Value} (ho : o.op = .call { callee := .value (.func f), args := #[x, y, z], argTypes := ts }) (hcf : ∀ (args : Array Value) (w : World), (callFunc f args).run Tryd.prog w = .ok (.enter f args) w) (hf : ρ (.func f) = .func (.func f) #[] #[]) (hx : ρ x = xv) (hy : ρ y = yv) (hz : ρ z = zv) : (execOp ρ o).run Tryd.prog w = .ok (.enter f #[xv, yv, zv]) w := by
  unfold execOp; simp [ho, resolve, Deferred.ofValue, invoke, hf, hx, hy, hz, hcf]
theorem exec_assign {x : Operand} {v : Value} (ho : o.op = .assign x) (hx : ρ x = v) : (execOp ρ o).run Tryd.prog w = .ok (.value v) w := by
  unfold execOp; simp [ho, hx]
theorem exec_move {x : Operand} {v : Value} (ho : o.op = .move x) (hx : ρ x = v) : (execOp ρ o).run Tryd.prog w = .ok (.value v) w := by
  unfold execOp; simp [ho, hx]
theorem exec_nilCheck {x : Operand} {p : Addr} (ho : o.op = .nilCheck x) (hx : ρ x = .pointer (some p)) : (execOp ρ o).run Tryd.prog w = .ok (.value (.pointer (some p))) w := by
  unfold execOp; simp [ho, hx]
theorem exec_field {s : TypeId} {f : Nat} {x : Operand} {v p : Value} (ho : o.op = .fieldAddr s x f) (hr : (Instr.fieldAt s p f).run Tryd.prog w = .ok v w) (hx : ρ x = p) : (execOp ρ o).run Tryd.prog w = .ok (.value v) w := by
  unfold execOp; simp only [ho, hx, hr, Sem.run_bind, Sem.run_pure, Result.andThen_ok]
theorem exec_index {t : TypeId} {x y : Operand} {v xv yv : Value} (ho : o.op = .indexAddr t x y) (hr : (Instr.indexAt t xv yv).run Tryd.prog w = .ok v w) (hx : ρ x = xv) (hy : ρ y = yv) : (execOp ρ o).run Tryd.prog w = .ok (.value v) w := by
  unfold execOp; simp only [ho, hx, hy, hr, Sem.run_bind, Sem.run_pure, Result.andThen_ok]
theorem exec_len {t : TypeId} {x : Operand} {v xv : Value} (ho : o.op = .call { callee := .builtin .len, args := #[x], argTypes := #[t] }) (hr : (Builtin.len_ #[t] o.type #[xv]).run Tryd.prog w = .ok v w) (hx : ρ x = xv) : (execOp ρ o).run Tryd.prog w = .ok (.value v) w := by
  unfold execOp; simp [ho, resolve, invoke, builtin, hx, hr]
end
theorem field1 (b : Nat) (w : World) : (Instr.fieldAt 60 (.pointer (some ⟨b, 0, none⟩)) 1).run Tryd.prog w = .ok (.pointer (some ⟨b, 1, none⟩)) w := by kernel_rfl
theorem field0 (b : Nat) (w : World) : (Instr.fieldAt 60 (.pointer (some ⟨b, 0, none⟩)) 0).run Tryd.prog w = .ok (.pointer (some ⟨b, 0, none⟩)) w := by kernel_rfl
theorem secField0 (g o : Nat) (w : World) : (Instr.fieldAt 77 (.pointer (some ⟨g, o, none⟩)) 0).run Tryd.prog w = .ok (.pointer (some ⟨g, o, none⟩)) w := by kernel_rfl
theorem len_con (w : World) (a : Option Addr) (n c : Nat) : (Builtin.len_ #[111] 3 #[.slice a n c]).run Tryd.prog w = .ok (.int .i64 (n : Int)) w := by kernel_rfl
theorem load_map {w : World} {p : Addr} {v : Value} (h : w.cell? p = some v) : (Instr.loadAt 58 (.pointer (some p))).run Tryd.prog w = .ok v w := by go_simp
theorem load_secs {w : World} {p : Addr} {v : Value} (h : w.cell? p = some v) : (Instr.loadAt 57 (.pointer (some p))).run Tryd.prog w = .ok v w := by go_simp
theorem index_sec {w : World} {g n cap i : Nat} (h : i < n) : (Instr.indexAt 57 (.slice (some ⟨g, 0, none⟩) n cap) (.int .i64 (i : Int))).run Tryd.prog w = .ok (.pointer (some ⟨g, i * 129, none⟩)) w := by
  have hlt : (i : Int) < (n : Int) := by omega
  have hge : (0 : Int) ≤ (i : Int) := by omega
  go_simp
end Go.Proofs.YtliboiajhhnajaaDoor
