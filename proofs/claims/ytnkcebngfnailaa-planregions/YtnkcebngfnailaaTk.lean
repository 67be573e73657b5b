/- Steps of a region that draws its order, one operation at a time. -/
import Derived.Test.YtnkcebngfnailaaSl
import Derived.Deep.RegionHeld3
namespace Go.Proofs.Ytnkcebngfnailaa
open Go.RowKit Go.Extern

theorem step_value {ops : Array Oper} {o : Oper} {a : Act} {w w' : World} {v : Value} {K : Act → World → Prop} {Q : Exit → Act → World → Prop} {E : Prop} (hg : o.guard = none) (hrun : (execOp a.eval o).run Try.prog w = .ok (.value v) w') (hK : K (a.put o.dst v) w') :
    if Region.wanted o (yielded ops a.tmps) = true then Oper.wp Try.prog o a w K Q else E := by
  rw [if_pos (by simp [Region.wanted, hg])]
  unfold Oper.wp
  rw [hrun]
  exact hK
theorem step_dst (dst : Option Tmp) {ops : Array Oper} {o : Oper} {a : Act} {w w' : World} {v : Value} {K : Act → World → Prop} {Q : Exit → Act → World → Prop} {E : Prop} (hd : o.dst = dst) (hg : o.guard = none) (hrun : (execOp a.eval o).run Try.prog w = .ok (.value v) w') (hK : K (a.put dst v) w') :
    if Region.wanted o (yielded ops a.tmps) = true then Oper.wp Try.prog o a w K Q else E := by
  subst hd
  exact step_value hg hrun hK
theorem step_skip {ops : Array Oper} {o : Oper} {a : Act} {w w' : World} {K : Act → World → Prop} {Q : Exit → Act → World → Prop} {E : Prop} (hg : o.guard = none) (hrun : (execOp a.eval o).run Try.prog w = .ok .skip w') (hK : K (a.put o.dst undef) w') :
    if Region.wanted o (yielded ops a.tmps) = true then Oper.wp Try.prog o a w K Q else E := by
  rw [if_pos (by simp [Region.wanted, hg])]
  unfold Oper.wp
  rw [hrun]
  exact hK
section
variable {ρ : Operand → Value} {o : Oper} {w w' : World}
theorem exec_lookup {t : TypeId} {m x : Operand} {v mv xv : Value} (ho : o.op = .lookup t m x false) (hr : (Instr.lookup t mv xv false).run Try.prog w = .ok v w') (hm : ρ m = mv) (hx : ρ x = xv) : (execOp ρ o).run Try.prog w = .ok (.value v) w' := by
  unfold execOp; simp only [ho, hm, hx, hr, Sem.run_bind, Sem.run_pure, Result.andThen_ok]
theorem exec_load {t : TypeId} {m : Operand} {v mv : Value} (ho : o.op = .load t m) (hr : (Instr.loadAt t mv).run Try.prog w = .ok v w') (hm : ρ m = mv) : (execOp ρ o).run Try.prog w = .ok (.value v) w' := by
  unfold execOp; simp only [ho, hm, hr, Sem.run_bind, Sem.run_pure, Result.andThen_ok]
theorem exec_store {t : TypeId} {m x : Operand} {mv xv : Value} (ho : o.op = .store t m x) (hr : (Instr.storeAt t mv xv).run Try.prog w = .ok () w') (hm : ρ m = mv) (hx : ρ x = xv) : (execOp ρ o).run Try.prog w = .ok .skip w' := by
  unfold execOp; simp only [ho, hm, hx, hr, Sem.run_bind, Sem.run_pure, Result.andThen_ok]
theorem exec_one {t : TypeId} {x : Operand} {v xv : Value} (ho : o.op = .buildSlice t 1 #[(0, x)]) (hr : (Instr.buildSlice t 1 #[(0, xv)]).run Try.prog w = .ok v w') (hx : ρ x = xv) : (execOp ρ o).run Try.prog w = .ok (.value v) w' := by
  unfold execOp; simp [ho, hx, hr]
theorem exec_append {t : TypeId} {x y : Operand} {v xv yv : Value} (ho : o.op = .call { callee := .builtin .append, args := #[x, y], argTypes := #[t, t] }) (hr : (Builtin.append_ #[t, t] o.type #[xv, yv]).run Try.prog w = .ok v w') (hx : ρ x = xv) (hy : ρ y = yv) : (execOp ρ o).run Try.prog w = .ok (.value v) w' := by
  unfold execOp; simp [ho, resolve, invoke, builtin, hx, hy, hr]
theorem exec_update {t : TypeId} {m k x : Operand} {mv kv xv : Value} (ho : o.op = .mapUpdate t m k x) (hr : (Instr.mapUpdate t mv kv xv).run Try.prog w = .ok () w') (hm : ρ m = mv) (hk : ρ k = kv) (hx : ρ x = xv) : (execOp ρ o).run Try.prog w = .ok .skip w' := by
  unfold execOp; simp only [ho, hm, hk, hx, hr, Sem.run_bind, Sem.run_pure, Result.andThen_ok]
end
section
variable {ops : Array Oper} {Q : Exit → Act → World → Prop} {md : Region.Mode} {S : World → Prop}
/-- An operation that tells the same value in every world that meets S is taken first. -/
theorem take_run (i : Nat) {oi : Oper} (dst : Option Tmp) (v : Value) {fuel : Nat} {listed : Array Bool} {a : Act} {w : World} (hi : ops[i]? = some oi) (hd : oi.dst = dst) (hg : oi.guard = none)
    (hs : Region.noSelect ops = true) (hf : Region.free md ops listed i = true) (hr : (Region.ready md ops listed).contains i = true)
    (hQ : ∀ c a w, Q (.panic c) (a.put dst v) w → Q (.panic c) a w) (hrun : ∀ wx, S wx → (execOp a.eval oi).run Try.prog wx = .ok (.value v) wx) (hS : S w)
    (h : wpAnyH Try.prog md ops Q S fuel (listed.setIfInBounds i true) (a.put dst v) w) : wpAnyH Try.prog md ops Q S (fuel + 1) listed a w := by
  subst hd
  exact wpAnyH_take hi hs hf hr hQ (Or.inl ⟨by simp [Region.wanted, hg], hrun⟩) hS h
/-- The one operation that may come up tells a value, and may turn the world. -/
theorem only_value (i : Nat) {oi : Oper} (dst : Option Tmp) {fuel : Nat} {listed : Array Bool} {a : Act} {w : World} (hi : ops[i]? = some oi) (hd : oi.dst = dst) (hg : oi.guard = none) (hr : Region.ready md ops listed = [i])
    {v : Value} {w' : World} (hrun : (execOp a.eval oi).run Try.prog w = .ok (.value v) w') (hS : S w') (h : wpAnyH Try.prog md ops Q S fuel (listed.setIfInBounds i true) (a.put dst v) w') : wpAnyH Try.prog md ops Q S (fuel + 1) listed a w := by
  subst hd
  refine wpAnyH_ready hr (by simp) (AllReadyH.cons hi (fun K hK => ?_) AllReadyH.nil)
  exact step_value hg hrun (hK.out _ _ hS (fun _ => h))
/-- .. or none. -/
theorem only_skip (i : Nat) {oi : Oper} (dst : Option Tmp) {fuel : Nat} {listed : Array Bool} {a : Act} {w : World} (hi : ops[i]? = some oi) (hd : oi.dst = dst) (hg : oi.guard = none) (hr : Region.ready md ops listed = [i])
    {w' : World} (hrun : (execOp a.eval oi).run Try.prog w = .ok .skip w') (hS : S w') (h : wpAnyH Try.prog md ops Q S fuel (listed.setIfInBounds i true) (a.put dst undef) w') : wpAnyH Try.prog md ops Q S (fuel + 1) listed a w := by
  subst hd
  refine wpAnyH_ready hr (by simp) (AllReadyH.cons hi (fun K hK => ?_) AllReadyH.nil)
  exact step_skip hg hrun (hK.out _ _ hS (fun _ => h))
/-- Two operations that may come up, each telling a value, in either order. -/
theorem both_value (i j : Nat) {oi oj : Oper} (di dj : Option Tmp) {fuel : Nat} {listed : Array Bool} {a : Act} {w : World} (hi : ops[i]? = some oi) (hj : ops[j]? = some oj) (hdi : oi.dst = di) (hdj : oj.dst = dj) (hgi : oi.guard = none) (hgj : oj.guard = none)
    (hr : Region.ready md ops listed = [i, j]) (hri : Region.ready md ops (listed.setIfInBounds i true) = [j]) (hrj : Region.ready md ops (listed.setIfInBounds j true) = [i]) {vi vj : Value} {w' : World}
    (hruni : ∀ b, (b = a ∨ b = a.put dj vj) → ∀ wx, (wx = w ∨ wx = w') → (execOp b.eval oi).run Try.prog wx = .ok (.value vi) wx) (hrunj : ∀ b, (b = a ∨ b = a.put di vi) → (execOp b.eval oj).run Try.prog w = .ok (.value vj) w') (hS : S w) (hS' : S w')
    (hput : (a.put dj vj).put di vi = (a.put di vi).put dj vj) (hl : (listed.setIfInBounds j true).setIfInBounds i true = (listed.setIfInBounds i true).setIfInBounds j true)
    (h : wpAnyH Try.prog md ops Q S fuel ((listed.setIfInBounds i true).setIfInBounds j true) ((a.put di vi).put dj vj) w') : wpAnyH Try.prog md ops Q S (fuel + 2) listed a w := by
  subst hdi hdj
  refine wpAnyH_ready hr (by simp) (AllReadyH.cons hi (fun K hK => ?_) (AllReadyH.cons hj (fun K hK => ?_) AllReadyH.nil))
  · refine step_value hgi (hruni a (.inl rfl) w (.inl rfl)) (hK.out _ _ hS (fun _ => ?_))
    exact only_value j oj.dst hj rfl hgj hri (hrunj _ (.inr rfl)) hS' h
  · refine step_value hgj (hrunj a (.inl rfl)) (hK.out _ _ hS' (fun _ => ?_))
    refine only_value i oi.dst hi rfl hgi hrj (hruni _ (.inr rfl) w' (.inr rfl)) hS' ?_
    rw [hput, hl]; exact h
/-- The one operation that may come up is a call. -/
theorem only_call (i : Nat) {oi : Oper} (dst : Option Tmp) {fuel : Nat} {listed : Array Bool} {a : Act} {w : World} (hi : ops[i]? = some oi) (hd : oi.dst = dst) (hg : oi.guard = none) (hr : Region.ready md ops listed = [i])
    {f : FuncId} {args : Array Value} (hrun : (execOp a.eval oi).run Try.prog w = .ok (.enter f args) w)
    (hc : Calls Try.prog f args w fun e w' => ∃ v, e = .returned v ∧ S w' ∧ wpAnyH Try.prog md ops Q S fuel (listed.setIfInBounds i true) (a.put dst v) w') : wpAnyH Try.prog md ops Q S (fuel + 1) listed a w := by
  subst hd
  refine wpAnyH_ready hr (by simp) (AllReadyH.cons hi (fun K hK => ?_) AllReadyH.nil)
  rw [if_pos (by simp [Region.wanted, hg])]
  unfold Oper.wp
  rw [hrun]
  refine hc.mono ?_
  rintro e w' ⟨v, rfl, hS, h⟩
  exact hK.out _ _ hS (fun _ => h)
end
section
variable {ρ : Operand → Value} {o : Oper} {w : World}
theorem exec_call1 {f : FuncId} {x : Operand} {ts : Array TypeId} {xv : Value} (ho : o.op = .call { callee := .value (.func f), args := #[x], argTypes := ts }) (hcf : ∀ (args : Array Value) (w : World), (callFunc f args).run Try.prog w = .ok (.enter f args) w) (hf : ρ (.func f) = .func (.func f) #[] #[]) (hx : ρ x = xv) : (execOp ρ o).run Try.prog w = .ok (.enter f #[xv]) w := by
  unfold execOp; simp [ho, resolve, Deferred.ofValue, invoke, hf, hx, hcf]
theorem exec_call2 {f : FuncId} {x y : Operand} {ts : Array TypeId} {xv yv : Value} (ho : o.op = .call { callee := .value (.func f), args := #[x, y], argTypes := ts }) (hcf : ∀ (args : Array Value) (w : World), (callFunc f args).run Try.prog w = .ok (.enter f args) w) (hf : ρ (.func f) = .func (.func f) #[] #[]) (hx : ρ x = xv) (hy : ρ y = yv) : (execOp ρ o).run Try.prog w = .ok (.enter f #[xv, yv]) w := by
  unfold execOp; simp [ho, resolve, Deferred.ofValue, invoke, hf, hx, hy, hcf]
theorem exec_call3 {f : FuncId} {x y z : Operand} {ts : Array TypeId} {xv yv zv : Value} (ho : o.op = .call { callee := .value (.func f), args := #[x, y, z], argTypes := ts }) (hcf : ∀ (args : Array Value) (w : World), (callFunc f args).run Try.prog w = .ok (.enter f args) w) (hf : ρ (.func f) = .func (.func f) #[] #[]) (hx : ρ x = xv) (hy : ρ y = yv) (hz : ρ z = zv) : (execOp ρ o).run Try.prog w = .ok (.enter f #[xv, yv, zv]) w := by
  unfold execOp; simp [ho, resolve, Deferred.ofValue, invoke, hf, hx, hy, hz, hcf]
theorem exec_assign {x : Operand} {v : Value} (ho : o.op = .assign x) (hx : ρ x = v) : (execOp ρ o).run Try.prog w = .ok (.value v) w := by
  unfold execOp; simp [ho, hx]
theorem exec_move {x : Operand} {v : Value} (ho : o.op = .move x) (hx : ρ x = v) : (execOp ρ o).run Try.prog w = .ok (.value v) w := by
  unfold execOp; simp [ho, hx]
theorem exec_nilCheck {x : Operand} {p : Addr} (ho : o.op = .nilCheck x) (hx : ρ x = .pointer (some p)) : (execOp ρ o).run Try.prog w = .ok (.value (.pointer (some p))) w := by
  unfold execOp; simp [ho, hx]
theorem exec_field {s : TypeId} {f : Nat} {x : Operand} {v p : Value} (ho : o.op = .fieldAddr s x f) (hr : (Instr.fieldAt s p f).run Try.prog w = .ok v w) (hx : ρ x = p) : (execOp ρ o).run Try.prog w = .ok (.value v) w := by
  unfold execOp; simp only [ho, hx, hr, Sem.run_bind, Sem.run_pure, Result.andThen_ok]
theorem exec_index {t : TypeId} {x y : Operand} {v xv yv : Value} (ho : o.op = .indexAddr t x y) (hr : (Instr.indexAt t xv yv).run Try.prog w = .ok v w) (hx : ρ x = xv) (hy : ρ y = yv) : (execOp ρ o).run Try.prog w = .ok (.value v) w := by
  unfold execOp; simp only [ho, hx, hy, hr, Sem.run_bind, Sem.run_pure, Result.andThen_ok]
theorem exec_len {t : TypeId} {x : Operand} {v xv : Value} (ho : o.op = .call { callee := .builtin .len, args := #[x], argTypes := #[t] }) (hr : (Builtin.len_ #[t] o.type #[xv]).run Try.prog w = .ok v w) (hx : ρ x = xv) : (execOp ρ o).run Try.prog w = .ok (.value v) w := by
  unfold execOp; simp [ho, resolve, invoke, builtin, hx, hr]
end

theorem exec_build1 {ρ : Operand → Value} {o : Oper} {w : World} {t : TypeId} {x : Operand} {v xv : Value} (ho : o.op = .build t #[(0, x)]) (hr : (Instr.build t #[(0, xv)]).run Try.prog w = .ok v w) (hx : ρ x = xv) : (execOp ρ o).run Try.prog w = .ok (.value v) w := by
  unfold execOp; simp [ho, hr, hx]
section
variable {ops : Array Oper} {Q : Exit → Act → World → Prop} {md : Region.Mode} {S : World → Prop}
/-- Of two operations that may come up the first is a call, the second tells a value. -/
theorem call_or_value (i j : Nat) {oi oj : Oper} (di dj : Option Tmp) {fuel : Nat} {listed : Array Bool} {a : Act} {w : World} (hi : ops[i]? = some oi) (hj : ops[j]? = some oj) (hdi : oi.dst = di) (hdj : oj.dst = dj) (hgi : oi.guard = none) (hgj : oj.guard = none)
    (hr : Region.ready md ops listed = [i, j]) {f : FuncId} {args : Array Value} {vj : Value} {wj : World}
    (hruni : (execOp a.eval oi).run Try.prog w = .ok (.enter f args) w) (hrunj : (execOp a.eval oj).run Try.prog w = .ok (.value vj) wj) (hSj : S wj)
    (hc : Calls Try.prog f args w fun e w' => ∃ v, e = .returned v ∧ S w' ∧ wpAnyH Try.prog md ops Q S fuel (listed.setIfInBounds i true) (a.put di v) w')
    (h : wpAnyH Try.prog md ops Q S fuel (listed.setIfInBounds j true) (a.put dj vj) wj) : wpAnyH Try.prog md ops Q S (fuel + 1) listed a w := by
  subst hdi hdj
  refine wpAnyH_ready hr (by simp) (AllReadyH.cons hi (fun K hK => ?_) (AllReadyH.cons hj (fun K hK => ?_) AllReadyH.nil))
  · rw [if_pos (by simp [Region.wanted, hgi])]
    unfold Oper.wp
    rw [hruni]
    refine hc.mono ?_
    rintro e w' ⟨v, rfl, hS, h⟩
    exact hK.out _ _ hS (fun _ => h)
  · exact step_value hgj hrunj (hK.out _ _ hSj (fun _ => h))
end
theorem below_drew0 (w : World) : Below w.heap.size w w.drew := (Below.refl _ _).drew
section
variable {ops : Array Oper} {Q : Exit → Act → World → Prop} {md : Region.Mode} {S : World → Prop}
theorem take_want (i : Nat) {oi : Oper} (dst : Option Tmp) (v : Value) {fuel : Nat} {listed : Array Bool} {a : Act} {w : World} (hi : ops[i]? = some oi) (hd : oi.dst = dst) (hg : Region.wanted oi (yielded ops a.tmps) = true)
    (hs : Region.noSelect ops = true) (hf : Region.free md ops listed i = true) (hr : (Region.ready md ops listed).contains i = true)
    (hQ : ∀ c a w, Q (.panic c) (a.put dst v) w → Q (.panic c) a w) (hrun : ∀ wx, S wx → (execOp a.eval oi).run Try.prog wx = .ok (.value v) wx) (hS : S w)
    (h : wpAnyH Try.prog md ops Q S fuel (listed.setIfInBounds i true) (a.put dst v) w) : wpAnyH Try.prog md ops Q S (fuel + 1) listed a w := by
  subst hd
  exact wpAnyH_take hi hs hf hr hQ (Or.inl ⟨hg, hrun⟩) hS h
theorem call_want (i : Nat) {oi : Oper} (dst : Option Tmp) {fuel : Nat} {listed : Array Bool} {a : Act} {w : World} (hi : ops[i]? = some oi) (hd : oi.dst = dst) (hg : Region.wanted oi (yielded ops a.tmps) = true) (hr : Region.ready md ops listed = [i])
    {f : FuncId} {args : Array Value} (hrun : (execOp a.eval oi).run Try.prog w = .ok (.enter f args) w)
    (hc : Calls Try.prog f args w fun e w' => ∃ v, e = .returned v ∧ S w' ∧ wpAnyH Try.prog md ops Q S fuel (listed.setIfInBounds i true) (a.put dst v) w') : wpAnyH Try.prog md ops Q S (fuel + 1) listed a w := by
  subst hd
  refine wpAnyH_ready hr (by simp) (AllReadyH.cons hi (fun K hK => ?_) AllReadyH.nil)
  rw [if_pos hg]
  unfold Oper.wp
  rw [hrun]
  refine hc.mono ?_
  rintro e w' ⟨v, rfl, hS, h⟩
  exact hK.out _ _ hS (fun _ => h)
end
theorem wrap_id {n : Int} (h1 : -9223372036854775808 ≤ n) (h2 : n < 9223372036854775808) : IntKind.i64.wrap n = n := by
  rw [IntKind.wrap_i64]; omega
section
variable {ρ : Operand → Value} {o : Oper} {w : World}
theorem exec_pickF {c x y : Operand} {v : Value} (ho : o.op = .pick c x y) (hc : ρ c = .bool false) (hy : ρ y = v) : (execOp ρ o).run Try.prog w = .ok (.value v) w := by
  unfold execOp; simp [ho, hc, hy, asBool]
theorem exec_pickT {c x y : Operand} {v : Value} (ho : o.op = .pick c x y) (hc : ρ c = .bool true) (hx : ρ x = v) : (execOp ρ o).run Try.prog w = .ok (.value v) w := by
  unfold execOp; simp [ho, hc, hx, asBool]
theorem exec_neqN {x y : Operand} {n m : Int} {T : TypeId} (ho : o.op = .binOp .neq 3 x y T) (hx : ρ x = .int .i64 n) (hy : ρ y = .int .i64 m) (h : n = m) : (execOp ρ o).run Try.prog w = .ok (.value (.bool false)) w := by
  subst h
  unfold execOp; simp only [ho, hx, hy]; go_simp
theorem exec_nil {x : Tmp} {T : TypeId} (ho : o.op = .binOp .eql 26 (.tmp x) (.const .nilIface) T) (hx : ρ (.tmp x) = .nilIface) (hy : ρ (.const .nilIface) = .nilIface) : (execOp ρ o).run Try.prog w = .ok (.value (.bool true)) w := by
  unfold execOp; simp only [ho, hx, hy]; simp [eqGuard]; go_simp
theorem exec_addN {x y : Operand} {n m k : Int} {T : TypeId} (ho : o.op = .binOp .add 3 x y T) (hx : ρ x = .int .i64 n) (hy : ρ y = .int .i64 m) (h : n + m = k) (h1 : -9223372036854775808 ≤ k) (h2 : k < 9223372036854775808) : (execOp ρ o).run Try.prog w = .ok (.value (.int .i64 k)) w := by
  subst h
  have hw := wrap_id h1 h2
  unfold execOp; simp only [ho, hx, hy]; go_simp
theorem exec_subN {x y : Operand} {n m k : Int} {T : TypeId} (ho : o.op = .binOp .sub 3 x y T) (hx : ρ x = .int .i64 n) (hy : ρ y = .int .i64 m) (h : n - m = k) (h1 : -9223372036854775808 ≤ k) (h2 : k < 9223372036854775808) : (execOp ρ o).run Try.prog w = .ok (.value (.int .i64 k)) w := by
  subst h
  have hw := wrap_id h1 h2
  unfold execOp; simp only [ho, hx, hy]; go_simp
end
theorem load_intV {w : World} {p : Addr} {n : Int} (h : w.cell? p = some (.int .i64 n)) : (Instr.loadAt 3 (.pointer (some p))).run Try.prog w = .ok (.int .i64 n) w := by go_simp
section
variable {ops : Array Oper} {Q : Exit → Act → World → Prop} {md : Region.Mode} {S : World → Prop}
/-- An operation that is not wanted. -/
theorem skip_want (i : Nat) {oi : Oper} (dst : Option Tmp) {fuel : Nat} {listed : Array Bool} {a : Act} {w : World} (hi : ops[i]? = some oi) (hd : oi.dst = dst) (hg : Region.wanted oi (yielded ops a.tmps) = false)
    (hs : Region.noSelect ops = true) (hf : Region.free md ops listed i = true) (hr : (Region.ready md ops listed).contains i = true)
    (hQ : ∀ c a w, Q (.panic c) (a.put dst undef) w → Q (.panic c) a w) (hS : S w)
    (h : wpAnyH Try.prog md ops Q S fuel (listed.setIfInBounds i true) (a.put dst undef) w) : wpAnyH Try.prog md ops Q S (fuel + 1) listed a w := by
  subst hd
  exact wpAnyH_take hi hs hf hr hQ (Or.inr ⟨hg, rfl⟩) hS h
/-- Of two operations that may come up the first reads memory, the second is a call that leaves the world as it is. -/
theorem load_and_call (i j : Nat) {oi oj : Oper} (di dj : Option Tmp) {fuel : Nat} {listed : Array Bool} {a : Act} {w : World} (hi : ops[i]? = some oi) (hj : ops[j]? = some oj) (hdi : oi.dst = di) (hdj : oj.dst = dj) (hgi : oi.guard = none) (hgj : oj.guard = none)
    (hr : Region.ready md ops listed = [i, j]) (hri : Region.ready md ops (listed.setIfInBounds i true) = [j]) (hrj : Region.ready md ops (listed.setIfInBounds j true) = [i]) {vi vj : Value} {f : FuncId} {args : Array Value}
    (hruni : ∀ b, (b = a ∨ b = a.put dj vj) → (execOp b.eval oi).run Try.prog w = .ok (.value vi) w) (hrunj : ∀ b, (b = a ∨ b = a.put di vi) → (execOp b.eval oj).run Try.prog w = .ok (.enter f args) w) (hc : Calls Try.prog f args w fun e w' => e = .returned vj ∧ w' = w) (hS : S w)
    (hput : (a.put dj vj).put di vi = (a.put di vi).put dj vj) (hl : (listed.setIfInBounds j true).setIfInBounds i true = (listed.setIfInBounds i true).setIfInBounds j true)
    (h : wpAnyH Try.prog md ops Q S fuel ((listed.setIfInBounds i true).setIfInBounds j true) ((a.put di vi).put dj vj) w) : wpAnyH Try.prog md ops Q S (fuel + 2) listed a w := by
  subst hdi hdj
  refine wpAnyH_ready hr (by simp) (AllReadyH.cons hi (fun K hK => ?_) (AllReadyH.cons hj (fun K hK => ?_) AllReadyH.nil))
  · refine step_value hgi (hruni a (.inl rfl)) (hK.out _ _ hS (fun _ => ?_))
    refine only_call j oj.dst hj rfl hgj hri (hrunj _ (.inr rfl)) (hc.mono ?_)
    rintro e w' ⟨rfl, rfl⟩
    exact ⟨_, rfl, hS, h⟩
  · rw [if_pos (by simp [Region.wanted, hgj])]
    unfold Oper.wp
    rw [hrunj a (.inl rfl)]
    refine hc.mono ?_
    rintro e w' ⟨rfl, rfl⟩
    refine hK.out _ _ hS (fun _ => ?_)
    refine only_value i oi.dst hi rfl hgi hrj (hruni _ (.inr rfl)) hS ?_
    rw [hput, hl]; exact h
end
section
variable {ρ : Operand → Value} {o : Oper} {w : World}
theorem exec_not {x : Operand} {b : Bool} {T : TypeId} (ho : o.op = .unOp .not T x) (hx : ρ x = .bool b) : (execOp ρ o).run Try.prog w = .ok (.value (.bool (!b))) w := by
  unfold execOp; simp only [ho, hx]; go_simp
theorem exec_look2 {w' : World} {t : TypeId} {m x : Operand} {v mv xv : Value} (ho : o.op = .lookup t m x true) (hr : (Instr.lookup t mv xv true).run Try.prog w = .ok v w') (hm : ρ m = mv) (hx : ρ x = xv) : (execOp ρ o).run Try.prog w = .ok (.value v) w' := by
  unfold execOp; simp only [ho, hm, hx, hr, Sem.run_bind, Sem.run_pure, Result.andThen_ok]
theorem exec_delete {w' : World} {t k : TypeId} {m x : Operand} {mv xv : Value} (ho : o.op = .call { callee := .builtin .delete, args := #[m, x], argTypes := #[t, k] }) (hr : (Builtin.delete_ #[t, k] o.type #[mv, xv]).run Try.prog w = .ok (.tuple #[]) w') (hm : ρ m = mv) (hx : ρ x = xv) : (execOp ρ o).run Try.prog w = .ok (.value (.tuple #[])) w' := by
  unfold execOp; simp [ho, resolve, invoke, builtin, hm, hx, hr]
theorem exec_extract0 {x : Operand} {u v : Value} (ho : o.op = .extract x 0) (hx : ρ x = .tuple #[u, v]) : (execOp ρ o).run Try.prog w = .ok (.value u) w := by
  unfold execOp; simp only [ho, hx]; go_simp
theorem exec_extract1 {x : Operand} {u v : Value} (ho : o.op = .extract x 1) (hx : ρ x = .tuple #[u, v]) : (execOp ρ o).run Try.prog w = .ok (.value v) w := by
  unfold execOp; simp only [ho, hx]; go_simp
theorem exec_build0 {t : TypeId} {v : Value} (ho : o.op = .build t #[]) (hr : (Instr.build t #[]).run Try.prog w = .ok v w) : (execOp ρ o).run Try.prog w = .ok (.value v) w := by
  unfold execOp; simp [ho, hr]
theorem exec_build2 {t : TypeId} {i j : Nat} {x y : Operand} {v xv yv : Value} (ho : o.op = .build t #[(i, x), (j, y)]) (hr : (Instr.build t #[(i, xv), (j, yv)]).run Try.prog w = .ok v w) (hx : ρ x = xv) (hy : ρ y = yv) : (execOp ρ o).run Try.prog w = .ok (.value v) w := by
  unfold execOp; simp [ho, hr, hx, hy]
theorem exec_call4 {f : FuncId} {x y z u : Operand} {ts : Array TypeId} {xv yv zv uv : Value} (ho : o.op = .call { callee := .value (.func f), args := #[x, y, z, u], argTypes := ts }) (hcf : ∀ (args : Array Value) (w : World), (callFunc f args).run Try.prog w = .ok (.enter f args) w) (hf : ρ (.func f) = .func (.func f) #[] #[]) (hx : ρ x = xv) (hy : ρ y = yv) (hz : ρ z = zv) (hu : ρ u = uv) : (execOp ρ o).run Try.prog w = .ok (.enter f #[xv, yv, zv, uv]) w := by
  unfold execOp; simp [ho, resolve, Deferred.ofValue, invoke, hf, hx, hy, hz, hu, hcf]
theorem exec_call0 {f : FuncId} {ts : Array TypeId} (ho : o.op = .call { callee := .value (.func f), args := #[], argTypes := ts }) (hcf : ∀ (args : Array Value) (w : World), (callFunc f args).run Try.prog w = .ok (.enter f args) w) (hf : ρ (.func f) = .func (.func f) #[] #[]) : (execOp ρ o).run Try.prog w = .ok (.enter f #[]) w := by
  unfold execOp; simp [ho, resolve, Deferred.ofValue, invoke, hf, hcf]
end
end Go.Proofs.Ytnkcebngfnailaa
