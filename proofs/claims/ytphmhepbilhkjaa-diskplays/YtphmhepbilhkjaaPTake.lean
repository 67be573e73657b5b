/- Steps of a region that draws its order and has guards. -/
import Derived.Test.YtphmhepbilhkjaaPl2
import Derived.Deep.DeepCutAuto
namespace Go.Proofs.Ytphmhepbilhkjaa
open Go.RowKit Go.Extern

section
variable {ops : Array Oper} {Q : Exit → Act → World → Prop} {md : Region.Mode} {S : World → Prop}
theorem take_want (i : Nat) {oi : Oper} (dst : Option Tmp) (v : Value) {fuel : Nat} {listed : Array Bool} {a : Act} {w : World} (hi : ops[i]? = some oi) (hd : oi.dst = dst) (hg : Region.wanted oi (yielded ops a.tmps) = true)
    (hs : Region.noSelect ops = true) (hf : Region.free md ops listed i = true) (hr : (Region.ready md ops listed).contains i = true)
    (hQ : ∀ c a w, Q (.panic c) (a.put dst v) w → Q (.panic c) a w) (hrun : ∀ wx, S wx → (execOp a.eval oi).run Try.prog wx = .ok (.value v) wx) (hS : S w)
    (h : wpAnyH Try.prog md ops Q S fuel (listed.setIfInBounds i true) (a.put dst v) w) : wpAnyH Try.prog md ops Q S (fuel + 1) listed a w := by
  subst hd
  exact wpAnyH_take hi hs hf hr hQ (Or.inl ⟨hg, hrun⟩) hS h
theorem call_want (i : Nat) {oi : Oper} (dst : Option Tmp) {fuel : Nat} {listed : Array Bool} {a : Act} {w : World} (hi : ops[i]? = some oi) (hd : oi.dst = dst) (hg : Region.wanted oi (yielded ops a.tmps) = true) (hr : Region.ready md ops listed = [i])
    {f : FuncId} {args : Array Value} (hrun : (execOp a.eval oi).run Try.prog w = .ok (.enter f args) w)
    (hc : Calls Try.prog f args w fun e w' => ∃ v, e = .returned v ∧ S w' ∧ wpAnyH Try.prog md ops Q S fuel (listed.setIfInBounds i true) (a.put dst v) w') : wpAnyH Try.prog md ops Q S (fuel + 1) listed a w := by
  subst hd
  refine wpAnyH_ready hr (by simp) (AllReadyH.cons hi (fun K hK => ?_) AllReadyH.nil)
  rw [if_pos hg]
  unfold Oper.wp
  rw [hrun]
  refine hc.mono ?_
  rintro e w' ⟨v, rfl, hS, h⟩
  exact hK.out _ _ hS (fun _ => h)
end
section
variable {ρ : Operand → Value} {o : Oper} {w : World}
theorem exec_not {x : Operand} {b : Bool} {T : TypeId} (ho : o.op = .unOp .not T x) (hx : ρ x = .bool b) : (execOp ρ o).run Try.prog w = .ok (.value (.bool (!b))) w := by
  unfold execOp; simp only [ho, hx]; go_simp
theorem exec_pickF {c x y : Operand} {v : Value} (ho : o.op = .pick c x y) (hc : ρ c = .bool false) (hy : ρ y = v) : (execOp ρ o).run Try.prog w = .ok (.value v) w := by
  unfold execOp; simp [ho, hc, hy, asBool]
theorem exec_neqN {x y : Operand} {n : Int} {T : TypeId} (ho : o.op = .binOp .neq 3 x y T) (hx : ρ x = .int .i64 n) (hy : ρ y = .int .i64 n) : (execOp ρ o).run Try.prog w = .ok (.value (.bool false)) w := by
  unfold execOp; simp only [ho, hx, hy]; go_simp
theorem len_rsecs (w : World) (a : Option Addr) (n c : Nat) : (Builtin.len_ #[43] 3 #[.slice a n c]).run Try.prog w = .ok (.int .i64 (n : Int)) w := by kernel_rfl
end
theorem enterSame (args : Array Value) (w : World) : (callFunc 16 args).run Try.prog w = .ok (.enter 16 args) w := by kernel_rfl
theorem enterSize (args : Array Value) (w : World) : (callFunc 17 args).run Try.prog w = .ok (.enter 17 args) w := by kernel_rfl
theorem enterPending (args : Array Value) (w : World) : (callFunc 19 args).run Try.prog w = .ok (.enter 19 args) w := by kernel_rfl
theorem enterRPending (args : Array Value) (w : World) : (callFunc 20 args).run Try.prog w = .ok (.enter 20 args) w := by kernel_rfl
theorem enterInts (args : Array Value) (w : World) : (callFunc 18 args).run Try.prog w = .ok (.enter 18 args) w := by kernel_rfl
theorem pendI_in {S : List Sec} (h : S.length ≤ 4096) : ∀ k ∈ pendI S, I64 k := fun k hk => by
  unfold pendI at hk
  obtain ⟨i, hi, rfl⟩ := List.mem_map.1 hk
  rw [mem_pend] at hi
  obtain ⟨s, hs, -⟩ := hi
  have := (List.getElem?_eq_some_iff.1 hs).1
  exact I64.nat (by omega)
/-- What Pending tells is a slice of numbers. -/
theorem pend_ints {S : List Sec} {w : World} {B : Nat} {v : Value} (h : w.ownsRow B 3 1 v (pendI S).length ((pendI S).map (Value.int .i64))) (hl : S.length ≤ 4096) : Ints w v (pendI S) :=
  ints_of_row (ownsRow_base_a h (Nat.zero_le _)) (pendI_in hl) (by rw [pendI_length]; have := pend_length S; omega)
theorem same_same (a : List Nat) (v u : Value) (w : World) (hv : Bytes w v a) (hu : Bytes w u a) : Calls Try.prog 16 #[v, u] w fun e w' => e = .returned (.bool true) ∧ w' = w := by
  have h := same_any a a v u w hv hu
  rw [show decide (a = a) = true by simp] at h
  exact h
theorem ints_same (w : World) (u v : Value) (xs : List Int) (hu : Ints w u xs) (hv : Ints w v xs) (hl : xs.length ≤ 1000000) : Calls Try.prog 18 #[u, v] w fun e w' => e = .returned (.bool true) ∧ Below w.heap.size w w' := by
  have h := ints_any w u v xs xs hu hv hl
  rw [show decide (xs = xs) = true by simp] at h
  exact h
end Go.Proofs.Ytphmhepbilhkjaa
