/- What the law RefsOne leans on. -/
import Derived.Test.YtjopdejgijojmaaMv0
namespace Go.Proofs.Ytjopdejgijojmaa
open Go.RowKit Go.Extern

/-- 'v' is a slice of the numbers 'ns'; none of 'F' is its block. -/
structure IntsAt (F : Nat → Prop) (w : World) (ao : Option Addr) (g : Nat) (ns : List Int) : Prop where
  ad : 0 < ns.length → ao = some ⟨g, 0, none⟩
  out : 0 < ns.length → ¬ F g
  cells : ∀ (i : Nat) (n : Int), ns[i]? = some n → w.cell? ⟨g, i, none⟩ = some (.int .i64 n)
theorem IntsAt.below {F : Nat → Prop} {w w' : World} {ao : Option Addr} {g : Nat} {ns : List Int} (h : IntsAt F w ao g ns) (hb : Below w.heap.size w w') : IntsAt F w' ao g ns :=
  ⟨h.ad, h.out, fun i r hr => cell_same (hb.block g (cell_lt (h.cells i r hr))) (h.cells i r hr)⟩
theorem ints_at {F : Nat → Prop} {w : World} {base : Nat} {v : Value} {l : List Int} (h : w.ownsRow base 3 1 v l.length (l.map encI)) (hF : ∀ k, F k → k < base) : ∃ ao cap g, v = .slice ao l.length cap ∧ IntsAt F w ao g l := by
  rcases h.2 with ⟨rfl, h0⟩ | ⟨g, cap, cur, rfl, hg, hh, hc, hm, hs, ht⟩
  · exact ⟨none, 0, 0, by rw [h0], by omega, by omega, fun i o ho => by rw [List.length_eq_zero_iff.1 h0] at ho; simp at ho⟩
  · refine ⟨_, cap, g, rfl, fun _ => rfl, fun _ hx => by have := hF g hx; omega, fun i o ho => ?_⟩
    have := World.ownsRow.cells h (g := g) rfl i (.int .i64 o) (by rw [List.getElem?_map, ho]; rfl)
    rw [add_plain, Nat.zero_add] at this; exact this
/-- How many owners so many addresses have. -/
def addrSum (l : List Ref) (ns : List Int) : Nat := (ns.map (fun a => (byS l a).length)).sum
theorem sum_zero : ∀ (ns : List Int), (ns.map (fun _ => 0)).sum = 0
  | [] => rfl
  | _ :: t => by simp only [List.map_cons, List.sum_cons, sum_zero t]
theorem sum_add (f g : Int → Nat) : ∀ (ns : List Int), (ns.map (fun a => f a + g a)).sum = (ns.map f).sum + (ns.map g).sum
  | [] => rfl
  | a :: t => by simp only [List.map_cons, List.sum_cons, sum_add f g t]; omega
theorem sum_one {x : Int} : ∀ {ns : List Int}, ns.Nodup → (ns.map (fun a => if x = a then 1 else 0)).sum = if x ∈ ns then 1 else 0
  | [], _ => by simp
  | a :: t, h => by
    have h1 := List.nodup_cons.1 h
    simp only [List.map_cons, List.sum_cons, sum_one h1.2]
    by_cases e : x = a
    · subst e; simp [h1.1]
    · simp [e]
theorem sum_filter (ns : List Int) (hn : ns.Nodup) : ∀ (l : List Ref), (∀ r ∈ l, r.2 ∈ ns) → (ns.map (fun a => (l.filter (fun r => decide (r.2 = a))).length)).sum = l.length
  | [], _ => by simp [sum_zero]
  | r :: t, h => by
    have ih := sum_filter ns hn t (fun q hq => h q (by simp [hq]))
    have e : (fun a => ((r :: t).filter (fun r => decide (r.2 = a))).length) = (fun a => (if r.2 = a then 1 else 0) + (t.filter (fun r => decide (r.2 = a))).length) := by
      funext a
      by_cases hx : r.2 = a
      · simp [hx]; omega
      · simp [hx]
    rw [e, sum_add, ih, sum_one hn, if_pos (h r (by simp))]
    simp; omega
theorem addrSum_all {l : List Ref} {ns : List Int} (h : IsAddrs l ns) : addrSum l ns = l.length := by
  have hn : ns.Nodup := by rw [List.nodup_iff_pairwise_ne]; exact h.1.imp (fun h => by omega)
  have := sum_filter ns hn l (fun r hr => (h.2 r.2).2 ⟨r.1, hr⟩)
  unfold addrSum byS
  simpa using this
theorem addrSum_snoc {l : List Ref} {ns : List Int} {j : Nat} {a : Int} (h : ns[j]? = some a) : addrSum l (ns.take (j + 1)) = addrSum l (ns.take j) + (byS l a).length := by
  unfold addrSum; rw [take_snoc h, List.map_append, List.sum_append]; simp
theorem addrSum_le {l : List Ref} {ns : List Int} (h : IsAddrs l ns) (j : Nat) : addrSum l (ns.take j) ≤ l.length := by
  rw [← addrSum_all h]
  have : addrSum l ns = addrSum l (ns.take j) + addrSum l (ns.drop j) := by
    unfold addrSum
    rw [← List.sum_append, ← List.map_append, List.take_append_drop]
  omega
/-- What stands while the owners of an address are looked through. -/
structure S4 (w : World) (F : Nat → Prop) (b : Nat) (l : List Ref) (ao : Option Addr) (g : Nat) (m : List Own) (ao2 : Option Addr) (g2 : Nat) (ns : List Int) (x : Nat) (o : Own) (wx : World) : Prop where
  rf : Rf wx F b l none
  os : OwnsAt F wx ao g m
  ns : IntsAt F wx ao2 g2 ns
  bx : BoxO wx x o
  bel : Below w.heap.size w wx
theorem S4.below {w : World} {F : Nat → Prop} {b : Nat} {l : List Ref} {ao : Option Addr} {g : Nat} {m : List Own} {ao2 : Option Addr} {g2 : Nat} {ns : List Int} {x : Nat} {o : Own} {wx wy : World} (h : S4 w F b l ao g m ao2 g2 ns x o wx) (hb : Below wx.heap.size wx wy) : S4 w F b l ao g m ao2 g2 ns x o wy :=
  ⟨h.rf.below hb, h.os.below hb, h.ns.below hb, h.bx.below hb, h.bel.trans (hb.mono h.bel.size)⟩
section
variable {ρ : Operand → Value} {o : Oper} {w : World} {x y : Operand} {n m : Int} {T : TypeId}
theorem exec_geqT (ho : o.op = .binOp .geq 3 x y T) (hx : ρ x = .int .i64 n) (hy : ρ y = .int .i64 m) (h : m ≤ n) : (execOp ρ o).run Try.prog w = .ok (.value (.bool true)) w := by
  unfold execOp; simp only [ho, hx, hy]; go_simp
theorem exec_nilF {z : Tmp} {c : Int} (ho : o.op = .binOp .eql 32 (.tmp z) (.const .nilIface) T) (hx : ρ (.tmp z) = .iface 66 (.int .i64 c)) (hy : ρ (.const .nilIface) = .nilIface) : (execOp ρ o).run Try.prog w = .ok (.value (.bool false)) w := by
  unfold execOp; simp only [ho, hx, hy]; simp [eqGuard]; go_simp
theorem exec_neqB {c : Bool} (ho : o.op = .binOp .neq 4 x y T) (hx : ρ x = .bool c) (hy : ρ y = .bool c) : (execOp ρ o).run Try.prog w = .ok (.value (.bool false)) w := by
  unfold execOp; simp only [ho, hx, hy]; cases c <;> go_simp
theorem exec_eqlOF {a c : Own} (ho : o.op = .binOp .eql 35 x y T) (hr : (binOp .eql 35 (encO a) (encO c)).run Try.prog w = .ok (.bool false) w) (hx : ρ x = encO a) (hy : ρ y = encO c) : (execOp ρ o).run Try.prog w = .ok (.value (.bool false)) w := by
  unfold encO at *
  unfold execOp; simp only [ho, hx, hy]; simp [eqGuard, hr]
end
theorem eqlO (a b : Own) (w : World) (h : a ≠ b) : (binOp .eql 35 (encO a) (encO b)).run Try.prog w = .ok (.bool false) w := by
  unfold encO
  by_cases h1 : a.1 = b.1
  · have h2 : (a.2 == b.2) = false := by simpa using (fun e => h (own_ext h1 e))
    have h1' : (a.1 == b.1) = true := by simpa using h1
    go_simp
  · have h1' : (a.1 == b.1) = false := by simpa using h1
    go_simp
theorem fldR0 (b : Nat) (w : World) : (Instr.fieldAt 28 (.pointer (some ⟨b, 0, none⟩)) 0).run Try.prog w = .ok (.pointer (some ⟨b, 0, none⟩)) w := by kernel_rfl
theorem fldR1 (b : Nat) (w : World) : (Instr.fieldAt 28 (.pointer (some ⟨b, 0, none⟩)) 1).run Try.prog w = .ok (.pointer (some ⟨b, 1, none⟩)) w := by kernel_rfl
theorem fldR2 (b : Nat) (w : World) : (Instr.fieldAt 28 (.pointer (some ⟨b, 0, none⟩)) 2).run Try.prog w = .ok (.pointer (some ⟨b, 2, none⟩)) w := by kernel_rfl
theorem load_own_at {w : World} {x i : Nat} {o : Own} (h0 : w.cell? ⟨x, i, none⟩ = some (.int .i64 o.1)) (h1 : w.cell? ⟨x, i + 1, none⟩ = some (.int .i64 o.2)) : (Instr.loadAt 35 (.pointer (some ⟨x, i, none⟩))).run Try.prog w = .ok (encO o) w := by unfold encO; go_simp
theorem enterOwners (args : Array Value) (w : World) : (callFunc 20 args).run Try.prog w = .ok (.enter 20 args) w := by kernel_rfl
/-- The one operation that may come up, if it is wanted, tells a value. -/
theorem only_valueW {ops : Array Oper} {Q : Exit → Act → World → Prop} {md : Region.Mode} {S : World → Prop} (i : Nat) {oi : Oper} (dst : Option Tmp) {fuel : Nat} {listed : Array Bool} {a : Act} {w : World} (hi : ops[i]? = some oi) (hd : oi.dst = dst) (hg : Region.wanted oi (yielded ops a.tmps) = true) (hr : Region.ready md ops listed = [i])
    {v : Value} {w' : World} (hrun : (execOp a.eval oi).run Try.prog w = .ok (.value v) w') (hS : S w') (h : wpAnyH Try.prog md ops Q S fuel (listed.setIfInBounds i true) (a.put dst v) w') : wpAnyH Try.prog md ops Q S (fuel + 1) listed a w := by
  subst hd
  refine wpAnyH_ready hr (by simp) (AllReadyH.cons hi (fun K hK => ?_) AllReadyH.nil)
  rw [if_pos hg]
  unfold Oper.wp
  rw [hrun]
  exact hK.out _ _ hS (fun _ => h)
end Go.Proofs.Ytjopdejgijojmaa
