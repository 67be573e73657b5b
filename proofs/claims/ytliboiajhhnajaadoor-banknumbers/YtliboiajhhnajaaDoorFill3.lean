/- A value of many cells laid into others at once: slices and structs that are written out. -/
import Derived.Test.YtliboiajhhnajaaDoorPut3
import Derived.Great.BuildSlice
namespace Go.Proofs.YtliboiajhhnajaaDoor
open Go.RowKit Go.Extern

theorem fold_lay : ∀ (cs : List Value) (n o : Nat) (z : Array Value), n + o + cs.length ≤ z.size →
    ((cs.zipIdx n).foldl (fun acc (x : Value × Nat) => acc.setIfInBounds (o + x.2) x.1) z).toList = z.toList.take (o + n) ++ cs ++ z.toList.drop (o + n + cs.length)
  | [], n, o, z, h => by simp
  | c :: cs, n, o, z, h => by
    have hn : o + n < z.toList.length := by simp only [List.length_cons] at h; simp; omega
    rw [List.zipIdx_cons, List.foldl_cons, fold_lay cs (n + 1) o _ (by simp only [List.length_cons] at h; simp; omega)]
    simp only [Array.toList_setIfInBounds]
    have e1 : (z.toList.set (o + n) c).take (o + (n + 1)) = z.toList.take (o + n) ++ [c] := by
      rw [show o + (n + 1) = (o + n) + 1 by omega, List.take_add_one, List.getElem?_set_self hn, List.take_set_of_le (Nat.le_refl _)]; rfl
    have e2 : (z.toList.set (o + n) c).drop (o + (n + 1) + cs.length) = z.toList.drop (o + n + (c :: cs).length) := by
      rw [List.drop_set_of_lt (by omega)]; congr 1; simp only [List.length_cons]; omega
    rw [e1, e2]; simp
theorem fold_array (cs : List Value) (o : Nat) (z : Array Value) (h : o + cs.length ≤ z.size) :
    (cs.toArray.zipIdx.foldl (fun acc (x : Value × Nat) => acc.setIfInBounds (o + x.2) x.1) z) = (z.toList.take o ++ cs ++ z.toList.drop (o + cs.length)).toArray := by
  apply Array.toList_inj.1
  have := fold_lay cs 0 o z (by omega)
  simp only [Nat.add_zero] at this
  rw [← this, ← Array.foldl_toList]
  simp

theorem infoC3 : (Tryd.prog.info? 75).map (fun i => (i.zero, i.size, i.bytes)) = some (some (conV zeros), 128, 128) := by kernel_rfl
theorem range_size (n : Nat) (z : Array Value) : ((Array.range n).map (fun k => z[k % z.size]!)).size = n := by simp
/-- A slice of one sector's bytes, written out. -/
theorem run_one (w : World) (c : List Nat) (hc : Con c) : (Instr.buildSlice 111 1 #[(0, conV c)]).run Tryd.prog w = .ok (.slice (some ⟨w.heap.size, 0, none⟩) 1 1) (w.alloc (.cells (conC c) 75)) := by
  obtain ⟨i, hi, hz, hs, -⟩ := info_parts infoC3
  refine run_buildSlice w 111 75 1 _ (conC c) i (conV zeros) Tryd.underlying111 hi hz (by rw [hs]; decide) (by rw [hs]; decide) ?_
  rw [hs]
  have hl : (cellsB c).length = 128 := by rw [cellsB_length, hc.1]
  have hsz : ((Array.range (1 * 128)).map ((conV zeros).cells[· % (conV zeros).cells.size]!)).size = 128 := by simp
  generalize ((Array.range (1 * 128)).map ((conV zeros).cells[· % (conV zeros).cells.size]!)) = z at hsz
  show Instr.fill _ z [(0, conV c)] = _
  unfold Instr.fill
  have e1 : (conV c).cells = (cellsB c).toArray := rfl
  rw [e1]
  simp only [Nat.zero_mul, List.size_toArray, hl, hsz]
  have e2 := fold_array (cellsB c) 0 z (by rw [hl, hsz]; decide)
  rw [hl] at e2
  rw [e2, List.drop_of_length_le (by simp [hsz])]
  simp [Instr.fill, conC]

/-- One step of a region: an operation that tells a value, one that tells none. -/
theorem step_value {ops : Array Oper} {o : Oper} {a : Act} {w w' : World} {v : Value} {K : Act → World → Prop} {Q : Exit → Act → World → Prop} {E : Prop} (hg : o.guard = none) (hrun : (execOp a.eval o).run Tryd.prog w = .ok (.value v) w') (hK : K (a.put o.dst v) w') :
    if Region.wanted o (yielded ops a.tmps) = true then Oper.wp Tryd.prog o a w K Q else E := by
  rw [if_pos (by simp [Region.wanted, hg])]
  unfold Oper.wp
  rw [hrun]
  exact hK
theorem step_skip {ops : Array Oper} {o : Oper} {a : Act} {w w' : World} {K : Act → World → Prop} {Q : Exit → Act → World → Prop} {E : Prop} (hg : o.guard = none) (hrun : (execOp a.eval o).run Tryd.prog w = .ok .skip w') (hK : K (a.put o.dst undef) w') :
    if Region.wanted o (yielded ops a.tmps) = true then Oper.wp Tryd.prog o a w K Q else E := by
  rw [if_pos (by simp [Region.wanted, hg])]
  unfold Oper.wp
  rw [hrun]
  exact hK
section
variable {ρ : Operand → Value} {o : Oper} {w w' : World}
theorem exec_lookup {t : TypeId} {m x : Operand} {v mv xv : Value} (ho : o.op = .lookup t m x false) (hr : (Instr.lookup t mv xv false).run Tryd.prog w = .ok v w') (hm : ρ m = mv) (hx : ρ x = xv) : (execOp ρ o).run Tryd.prog w = .ok (.value v) w' := by
  unfold execOp; simp only [ho, hm, hx, hr, Sem.run_bind, Sem.run_pure, Result.andThen_ok]
theorem exec_load {t : TypeId} {m : Operand} {v mv : Value} (ho : o.op = .load t m) (hr : (Instr.loadAt t mv).run Tryd.prog w = .ok v w') (hm : ρ m = mv) : (execOp ρ o).run Tryd.prog w = .ok (.value v) w' := by
  unfold execOp; simp only [ho, hm, hr, Sem.run_bind, Sem.run_pure, Result.andThen_ok]
theorem exec_store {t : TypeId} {m x : Operand} {mv xv : Value} (ho : o.op = .store t m x) (hr : (Instr.storeAt t mv xv).run Tryd.prog w = .ok () w') (hm : ρ m = mv) (hx : ρ x = xv) : (execOp ρ o).run Tryd.prog w = .ok .skip w' := by
  unfold execOp; simp only [ho, hm, hx, hr, Sem.run_bind, Sem.run_pure, Result.andThen_ok]
theorem exec_one {t : TypeId} {x : Operand} {v xv : Value} (ho : o.op = .buildSlice t 1 #[(0, x)]) (hr : (Instr.buildSlice t 1 #[(0, xv)]).run Tryd.prog w = .ok v w') (hx : ρ x = xv) : (execOp ρ o).run Tryd.prog w = .ok (.value v) w' := by
  unfold execOp; simp [ho, hx, hr]
theorem exec_append {t : TypeId} {x y : Operand} {v xv yv : Value} (ho : o.op = .call { callee := .builtin .append, args := #[x, y], argTypes := #[t, t] }) (hr : (Builtin.append_ #[t, t] o.type #[xv, yv]).run Tryd.prog w = .ok v w') (hx : ρ x = xv) (hy : ρ y = yv) : (execOp ρ o).run Tryd.prog w = .ok (.value v) w' := by
  unfold execOp; simp [ho, resolve, invoke, builtin, hx, hy, hr]
theorem exec_update {t : TypeId} {m k x : Operand} {mv kv xv : Value} (ho : o.op = .mapUpdate t m k x) (hr : (Instr.mapUpdate t mv kv xv).run Tryd.prog w = .ok () w') (hm : ρ m = mv) (hk : ρ k = kv) (hx : ρ x = xv) : (execOp ρ o).run Tryd.prog w = .ok .skip w' := by
  unfold execOp; simp only [ho, hm, hk, hx, hr, Sem.run_bind, Sem.run_pure, Result.andThen_ok]
end
end Go.Proofs.YtliboiajhhnajaaDoor
