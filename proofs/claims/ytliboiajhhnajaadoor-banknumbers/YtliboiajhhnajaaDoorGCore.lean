/- What one sector more leaves of a disk. -/
import Derived.Test.YtliboiajhhnajaaDoorWCore
namespace Go.Proofs.YtliboiajhhnajaaDoor
open Go.RowKit Go.Extern

/-- A sector as one value. -/
def secA (s : Sec) : Array Value := (secC s).toArray
def secV (s : Sec) : Value := .agg (secA s)
def zeroSec : Sec := ⟨zeros, false, []⟩
theorem zeroSec_good : GoodSec zeroSec := ⟨zeros_con, by simp [zeroSec]⟩
theorem secC_one (s : Sec) : ∀ u ∈ secC s, u.oneCell' = true := fun u hu => by
  rcases List.mem_append.1 hu with h | h
  · exact cellsB_one _ u h
  · rw [List.mem_singleton.1 h]; rfl
theorem infoS3 : (Tryd.prog.info? 77).map (fun i => (i.zero, i.size, i.bytes)) = some (some (secV zeroSec), 129, 129) := by kernel_rfl
theorem run_build0 (w : World) : (Instr.build 77 #[]).run Tryd.prog w = .ok (secV zeroSec) w := by kernel_rfl
theorem exec_build {ρ : Operand → Value} {o : Oper} {w : World} {t : TypeId} {v : Value} (ho : o.op = .build t #[]) (hr : (Instr.build t #[]).run Tryd.prog w = .ok v w) : (execOp ρ o).run Tryd.prog w = .ok (.value v) w := by
  unfold execOp; simp [ho, hr]
/-- A slice of one sector, written out. -/
theorem run_oneS (w : World) (s : Sec) (hs : Con s.dur) : (Instr.buildSlice 57 1 #[(0, secV s)]).run Tryd.prog w = .ok (.slice (some ⟨w.heap.size, 0, none⟩) 1 1) (w.alloc (.cells (secA s) 77)) := by
  obtain ⟨i, hi, hz, hsz0, -⟩ := info_parts infoS3
  refine run_buildSlice w 57 77 1 _ (secA s) i (secV zeroSec) Tryd.underlying57 hi hz (by rw [hsz0]; decide) (by rw [hsz0]; decide) ?_
  rw [hsz0]
  have hl : (secC s).length = 129 := secC_length hs
  have hsz : ((Array.range (1 * 129)).map ((secV zeroSec).cells[· % (secV zeroSec).cells.size]!)).size = 129 := by simp
  generalize ((Array.range (1 * 129)).map ((secV zeroSec).cells[· % (secV zeroSec).cells.size]!)) = z at hsz
  show Instr.fill _ z [(0, secV s)] = _
  unfold Instr.fill
  have e1 : (secV s).cells = (secC s).toArray := rfl
  rw [e1]
  simp only [Nat.zero_mul, List.size_toArray, hl, hsz]
  have e2 := fold_array (secC s) 0 z (by rw [hl, hsz]; decide)
  rw [hl] at e2
  rw [e2, List.drop_of_length_le (by simp [hsz])]
  simp [Instr.fill, secA]
theorem wpList_exec {w w' : World} {ops : Array Oper} {rest : List Oper} {o : Oper} {a : Act} {Q : Exit → Act → World → Prop} {v : Value} (hgd : o.guard = none) (hrun : (execOp a.eval o).run Tryd.prog w = .ok (.value v) w') (h : wpList Tryd.prog ops Q rest (a.put o.dst v) w') : wpList Tryd.prog ops Q (o :: rest) a w := by
  refine wpList_plain hgd fun K hK => ?_
  unfold Oper.wp
  rw [hrun]
  exact hK _ _ h
theorem wpList_build0 {w : World} {ops : Array Oper} {rest : List Oper} {o : Oper} {a : Act} {Q : Exit → Act → World → Prop} (hgd : o.guard = none) (ho : o.op = .build 77 #[]) (h : wpList Tryd.prog ops Q rest (a.put o.dst (secV zeroSec)) w) : wpList Tryd.prog ops Q (o :: rest) a w :=
  wpList_exec hgd (exec_build ho (run_build0 w)) h
theorem wpList_oneS {w : World} {ops : Array Oper} {rest : List Oper} {o : Oper} {a : Act} {Q : Exit → Act → World → Prop} {x : Operand} (hgd : o.guard = none) (ho : o.op = .buildSlice 57 1 #[(0, x)]) (s : Sec) (hs : Con s.dur) (hx : a.eval x = secV s)
    (h : wpList Tryd.prog ops Q rest (a.put o.dst (.slice (some ⟨w.heap.size, 0, none⟩) 1 1)) (w.alloc (.cells (secA s) 77))) : wpList Tryd.prog ops Q (o :: rest) a w :=
  wpList_exec hgd (exec_one ho (run_oneS w s hs) hx) h
theorem wpList_appendS {w w' : World} {ops : Array Oper} {rest : List Oper} {o : Oper} {a : Act} {Q : Exit → Act → World → Prop} {x y : Operand} {v xv yv : Value} (hgd : o.guard = none) (ho : o.op = .call { callee := .builtin .append, args := #[x, y], argTypes := #[57, 57] })
    (hr : (Builtin.append_ #[57, 57] 57 #[xv, yv]).run Tryd.prog w = .ok v w') (hty : o.type = 57) (hx : a.eval x = xv) (hy : a.eval y = yv)
    (h : wpList Tryd.prog ops Q rest (a.put o.dst v) w') : wpList Tryd.prog ops Q (o :: rest) a w :=
  wpList_exec hgd (exec_append ho (by rw [hty]; exact hr) hx hy) h

theorem secsC_snoc (S : List Sec) (s : Sec) : secsC (S ++ [s]) = secsC S ++ secC s := by simp [secsC]
theorem wt_snoc (S : List Sec) (k : Int) : wt (S ++ [zeroSec]) k = wt S k := by
  unfold wt
  split
  · by_cases h : k.toNat < S.length
    · rw [List.getElem?_append_left h]
    · rw [List.getElem?_append_right (by omega), List.getElem?_eq_none (l := S) (by omega)]
      cases hk : k.toNat - S.length with
      | zero => rfl
      | succ n => rfl
  · rfl
theorem two_set0 {w : World} {b : Nat} {x y : Value} {T : TypeId} (z : Value) (h : w.heap[b]? = some (.cells #[x, y] T (0, 0))) : (w.setCell ⟨b, 0, none⟩ z).heap[b]? = some (.cells #[z, y] T (0, 0)) := by
  have e1 := setCell_eq_setRow w b 0 _ _ _ z h
  have h1 := setRow_heap w b _ (#[x, y].setIfInBounds 0 z) _ _ h
  rw [← e1] at h1
  rw [h1]; rfl
theorem two_set1 {w : World} {b : Nat} {x y : Value} {T : TypeId} (z : Value) (h : w.heap[b]? = some (.cells #[x, y] T (0, 0))) : (w.setCell ⟨b, 1, none⟩ z).heap[b]? = some (.cells #[x, z] T (0, 0)) := by
  have e1 := setCell_eq_setRow w b 1 _ _ _ z h
  have h1 := setRow_heap w b _ (#[x, y].setIfInBounds 1 z) _ _ h
  rw [← e1] at h1
  rw [h1]; rfl

/-- What a row's block cannot be. -/
theorem row_block {w : World} {e : TypeId} {size : Nat} {v : Value} {n : Nat} {xs : List Value} (h : w.ownsRow 0 e size v n xs) {g : Nat} (hv : v.ownBlock = some g) : ∃ cur, w.heap[g]? = some (.cells cur e (0, 0)) := by
  rcases h.2 with ⟨rfl, -⟩ | ⟨g', cap', cur', rfl, -, hh, -⟩
  · simp [Value.ownBlock] at hv
  · simp only [Value.ownBlock, Option.some.injEq] at hv
    subst hv
    exact ⟨_, hh⟩
theorem map_block {H : Type} {w : World} {P : Program} {k : TypeId} {R : Value → Option (DataW H × List MemPlace)} {b n : Nat} {D : DataW H} (h : w.ownsMap P k R b n D) : ∃ es clock, w.heap[b]? = some (.map es clock) := by
  obtain ⟨es, clock, hb, -⟩ := h; exact ⟨es, clock, hb⟩

set_option maxRecDepth 100000 in
theorem grow_core {w w2 : World} {F : Nat → Prop} {b mb : Nat} {S : List Sec} {v : Value} {D : DataW Value} (h : DkAt w F b S v mb D) (hlen : S.length < 4096)
    (hb2 : Below w.heap.size w w2) {nb : Nat} (hnb : w2.heap[nb]? = some (.cells (secA zeroSec) 77 (0, 0))) :
    ∃ v' w3, (∃ ao n cap, v' = .slice ao n cap) ∧ (Builtin.append_ #[57, 57] 57 #[v, .slice (some ⟨nb, 0, none⟩) 1 1]).run Tryd.prog w2 = .ok v' w3 ∧ w3.cell? ⟨b, 0, none⟩ = some v ∧ w3.frozen? ⟨b, 0, none⟩ = false ∧
      Dk (w3.setCell ⟨b, 0, none⟩ v') (ext F w (w3.setCell ⟨b, 0, none⟩ v')) b (S ++ [zeroSec]) ∧ Turn F w (w3.setCell ⟨b, 0, none⟩ v') := by
  have h2 := h.below hb2
  obtain ⟨i0, hi, hz0, hz1, hz2⟩ := info_parts infoS3
  obtain ⟨v', w3, hrun, hown, hg3, -, hloc⟩ := run_append_own_at (P := Tryd.prog) w2 0 57 57 77 i0 (secV zeroSec) 129 129 Tryd.underlying57 hi hz0 hz1 hz2 (by simp [secV, Value.cells, secA, secC_length (show Con zeroSec.dur from zeros_con)]) (by decide) _ _ _ h2.secs ⟨nb, 0, none⟩ 1 1 (secC zeroSec)
    (by rw [secC_length (show Con zeroSec.dur from zeros_con)]) (fun j u hu => by
      rw [Addr.add_mid, cell_of_row w2 nb _ _ _ _ hnb, Nat.zero_add]
      unfold secA
      rw [List.getElem?_toArray]; exact hu) (secC_one _) (by unfold maxLen; omega) (by omega) (Nat.zero_le _)
  have hvb : v.ownBlock ≠ some b := fun e => by
    obtain ⟨cur, hh⟩ := row_block h2.secs e
    have := h2.blk
    rw [hh] at this; simp at this
  have hblk3 : w3.heap[b]? = some (.cells #[v, .map (some mb)] 60 (0, 0)) := by rw [hg3.block b (heap_lt h2.blk) (fun e => hvb e.symm)]; exact h2.blk
  have hstay : ∀ j o, j ≠ b → v.ownBlock ≠ some j → w2.heap[j]? = some o → (w3.setCell ⟨b, 0, none⟩ v').heap[j]? = some o := fun j o h1 h3 h5 => by
    rw [Below.heap_setCell _ _ _ _ h1, hg3.block j (heap_lt h5) (fun e => h3 e.symm)]; exact h5
  have hv'b : v'.ownBlock ≠ some b := fun e => by
    obtain ⟨cur, hh⟩ := row_block hown e
    rw [hblk3] at hh; simp at hh
  have htn : Turn F w (w3.setCell ⟨b, 0, none⟩ v') :=
    (Turn.of_below hb2).trans ((Turn.of_grown (F := F) hg3 (fun j hj => h.inS j hj)).trans (F1 := F) ⟨rfl, rfl, rfl, by simp [World.setCell], fun j _ hn => Below.heap_setCell _ _ _ _ (fun e => hn (by rw [e]; exact h.inB))⟩ (fun _ _ h => h)) (fun _ _ h => h)
  refine ⟨v', w3, (by obtain ⟨ao', cap', e⟩ := ownsRow_form hown; exact ⟨_, _, _, e⟩), hrun, two_cell0 hblk3, row_frozen hblk3 0, ⟨v', mb, D, two_set0 v' hblk3, ?_, ?_, fun k hk => ?_, fun kl => ?_, h.apart, .inl h.inB, .inl h.inM, fun g hg => ?_, fun k g hk hg => .inl (h.inV k g hk hg), ?_⟩, htn⟩
  · rw [List.length_append, secsC_snoc]
    refine ownsRow_of_block hown fun g o hv hg => ?_
    rw [Below.heap_setCell _ _ _ _ (fun e => hv'b (by have e' : g = b := e; rw [← e']; exact hv))]; exact hg
  · obtain ⟨es, clock, hm⟩ := map_block h2.map
    refine ownsMap_of_block h2.map fun o ho => hstay mb o (fun e => ?_) (fun e => ?_) ho
    · have := h2.blk; rw [← e, hm] at this; cases this
    · obtain ⟨cur, hh⟩ := row_block h2.secs e
      rw [hm] at hh; cases hh
  · rw [wt_snoc]
    refine ownsRow_of_block (h2.rows k hk) fun g o hv hg => ?_
    obtain ⟨cur, hh⟩ := row_block (h2.rows k hk) hv
    refine hstay g o (fun e => ?_) (fun e => ?_) hg
    · have := h2.blk; rw [← e, hh] at this; simp at this
    · obtain ⟨cur2, hh2⟩ := row_block h2.secs e
      rw [hh] at hh2; simp at hh2
  · rw [h.keys]
    constructor
    · rintro ⟨i, s, h1, h3, h5⟩
      exact ⟨i, s, h1, by rw [List.getElem?_append_left (List.getElem?_eq_some_iff.1 h3).1]; exact h3, h5⟩
    · rintro ⟨i, s, h1, h3, h5⟩
      by_cases hl : i < S.length
      · rw [List.getElem?_append_left hl] at h3; exact ⟨i, s, h1, h3, h5⟩
      · rw [List.getElem?_append_right (by omega)] at h3
        cases hk : i - S.length with
        | zero => rw [hk] at h3; cases h3; exact absurd rfl h5
        | succ n => rw [hk] at h3; cases h3
  · rcases hloc with e | e
    · rw [e] at hg; exact .inl (h.inS g hg)
    · rw [e] at hg
      cases hg
      have := (hown.lt w2.heap.size e).2
      exact .inr ⟨hb2.size, by simp only [World.setCell, Array.size_modify]; exact this⟩
  · refine ⟨by simp; omega, fun s hs => ?_⟩
    rcases List.mem_append.1 hs with h1 | h1
    · exact h.good.2 s h1
    · rw [List.mem_singleton.1 h1]; exact zeroSec_good
theorem ext_ext {F : Nat → Prop} {w w1 w2 : World} (h1 : w.heap.size ≤ w1.heap.size) (h2 : w1.heap.size ≤ w2.heap.size) (k : Nat) (h : ext (ext F w w1) w1 w2 k) : ext F w w2 k := by
  rcases h with (h | h) | h
  · exact .inl h
  · exact .inr ⟨h.1, by omega⟩
  · exact .inr ⟨by omega, h.2⟩
end Go.Proofs.YtliboiajhhnajaaDoor
