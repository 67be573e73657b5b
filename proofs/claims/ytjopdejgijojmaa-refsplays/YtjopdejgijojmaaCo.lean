/- slices.Collect at owners. -/
import Derived.Test.YtjopdejgijojmaaKs
import Derived.Maps.AppendAt
import Derived.RangeFuncBox
namespace Go.Proofs.Ytjopdejgijojmaa
open Go.RowKit Go.Extern Go.Sort Go.Shelf

attribute [local go_sem] Oper.semAt_some

/-- The cells of owners. -/
def ownC (o : Own) : List Value := [.int .i64 o.1, .int .i64 o.2]
def ownsC (l : List Own) : List Value := l.flatMap ownC
theorem ownsC_length (l : List Own) : (ownsC l).length = l.length * 2 := by
  induction l with
  | nil => rfl
  | cons o r ih => simp only [ownsC, List.flatMap_cons, List.length_append, List.length_cons] at *; simp only [ownC, List.length_cons, List.length_nil]; omega
theorem ownsC_append (l m : List Own) : ownsC (l ++ m) = ownsC l ++ ownsC m := by simp [ownsC]
theorem infoO : (Try.prog.info? 35).map (fun i => (i.zero, i.size, i.bytes)) = some (some (.agg #[.int .i64 0, .int .i64 0]), 2, 16) := by kernel_rfl
theorem KeepsOthers.walks {W W' : World} (h : KeepsOthers W W') : KeepsWalks W W' := ⟨h.size, fun k o hk ho => h.same k o hk (by cases o <;> simp_all [Obj.isWalk, Obj.isCells])⟩
/-- A block that is an owner. -/
def BlkO (W : World) (x : Nat) (o : Own) : Prop := W.heap[x]? = some (.cells #[.int .i64 o.1, .int .i64 o.2] 35 (0, 0))
theorem BlkO.box {W : World} {x : Nat} {o : Own} (h : BlkO W x o) : BoxO W x o := ⟨cell_of h rfl, cell_of h rfl⟩
theorem blkO_new (W : World) (o : Own) : BlkO (W.alloc (.cells #[.int .i64 o.1, .int .i64 o.2] 35)) W.heap.size o := World.alloc_heap_new W _
theorem append_own {w : World} {base : Nat} {v : Value} {l : List Own} (h : w.ownsRow base 35 2 v l.length (ownsC l)) {x : Nat} {m cap : Nat} {l' : List Own} (hx : ∀ j u, (ownsC l')[j]? = some u → w.cell? ⟨x, 0 + j, none⟩ = some u) (hm : l'.length = m) (hb : base ≤ w.heap.size) (hl : l.length + m ≤ 10000000) (ty : TypeId) :
    ∃ v' w', (Builtin.append_ #[53, 53] ty #[v, .slice (some ⟨x, 0, none⟩) m cap]).run Try.prog w = .ok v' w' ∧ w'.ownsRow base 35 2 v' (l.length + m) (ownsC (l ++ l')) ∧ w.grownBy w' v.ownBlock ∧ (v' = .slice none 0 0 ↔ v = .slice none 0 0 ∧ m = 0) ∧ (v'.ownBlock = v.ownBlock ∨ v'.ownBlock = some w.heap.size) := by
  obtain ⟨i0, hi, hz0, hz1, hz2⟩ := info_parts infoO
  rw [ownsC_append]
  refine run_append_own_at (P := Try.prog) w base 53 ty 35 i0 _ 2 16 Try.underlying53 hi hz0 hz1 hz2 rfl (by omega) v l.length (ownsC l) h ⟨x, 0, none⟩ m cap (ownsC l') (by rw [ownsC_length, hm]) (fun j u hu => by rw [add_plain]; exact hx j u hu) (fun u hu => ?_) (by unfold maxLen; omega) (by omega) hb
  obtain ⟨o, -, ho⟩ := List.mem_flatMap.1 hu
  simp [ownC] at ho
  rcases ho with rfl | rfl <;> rfl

/-- An append whose run is known. -/
theorem wpListIn_append_eq {F : Fence} {n : Nat} {P : Program} {w w' : World} {ops : Array Oper} {rest : List Oper} {o : Oper} {a : Act} {Q : Exit → Act → World → Prop} {v sv xv : Value} {t : TypeId} (hg : o.guard = none) (s x : Operand)
    (hop : o.op = Op.call { callee := Callee.builtin Builtin.append, args := #[s, x], argTypes := #[t, t] }) (hs : a.eval s = sv) (hx : a.eval x = xv) (hrun : (Builtin.append_ #[t, t] o.type #[sv, xv]).run P w = .ok v w')
    (hK : wpListIn F n P ops Q rest (a.put o.dst v) w') : wpListIn F n P ops Q (o :: rest) a w := by
  refine wpListIn_plain hg fun K hK' => ?_
  unfold Oper.wpIn
  refine ⟨?_, ?_⟩
  · simp [Oper.about, hop, resolve, Target.leads, Sem.run_pure]
  · rw [Oper.semAt_plain F _ _ (by rw [hop]; intro c hc'; cases hc')]
    simp [execOp, hop, resolve, invoke, builtin, hs, hx, hrun, Result.andThen]
    exact hK' _ _ hK
theorem wpList_append_eq {P : Program} {w w' : World} {ops : Array Oper} {rest : List Oper} {o : Oper} {a : Act} {Q : Exit → Act → World → Prop} {v sv xv : Value} {t : TypeId} (hg : o.guard = none) (s x : Operand)
    (hop : o.op = Op.call { callee := Callee.builtin Builtin.append, args := #[s, x], argTypes := #[t, t] }) (hs : a.eval s = sv) (hx : a.eval x = xv) (hrun : (Builtin.append_ #[t, t] o.type #[sv, xv]).run P w = .ok v w')
    (hK : wpList P ops Q rest (a.put o.dst v) w') : wpList P ops Q (o :: rest) a w := by
  refine wpList_plain hg fun K hK' => ?_
  unfold Oper.wp
  simp [execOp, hop, resolve, invoke, builtin, hs, hx, hrun, Result.andThen]
  exact hK' _ _ hK

set_option maxRecDepth 100000 in
set_option maxHeartbeats 4000000 in
theorem appendSeqO {n gf : Nat} {lb : Array Value} (hn : 2 ≤ n) (eg : ∀ args w, (callFunc gf args).run Try.prog w = .ok (.enter gf args) w) {S : List Own → Prop} {N : Nat} (hN : N ≤ 1000000) {w : World} (hseq : SeqStops Fence.wide (n - 1) Try.prog gf lb encO S (fun _ => True) N w) :
    CallsIn Fence.wide n Try.prog 54 #[.slice none 0 0, .func (.func gf) #[] lb] w fun e w' => ∃ (v : Value) (ss : List Own), e = .returned v ∧ S ss ∧ w'.ownsRow w.heap.size 35 2 v ss.length (ownsC ss) ∧ (v = .slice none 0 0 ↔ ss = []) ∧ Below w.heap.size w w' := by
  have h1 : 1 ≤ n := by omega
  have hro : Fence.wide.round = none := rfl
  refine callsIn_of_wp_marks Try.func54 rfl trivial ?_ rfl
  simp only [Try.ntmps54, List.size_toArray, List.length_cons, List.length_nil, Nat.reduceAdd, Nat.reduceSub, Array.replicate_succ, Array.replicate_zero, List.push_toArray, List.append_toArray, List.nil_append, List.cons_append]
  gi_wp2
  have bS := Boxed.new w 53 (.slice none 0 0)
  have hB0 : Below w.heap.size w (w.alloc (.cells #[.slice none 0 0] 53)) := (Below.refl _ w).alloc (Nat.le_refl _) _
  have hsz : (w.alloc (.cells #[.slice none 0 0] 53)).heap.size = w.heap.size + 1 := by simp
  obtain ⟨W0, hW0⟩ : ∃ W0, w.alloc (.cells #[.slice none 0 0] 53) = W0 := ⟨_, rfl⟩
  rw [hW0] at bS hB0 hsz ⊢
  clear hW0
  refine wpIn_rangeFunc_ownH hro h1 (gf := gf) (lb := lb) rfl trivial eg (encs := fun x => #[encO x]) (Kp := KeepsWalks) hseq walksK_t walksK_b hB0 (fun _ => rfl)
    (fun pre W => (∃ v, Boxed W w.heap.size 53 v ∧ W.ownsRow w.heap.size 35 2 v pre.length (ownsC pre) ∧ (v = .slice none 0 0 ↔ pre = [])) ∧ Below w.heap.size w W)
    (fun _ _ _ => False)
    (OwnFrom.and (Own.from (holdsRow_own w.heap.size w.heap.size 53 35 2 (fun pre : List Own => pre.length) (fun pre => ownsC pre) (fun pre v => v = .slice none 0 0 ↔ pre = [])) _) (ownFrom_below (Nat.le_refl _) (by omega)))
    (fun _ _ _ _ _ hs _ _ => hs)
    ⟨⟨_, bS, World.ownsRow_nil _ _ _ _, by simp⟩, hB0⟩
    (fun x a' W => ∃ Bx, w.heap.size < Bx ∧ BlkO W Bx x ∧ a' = { tmps := #[.slice none 0 0, .func (.func gf) #[] lb, .pointer (some ⟨w.heap.size, 0, none⟩), undef, .slice none 0 0, .pointer (some ⟨Bx, 0, none⟩), .func (.func gf) #[] lb, encO x, undef, undef, undef, undef, undef], defers := [] })
    (fun x a' _ X Y row hs hg hr => by
      obtain ⟨Bx, h1, h2, h3⟩ := hs
      refine ⟨Bx, h1, (hg.block Bx (heap_lt h2) (fun e => ?_)).trans h2, h3⟩
      obtain ⟨-, o, ho, hc⟩ := hr Bx e.symm
      unfold BlkO at h2
      rw [h2] at ho; cases ho; cases hc)
    ?assign ?body ?done ?stop
  case assign =>
    rintro l pre x W K ⟨⟨v, bV, hrow, hnil⟩, hB1⟩ hK
    have e1 : encO x = .agg #[.int .i64 x.1, .int .i64 x.2] := rfl
    gi_wp2
    rw [e1] at *
    gi_wp2
    exact hK _ _ ((KeepsOthers.alloc _ _).from _) (KeepsWalks.alloc _ _) ⟨⟨v, bV.alloc _, hrow.alloc _, hnil⟩, hB1.alloc hB1.size _⟩ ⟨W.heap.size, bV.lt, blkO_new W x, rfl⟩
  case body =>
    rintro l pre x a' W hl ⟨r, hr⟩ ⟨⟨v, bV, hrow, hnil⟩, hB1⟩ ⟨Bx, hBx, bX, rfl⟩ hlt
    have cV := bV.cell
    obtain ⟨x1, x2⟩ := bX.box
    have bN := (blkO_new W x).box
    obtain ⟨v', w1, hrun, hown', hgrow, hn', -⟩ := append_own (hrow.alloc (.cells #[.int .i64 x.1, .int .i64 x.2] 35)) (x := W.heap.size) (m := 1) (cap := 1) (l' := [x]) (fun j u hu => by
      match j, hu with
      | 0, hu => simp [ownsC, ownC] at hu; subst hu; exact bN.1
      | 1, hu => simp [ownsC, ownC] at hu; subst hu; exact bN.2
      | j + 2, hu => simp [ownsC, ownC] at hu) rfl (by have := hB1.size; simp; omega) (by omega) 53
    obtain ⟨hv1, hv2, hr2, hk2, hb2⟩ := bV.appended (by decide) hrow hB1.size (Nat.le_refl _) hown' hgrow
    obtain ⟨g', cap', rfl⟩ := ownsRow_succ hown'
    have hc1 := hv1.cell
    have hf1 := hv1.frozen
    gi_wp2_with (gi_at_builtin; refine wpListIn_append_eq rfl _ _ rfl rfl rfl hrun ?_)
    exact ⟨hk2.from _, hk2.walks, ⟨⟨_, hv2, by simpa using hr2, by simp⟩, hB1.trans hb2⟩⟩
  case done =>
    rintro D ss W hD hS ⟨⟨v, bV, hrow, hnil⟩, hB1⟩ hK
    have cV := bV.cell
    gi_wp2
    refine ⟨by simp, .inl ⟨_, _, rfl, run_takeDeferred hK, ?_⟩⟩
    exact ⟨_, results_tmp rfl _ _ _, v, ss, rfl, hS, ownsRow_putObj hrow _ hK rfl, hnil, hB1.trans (belowK_b (w := w) (Nat.le_refl _) W D _ _ (by omega) hK rfl rfl)⟩
  case stop =>
    rintro D c pre W _ _ h _
    exact h.elim
end Go.Proofs.Ytjopdejgijojmaa
