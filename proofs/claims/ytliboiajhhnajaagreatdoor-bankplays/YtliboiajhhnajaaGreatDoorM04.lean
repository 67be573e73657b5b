import Derived.Test.YtliboiajhhnajaaGreatDoorM03
import Derived.Great.BuildSlice
/- Bad by its contract; a sector laid anew. -/
namespace Go.Proofs.YtliboiajhhnajaaGreatDoor
open Go.RowKit Go.Extern

theorem secsC_length {S : List Sec} (h : Good S) : (secsC S).length = S.length * 129 := flat_length secC 129 S fun x hx => secC_length (h.2 x hx).1
theorem good_set {S : List Sec} (h : Good S) {i : Nat} {s : Sec} (hs : GoodSec s) : Good (S.set i s) :=
  ⟨by rw [List.length_set]; exact h.1, fun x hx => by
    rcases List.mem_or_eq_of_mem_set hx with h1 | h1
    · exact h.2 x h1
    · rw [h1]; exact hs⟩
theorem wt_set {S : List Sec} {i : Nat} {s s' : Sec} (hs : S[i]? = some s) (hw : s'.wait = s.wait) (k : Int) : wt (S.set i s') k = wt S k := by
  unfold wt
  split
  · by_cases e : k.toNat = i
    · rw [e, hs, List.getElem?_set_self (List.getElem?_eq_some_iff.1 hs).1]; exact hw
    · rw [List.getElem?_set_ne (fun h => e h.symm)]
  · rfl
theorem keys_set {S : List Sec} {i : Nat} {s s' : Sec} (hs : S[i]? = some s) (hw : s'.wait = s.wait) (kl : Lit) :
    (∃ (j : Nat) (t : Sec), kl = .int .i64 (j : Int) ∧ (S.set i s')[j]? = some t ∧ t.wait ≠ []) ↔ ∃ (j : Nat) (t : Sec), kl = .int .i64 (j : Int) ∧ S[j]? = some t ∧ t.wait ≠ [] := by
  have hi := (List.getElem?_eq_some_iff.1 hs).1
  constructor
  · rintro ⟨j, t, h1, h2, h3⟩
    by_cases e : j = i
    · subst e
      rw [List.getElem?_set_self hi] at h2
      cases h2
      exact ⟨j, s, h1, hs, by rw [← hw]; exact h3⟩
    · rw [List.getElem?_set_ne (fun h => e h.symm)] at h2
      exact ⟨j, t, h1, h2, h3⟩
  · rintro ⟨j, t, h1, h2, h3⟩
    by_cases e : j = i
    · subst e
      rw [hs] at h2
      cases h2
      exact ⟨j, s', h1, List.getElem?_set_self hi, by rw [hw]; exact h3⟩
    · exact ⟨j, t, h1, by rw [List.getElem?_set_ne (fun h => e h.symm)]; exact h2, h3⟩

/-- A row of sectors, some cells of one sector laid anew. -/
theorem secs_put {w' : World} {g cap : Nat} {S : List Sec} {cur : Array Value} (hgood : Good S) (hcap : S.length ≤ cap) (hm : cap ≤ maxLen) (hsz : cur.size = cap * 129) (ht : cur.toList.take (S.length * 129) = secsC S) {i : Nat} {s s' : Sec} (hs : S[i]? = some s) (o : Nat) (cs : List Value) (ho : o + cs.length ≤ 129)
    (hy : secC s' = (secC s).take o ++ cs ++ (secC s).drop (o + cs.length)) (hw : w'.heap[g]? = some (.cells (cur.toList.take (i * 129 + o) ++ cs ++ cur.toList.drop (i * 129 + o + cs.length)).toArray 114 (0, 0))) :
    w'.ownsRow 0 114 129 (.slice (some ⟨g, 0, none⟩) S.length cap) S.length (secsC (S.set i s')) := by
  have hS : ∀ x ∈ S, (secC x).length = 129 := fun x hx => secC_length (hgood.2 x hx).1
  have hi := (List.getElem?_eq_some_iff.1 hs).1
  have hcur : cur.toList = secsC S ++ cur.toList.drop (S.length * 129) := by rw [← ht, List.take_append_drop]
  have hfl := flat_splice secC 129 S hS i s s' hs o cs ho hy (cur.toList.drop (S.length * 129))
  have hS' : ∀ x ∈ S.set i s', (secC x).length = 129 := fun x hx => by
    rcases List.mem_or_eq_of_mem_set hx with h1 | h1
    · exact hS x h1
    · rw [h1, hy]
      have := hS s (List.mem_of_getElem? hs)
      simp only [List.length_append, List.length_take, List.length_drop]; omega
  have hl : (secsC (S.set i s')).length = S.length * 129 := by unfold secsC; rw [flat_length secC 129 _ hS', List.length_set]
  have hnew : cur.toList.take (i * 129 + o) ++ cs ++ cur.toList.drop (i * 129 + o + cs.length) = secsC (S.set i s') ++ cur.toList.drop (S.length * 129) := by
    rw [hcur]
    have e : (secsC S ++ cur.toList.drop (S.length * 129)).drop (S.length * 129) = cur.toList.drop (S.length * 129) := by
      rw [List.drop_append_of_le_length (by rw [secsC_length hgood]; exact Nat.le_refl _), List.drop_of_length_le (by rw [secsC_length hgood]; exact Nat.le_refl _)]; rfl
    rw [e]; exact hfl
  rw [hnew] at hw
  refine ⟨hl, .inr ⟨g, cap, _, rfl, Nat.zero_le _, hw, hcap, hm, ?_, ?_⟩⟩
  · simp only [List.size_toArray, List.length_append, hl, List.length_drop, Array.length_toList, hsz]
    have := Nat.mul_le_mul_right 129 hcap
    omega
  · rw [List.take_append_of_le_length (by rw [hl]; exact Nat.le_refl _), List.take_of_length_le (by rw [hl]; exact Nat.le_refl _)]

/-- A disk whose row of sectors is laid anew in place, all else as it was. -/
theorem DkAt.put {w w' : World} {F : Nat → Prop} {b mb g cap : Nat} {S : List Sec} {D : DataW Value} (h : DkAt w F b S (.slice (some ⟨g, 0, none⟩) S.length cap) mb D) {i : Nat} {s s' : Sec} (hs : S[i]? = some s) (hwait : s'.wait = s.wait) (hg' : GoodSec s')
    (hrow : w'.ownsRow 0 114 129 (.slice (some ⟨g, 0, none⟩) S.length cap) S.length (secsC (S.set i s'))) (hbl : ∀ k, k ≠ g → w'.heap[k]? = w.heap[k]?) : DkAt w' F b (S.set i s') (.slice (some ⟨g, 0, none⟩) S.length cap) mb D := by
  have hgS : ∃ cur, w.heap[g]? = some (.cells cur 114 (0, 0)) := by
    obtain ⟨g', cap', cur, e, hh, -⟩ := ownsRow_pos h.secs (len_pos hs)
    cases e
    exact ⟨cur, hh⟩
  obtain ⟨cur, hcur⟩ := hgS
  have hbg : b ≠ g := fun e => by have hk := h.blk; rw [e, hcur] at hk; simp at hk
  have hmg : mb ≠ g := fun e => by
    subst e
    obtain ⟨es, clock, hb, -⟩ := h.map
    rw [hcur] at hb; cases hb
  have hvg : ∀ k, I64 k → (valAt D k).ownBlock ≠ some g := fun k hk e => by
    rcases (h.rows k hk).2 with ⟨hv, -⟩ | ⟨g', cap', cur', hv, -, hh, -⟩
    · rw [hv] at e; simp [Value.ownBlock] at e
    · rw [hv] at e
      simp only [Value.ownBlock, Option.some.injEq] at e
      subst e
      rw [hcur] at hh
      cases hh
  refine ⟨by rw [hbl b hbg]; exact h.blk, by rw [List.length_set]; exact hrow, ownsMap_of_block h.map (fun o ho => by rw [hbl mb hmg]; exact ho), fun k hk => ?_, fun kl => by rw [keys_set hs hwait]; exact h.keys kl, h.apart, h.inB, h.inM, h.inS, h.inV, good_set h.good hg'⟩
  rw [wt_set hs hwait]
  exact ownsRow_of_block (h.rows k hk) fun j o hv ho => by rw [hbl j (fun e => hvg k hk (by rw [← e]; exact hv))]; exact ho

/-- What a call that may be refused leaves of a disk. -/
def Turned (F : Nat → Prop) (b : Nat) (S' : List Sec) (c : Int) (w : World) (e : Ending) (w' : World) : Prop := e = .returned (errV c) ∧ Dk w' (ext F w w') b S' ∧ Turn F w w'
theorem Turned.same {F : Nat → Prop} {b : Nat} {S : List Sec} {c : Int} {w : World} (h : Dk w F b S) : Turned F b S c w (.returned (errV c)) w := ⟨rfl, h.mono fun _ hk => .inl hk, Turn.refl _ _⟩

theorem set_cell_row {w : World} {g j : Nat} {cur : Array Value} {T : TypeId} (h : w.heap[g]? = some (.cells cur T (0, 0))) (hj : j < cur.size) (u : Value) :
    (w.setCell ⟨g, j, none⟩ u).heap[g]? = some (.cells (cur.toList.take j ++ [u] ++ cur.toList.drop (j + 1)).toArray T (0, 0)) := by
  have e1 := setCell_eq_setRow w g j _ _ _ u h
  have h1 := setRow_heap w g _ (cur.setIfInBounds j u) _ _ h
  rw [← e1] at h1
  rw [h1]
  congr 2
  apply Array.toList_inj.1
  rw [Array.toList_setIfInBounds, List.set_eq_take_append_cons_drop, if_pos (by simpa using hj)]
  simp

def bErr (S : List Sec) (i : Int) : Int := if hasB S i then 0 else 20
def bSet (S : List Sec) (i : Int) (on : Bool) : List Sec := match S[i.toNat]? with | some s => if hasB S i then S.set i.toNat { s with bad := on } else S | none => S

set_option maxRecDepth 100000 in
set_option maxHeartbeats 1000000 in
theorem bad_any {w : World} {F : Nat → Prop} {b : Nat} {S : List Sec} (h : Dk w F b S) (i : Int) (on : Bool) :
    Calls Tryz.prog 63 #[.pointer (some ⟨b, 0, none⟩), .int .i64 i, .bool on] w (Turned F b (bSet S i on) (bErr S i) w) := by
  have HH := hide (has_any h i)
  cases hh : hasB S i with
  | false =>
    rw [hh] at HH
    have HE : Hid (bErr S i = 20 ∧ bSet S i on = S) := ⟨by simp [bErr, hh], by unfold bSet; split <;> simp [hh]⟩
    have HD := hide h
    clear h
    go_enter Tryz.func63, Tryz.ntmps63
    go_wp2_with (go_at_call 72; refine HH.out.mono ?_; rintro e w' ⟨rfl, rfl⟩)
    go_ret
    rw [HE.out.1, HE.out.2]
    exact Turned.same HD.out
  | true =>
    rw [hh] at HH
    have hb : 0 ≤ i ∧ i < (S.length : Int) := by simpa [hasB] using hh
    obtain ⟨k, rfl⟩ : ∃ k : Nat, i = (k : Int) := ⟨i.toNat, by omega⟩
    obtain ⟨s, hs⟩ : ∃ s, S[k]? = some s := ⟨S[k]'(by omega), by simp⟩
    have HE : Hid (bErr S (k : Int) = 0 ∧ bSet S (k : Int) on = S.set k { s with bad := on }) := ⟨by simp [bErr, hh], by simp [bSet, hh, hs]⟩
    obtain ⟨v, mb, D, hd⟩ := h
    have c0 := two_cell0 hd.blk
    obtain ⟨g, cap, cur, rfl, hg, hcap, hm, hsz, ht, -⟩ := ownsRow_pos hd.secs (len_pos hs)
    have cb := cell_bad hd.secs hd.good hs
    have fb := row_frozen hg (k * 129 + 128)
    have hgs := hd.good.2 s (List.mem_of_getElem? hs)
    have hlt : (k : Int) < (S.length : Int) := hb.2
    have hge : (0 : Int) ≤ (k : Int) := by omega
    have HFIN : Hid (Turned F b (S.set k { s with bad := on }) 0 w (.returned (errV 0)) (w.setCell ⟨g, k * 129 + 128, none⟩ (.bool on))) := by
      have hkk : k * 129 + 128 < cur.size := by rw [hsz]; have := Nat.mul_le_mul_right 129 hcap; omega
      have hrow := secs_put hd.good hcap hm hsz ht hs (s' := { s with bad := on }) 128 [.bool on] (by simp) (by
        show cellsB s.dur ++ [.bool on] = _
        unfold secC
        rw [List.take_append_of_le_length (by rw [cellsB_length, hgs.1.1]; decide), List.take_of_length_le (by rw [cellsB_length, hgs.1.1]; decide), List.drop_of_length_le (by simp [cellsB_length, hgs.1.1])]; simp) (set_cell_row hg hkk (.bool on))
      refine ⟨rfl, ?_, ⟨rfl, rfl, rfl, by simp [World.setCell], fun j hj hn => Below.heap_setCell _ _ _ _ (fun e => hn ?_)⟩⟩
      · exact Dk.mono ⟨_, mb, D, hd.put hs (s' := { s with bad := on }) rfl ⟨hgs.1, hgs.2⟩ hrow (fun j hj => Below.heap_setCell _ _ _ _ hj)⟩ (fun _ hk => .inl hk)
      · rw [e]; exact hd.inS g rfl
    clear hd hgs hg ht hsz hcap hm
    go_enter Tryz.func63, Tryz.ntmps63
    go_wp2_with (go_at_call 72; refine HH.out.mono ?_; rintro e w' ⟨rfl, rfl⟩)
    go_ret
    rw [HE.out.1, HE.out.2]
    exact HFIN.out
end Go.Proofs.YtliboiajhhnajaaGreatDoor

/- A value of many cells laid into others at once: slices and structs that are written out. -/
namespace Go.Proofs.YtliboiajhhnajaaGreatDoor
open Go.RowKit Go.Extern

theorem fold_lay : ∀ (cs : List Value) (n o : Nat) (z : Array Value), n + o + cs.length ≤ z.size →
    ((cs.zipIdx n).foldl (fun acc (x : Value × Nat) => acc.setIfInBounds (o + x.2) x.1) z).toList = z.toList.take (o + n) ++ cs ++ z.toList.drop (o + n + cs.length)
  | [], n, o, z, h => by simp
  | c :: cs, n, o, z, h => by
    have hn : o + n < z.toList.length := by simp only [List.length_cons] at h; simp; omega
    rw [List.zipIdx_cons, List.foldl_cons, fold_lay cs (n + 1) o _ (by simp only [List.length_cons] at h; simp; omega)]
    simp only [Array.toList_setIfInBounds]
    have e1 : (z.toList.set (o + n) c).take (o + (n + 1)) = z.toList.take (o + n) ++ [c] := by
      rw [show o + (n + 1) = (o + n) + 1 by omega, List.take_add_one, List.getElem?_set_self hn, List.take_set_of_le (Nat.le_refl _)]; rfl
    have e2 : (z.toList.set (o + n) c).drop (o + (n + 1) + cs.length) = z.toList.drop (o + n + (c :: cs).length) := by
      rw [List.drop_set_of_lt (by omega)]; congr 1; simp only [List.length_cons]; omega
    rw [e1, e2]; simp
theorem fold_array (cs : List Value) (o : Nat) (z : Array Value) (h : o + cs.length ≤ z.size) :
    (cs.toArray.zipIdx.foldl (fun acc (x : Value × Nat) => acc.setIfInBounds (o + x.2) x.1) z) = (z.toList.take o ++ cs ++ z.toList.drop (o + cs.length)).toArray := by
  apply Array.toList_inj.1
  have := fold_lay cs 0 o z (by omega)
  simp only [Nat.add_zero] at this
  rw [← this, ← Array.foldl_toList]
  simp

theorem infoC3 : (Tryz.prog.info? 112).map (fun i => (i.zero, i.size, i.bytes)) = some (some (conV zeros), 128, 128) := by kernel_rfl
theorem range_size (n : Nat) (z : Array Value) : ((Array.range n).map (fun k => z[k % z.size]!)).size = n := by simp
/-- A slice of one sector's bytes, written out. -/
theorem run_one (w : World) (c : List Nat) (hc : Con c) : (Instr.buildSlice 116 1 #[(0, conV c)]).run Tryz.prog w = .ok (.slice (some ⟨w.heap.size, 0, none⟩) 1 1) (w.alloc (.cells (conC c) 112)) := by
  obtain ⟨i, hi, hz, hs, -⟩ := info_parts infoC3
  refine run_buildSlice w 116 112 1 _ (conC c) i (conV zeros) Tryz.underlying116 hi hz (by rw [hs]; decide) (by rw [hs]; decide) ?_
  rw [hs]
  have hl : (cellsB c).length = 128 := by rw [cellsB_length, hc.1]
  have hsz : ((Array.range (1 * 128)).map ((conV zeros).cells[· % (conV zeros).cells.size]!)).size = 128 := by simp
  generalize ((Array.range (1 * 128)).map ((conV zeros).cells[· % (conV zeros).cells.size]!)) = z at hsz
  show Instr.fill _ z [(0, conV c)] = _
  unfold Instr.fill
  have e1 : (conV c).cells = (cellsB c).toArray := rfl
  rw [e1]
  simp only [Nat.zero_mul, List.size_toArray, hl, hsz]
  have e2 := fold_array (cellsB c) 0 z (by rw [hl, hsz]; decide)
  rw [hl] at e2
  rw [e2, List.drop_of_length_le (by simp [hsz])]
  simp [Instr.fill, conC]

/-- One step of a region: an operation that tells a value, one that tells none. -/
theorem step_value {ops : Array Oper} {o : Oper} {a : Act} {w w' : World} {v : Value} {K : Act → World → Prop} {Q : Exit → Act → World → Prop} {E : Prop} (hg : o.guard = none) (hrun : (execOp a.eval o).run Tryz.prog w = .ok (.value v) w') (hK : K (a.put o.dst v) w') :
    if Region.wanted o (yielded ops a.tmps) = true then Oper.wp Tryz.prog o a w K Q else E := by
  rw [if_pos (by simp [Region.wanted, hg])]
  unfold Oper.wp
  rw [hrun]
  exact hK
theorem step_skip {ops : Array Oper} {o : Oper} {a : Act} {w w' : World} {K : Act → World → Prop} {Q : Exit → Act → World → Prop} {E : Prop} (hg : o.guard = none) (hrun : (execOp a.eval o).run Tryz.prog w = .ok .skip w') (hK : K (a.put o.dst undef) w') :
    if Region.wanted o (yielded ops a.tmps) = true then Oper.wp Tryz.prog o a w K Q else E := by
  rw [if_pos (by simp [Region.wanted, hg])]
  unfold Oper.wp
  rw [hrun]
  exact hK
section
variable {ρ : Operand → Value} {o : Oper} {w w' : World}
theorem exec_lookup {t : TypeId} {m x : Operand} {v mv xv : Value} (ho : o.op = .lookup t m x false) (hr : (Instr.lookup t mv xv false).run Tryz.prog w = .ok v w') (hm : ρ m = mv) (hx : ρ x = xv) : (execOp ρ o).run Tryz.prog w = .ok (.value v) w' := by
  unfold execOp; simp only [ho, hm, hx, hr, Sem.run_bind, Sem.run_pure, Result.andThen_ok]
theorem exec_load {t : TypeId} {m : Operand} {v mv : Value} (ho : o.op = .load t m) (hr : (Instr.loadAt t mv).run Tryz.prog w = .ok v w') (hm : ρ m = mv) : (execOp ρ o).run Tryz.prog w = .ok (.value v) w' := by
  unfold execOp; simp only [ho, hm, hr, Sem.run_bind, Sem.run_pure, Result.andThen_ok]
theorem exec_store {t : TypeId} {m x : Operand} {mv xv : Value} (ho : o.op = .store t m x) (hr : (Instr.storeAt t mv xv).run Tryz.prog w = .ok () w') (hm : ρ m = mv) (hx : ρ x = xv) : (execOp ρ o).run Tryz.prog w = .ok .skip w' := by
  unfold execOp; simp only [ho, hm, hx, hr, Sem.run_bind, Sem.run_pure, Result.andThen_ok]
theorem exec_one {t : TypeId} {x : Operand} {v xv : Value} (ho : o.op = .buildSlice t 1 #[(0, x)]) (hr : (Instr.buildSlice t 1 #[(0, xv)]).run Tryz.prog w = .ok v w') (hx : ρ x = xv) : (execOp ρ o).run Tryz.prog w = .ok (.value v) w' := by
  unfold execOp; simp [ho, hx, hr]
theorem exec_append {t : TypeId} {x y : Operand} {v xv yv : Value} (ho : o.op = .call { callee := .builtin .append, args := #[x, y], argTypes := #[t, t] }) (hr : (Builtin.append_ #[t, t] o.type #[xv, yv]).run Tryz.prog w = .ok v w') (hx : ρ x = xv) (hy : ρ y = yv) : (execOp ρ o).run Tryz.prog w = .ok (.value v) w' := by
  unfold execOp; simp [ho, resolve, invoke, builtin, hx, hy, hr]
theorem exec_update {t : TypeId} {m k x : Operand} {mv kv xv : Value} (ho : o.op = .mapUpdate t m k x) (hr : (Instr.mapUpdate t mv kv xv).run Tryz.prog w = .ok () w') (hm : ρ m = mv) (hk : ρ k = kv) (hx : ρ x = xv) : (execOp ρ o).run Tryz.prog w = .ok .skip w' := by
  unfold execOp; simp only [ho, hm, hk, hx, hr, Sem.run_bind, Sem.run_pure, Result.andThen_ok]
end
end Go.Proofs.YtliboiajhhnajaaGreatDoor
