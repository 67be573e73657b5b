import Derived.Test.YtliboiajhhnajaaGreatDoorM23
/- New, attachable, Add and Sizes by their contracts. -/
namespace Go.Proofs.YtliboiajhhnajaaGreatDoor
open Go.RowKit Go.Extern

def pw0 : Pw := ⟨-1, false, 0⟩
/-- What New leaves: a bank without devices in a block of its own. -/
def BNewed (w : World) (e : Ending) (w' : World) : Prop := ∃ b, e = .returned (.pointer (some ⟨b, 0, none⟩)) ∧ Bk w' (fun k => w.heap.size ≤ k ∧ k < w'.heap.size) b [] pw0 ∧ Below w.heap.size w w'
theorem bk_made (w : World) : Bk (w.alloc (.cells #[.slice none 0 0, .int .i64 (-1), .bool false, .int .i64 0] 44)) (fun k => w.heap.size ≤ k ∧ k < (w.alloc (.cells #[.slice none 0 0, .int .i64 (-1), .bool false, .int .i64 0] 44)).heap.size) w.heap.size [] pw0 := by
  refine ⟨.slice none 0 0, fun _ _ => False, heap_alloc_new w _, World.ownsRow_nil _ _ _ _, fun i p S h => by simp at h, fun _ _ _ _ h => h.elim, ⟨Nat.le_refl _, by simp⟩, fun g hg => by simp [Value.ownBlock] at hg, fun _ _ h => h.elim, fun _ h => h, fun g hg => by simp [Value.ownBlock] at hg, fun _ _ h => h.elim, by simp⟩
set_option maxRecDepth 100000 in
theorem bnew_any (w : World) : Calls Tryz.prog 4 #[] w (BNewed w) := by
  have HB := hide (bk_made w)
  go_enter Tryz.func4, Tryz.ntmps4
  go_wp2
  go_ret
  exact ⟨_, rfl, HB.out, (Below.refl _ _).alloc (Nat.le_refl _) _⟩

/-- The error's number of Add. -/
def addC (D : List Dev) (q : Pw) (n : Int) : Int := if q.down then 22 else if 8 ≤ D.length then 24 else if newB n then 0 else 20
theorem errV_24 : errV 24 = .iface 85 (.int .i64 24) := rfl
/-- What attachable leaves. -/
def Attached (D : List Dev) (q : Pw) (n : Int) (w : World) (e : Ending) (w' : World) : Prop :=
  Below w.heap.size w w' ∧ ((addC D q n ≠ 0 ∧ e = .returned (.tuple #[.pointer none, errV (addC D q n)])) ∨ (addC D q n = 0 ∧ ∃ p F, e = .returned (.tuple #[.pointer (some ⟨p, 0, none⟩), errV 0]) ∧ Dk w' F p (fresh n.toNat) ∧ ∀ k, F k → w.heap.size ≤ k ∧ k < w'.heap.size))
set_option maxRecDepth 100000 in
theorem attachable_any {w : World} {F : Nat → Prop} {b : Nat} {D : List Dev} {q : Pw} (h : Bk w F b D q) (n : Int) :
    Calls Tryz.prog 37 #[.pointer (some ⟨b, 0, none⟩), .int .i64 n] w (Attached D q n w) := by
  obtain ⟨v, G, h⟩ := h
  have c0 := h.c0
  have c2 := h.c2
  obtain ⟨ao, cap, rfl⟩ := h.form
  have HN := hide (new_any w n)
  clear h
  cases hd : q.down with
  | true =>
    rw [hd] at c2
    have HE : Hid (addC D q n = 22) := by show _ = _; unfold addC; rw [hd]; rfl
    clear HN
    go_enter Tryz.func37, Tryz.ntmps37
    go_wp2
    go_ret2
    exact ⟨Below.refl _ _, .inl ⟨by rw [HE.out]; decide, by rw [HE.out]; rfl⟩⟩
  | false =>
    rw [hd] at c2
    by_cases h8 : 8 ≤ D.length
    · have HE : Hid (addC D q n = 24) := by show _ = _; unfold addC; rw [hd]; simp [h8]
      have hb : decide (8 ≤ (D.length : Int)) = true := by simp; omega
      clear HN h8
      go_enter Tryz.func37, Tryz.ntmps37
      go_wp2
      go_ret2
      exact ⟨Below.refl _ _, .inl ⟨by rw [HE.out]; decide, by rw [HE.out]; rfl⟩⟩
    · have hb : decide (8 ≤ (D.length : Int)) = false := by simp; omega
      cases hn : newB n with
      | false =>
        have HE : Hid (addC D q n = 20) := by show _ = _; unfold addC; rw [hd]; simp [h8, hn]
        have HN2 := hide hn
        clear h8 hn
        go_enter Tryz.func37, Tryz.ntmps37
        go_wp2_with fail
        refine HN.out.mono ?_
        rintro e w1 ⟨hb1, he⟩
        have HB1 := hide hb1
        rw [HN2.out] at he
        have he' : e = .returned (.tuple #[.pointer none, errV 20]) := he
        subst he'
        rw [errV_20']
        clear hb1 he
        go_wp2
        go_ret2
        exact ⟨HB1.out, .inl ⟨by rw [HE.out]; decide, by rw [HE.out]; rfl⟩⟩
      | true =>
        have HE : Hid (addC D q n = 0) := by show _ = _; unfold addC; rw [hd]; simp [h8, hn]
        have HN2 := hide hn
        clear h8 hn
        go_enter Tryz.func37, Tryz.ntmps37
        go_wp2_with fail
        refine HN.out.mono ?_
        rintro e w1 ⟨hb1, he⟩
        have HB1 := hide hb1
        rw [HN2.out] at he
        obtain ⟨p, F1, rfl, hd1, hf1⟩ := he
        have HD1 := hide hd1
        have HF1 := hide hf1
        rw [errV_zero]
        clear hb1 hd1 hf1
        go_wp2
        go_ret2
        exact ⟨HB1.out, .inr ⟨HE.out, p, F1, rfl, HD1.out, HF1.out⟩⟩

/-- A device more. -/
theorem infoPd : (Tryz.prog.info? 75).map (fun i => (i.zero, i.size, i.bytes)) = some (some (.pointer none), 1, 8) := by kernel_rfl
theorem BkAt.add {w w1 w2 : World} {F : Nat → Prop} {b : Nat} {D : List Dev} {q : Pw} {v : Value} {G : Nat → Nat → Prop} (h : BkAt w F b D q v G) (hlen : D.length < 8) {p : Nat} {S : List Sec} {F1 : Nat → Prop} (hb1 : Below w.heap.size w w1) (hd : Dk w1 F1 p S) (hf : ∀ k, F1 k → w.heap.size ≤ k ∧ k < w1.heap.size)
    (hb2 : Below w1.heap.size w1 w2) {nb : Nat} (hnb : w2.heap[nb]? = some (.cells #[.pointer (some ⟨p, 0, none⟩)] 75 (0, 0))) :
    ∃ v' w3, (∃ ao n cap, v' = .slice ao n cap) ∧ (Builtin.append_ #[42, 42] 42 #[v, .slice (some ⟨nb, 0, none⟩) 1 1]).run Tryz.prog w2 = .ok v' w3 ∧ w3.cell? ⟨b, 0, none⟩ = some v ∧ w3.frozen? ⟨b, 0, none⟩ = false ∧
      Bk (w3.setCell ⟨b, 0, none⟩ v') (ext F w (w3.setCell ⟨b, 0, none⟩ v')) b (D ++ [some (p, S)]) q ∧ Turn F w (w3.setCell ⟨b, 0, none⟩ v') := by
  have hb12 : Below w.heap.size w w2 := hb1.trans (hb2.mono hb1.size)
  have h2 := h.below hb12
  have hd2 := hd.below hb2
  obtain ⟨i0, hi, hz0, hz1, hz2⟩ := info_parts infoPd
  obtain ⟨v', w3, hrun, hown, hg3, -, hloc⟩ := run_append_own_at (P := Tryz.prog) w2 0 42 42 75 i0 (.pointer none) 1 8 Tryz.underlying42 hi hz0 hz1 hz2 rfl (by decide) _ _ _ h2.row ⟨nb, 0, none⟩ 1 1 [.pointer (some ⟨p, 0, none⟩)]
    rfl (fun j u hu => by
      rw [Addr.add_mid, cell_of_row w2 nb _ _ _ _ hnb, Nat.zero_add]
      cases j with
      | zero => simpa using hu
      | succ j => simp at hu) (by intro u hu; rw [List.mem_singleton.1 hu]; rfl) (by unfold maxLen; omega) (by omega) (Nat.zero_le _)
  have hvb : v.ownBlock ≠ some b := fun e => by
    obtain ⟨cur, hh⟩ := row_block h2.row e
    have := h2.blk
    rw [hh] at this; simp at this
  have hblk3 : w3.heap[b]? = some (.cells (bankC v q) 44 (0, 0)) := by rw [hg3.block b (heap_lt h2.blk) (fun e => hvb e.symm)]; exact h2.blk
  have hstay : ∀ j o, j ≠ b → v.ownBlock ≠ some j → w2.heap[j]? = some o → (w3.setCell ⟨b, 0, none⟩ v').heap[j]? = some o := fun j o h1 h3 h5 => by
    rw [Below.heap_setCell _ _ _ _ h1, hg3.block j (heap_lt h5) (fun e => h3 e.symm)]; exact h5
  have hv'b : v'.ownBlock ≠ some b := fun e => by
    obtain ⟨cur, hh⟩ := row_block hown e
    rw [hblk3] at hh; simp at hh
  have htn : Turn F w (w3.setCell ⟨b, 0, none⟩ v') :=
    (Turn.of_below hb12).trans ((Turn.of_grown (F := F) hg3 (fun j hj => h.inV j hj)).trans (F1 := F) ⟨rfl, rfl, rfl, by simp [World.setCell], fun j _ hn => Below.heap_setCell _ _ _ _ (fun e => hn (by rw [e]; exact h.inB))⟩ (fun _ _ h => h)) (fun _ _ h => h)
  have hs1 := hb1.size
  have hs2 := hb2.size
  have hs3 := hg3.size
  have hbl := heap_lt h.blk
  have hvl : ∀ g, v.ownBlock = some g → g < w.heap.size := fun g hg => by obtain ⟨cur, hh⟩ := row_block h.row hg; exact heap_lt hh
  refine ⟨v', w3, (by obtain ⟨ao', cap', e⟩ := ownsRow_form hown; exact ⟨_, _, _, e⟩), hrun, by rw [cell_of_row w3 b _ _ _ _ hblk3]; rfl, row_frozen hblk3 0, ⟨v', fun j => if j = D.length then F1 else G j, ?_, ?_, fun j p' S' hj => ?_, fun i j k hij hi' => ?_, .inl h.inB, fun g hg => ?_, fun j k hg => ?_, fun j => ?_, fun g hg j => ?_, fun j k hg => ?_, by simp; omega⟩, htn⟩
  · rw [setCell_eq_setRow w3 b 0 _ _ _ v' hblk3, setRow_heap w3 b _ _ _ _ hblk3]; rfl
  · rw [List.length_append, List.map_append]
    refine ownsRow_of_block hown fun g o hv hg => ?_
    rw [Below.heap_setCell _ _ _ _ (fun e => hv'b (by have e' : g = b := e; rw [← e']; exact hv))]; exact hg
  · by_cases e : j = D.length
    · subst e
      rw [List.getElem?_append_right (Nat.le_refl _)] at hj
      simp only [Nat.sub_self, List.getElem?_cons_zero, Option.some.injEq, Prod.mk.injEq] at hj
      obtain ⟨rfl, rfl⟩ := hj
      simp only [if_true]
      exact hd2.of_blocks fun k o hk ho => hstay k o (fun e => by have := (hf k hk).1; omega) (fun e => by have := (hf k hk).1; have := hvl k e; omega) ho
    · have hjl : j < D.length := by
        rcases Nat.lt_or_ge j D.length with x | x
        · exact x
        · rw [List.getElem?_eq_none (by simp; omega)] at hj; cases hj
      rw [List.getElem?_append_left hjl] at hj
      simp only [e, if_false]
      exact (h2.dev j p' S' hj).of_blocks fun k o hk ho => hstay k o (fun e => h.outB j (by rw [← e]; exact hk)) (fun e => h.outV k e j hk) ho
  · by_cases e : i = D.length
    · have e2 : j ≠ D.length := fun x => hij (by rw [e, x])
      simp only [e, if_true] at hi'
      simp only [e2, if_false]
      exact fun x => by have := h.lt j k x; have := (hf k hi').1; omega
    · simp only [e, if_false] at hi'
      by_cases e2 : j = D.length
      · simp only [e2, if_true]
        exact fun x => by have := h.lt i k hi'; have := (hf k x).1; omega
      · simp only [e2, if_false]
        exact h.apart i j k hij hi'
  · rcases hloc with e | e
    · rw [e] at hg; exact .inl (h.inV g hg)
    · rw [e] at hg
      cases hg
      have := (hown.lt w2.heap.size e).2
      exact .inr ⟨by omega, by rw [set_size]; exact this⟩
  · by_cases e : j = D.length
    · simp only [e, if_true] at hg
      have := hf k hg
      exact .inr ⟨this.1, by rw [set_size]; omega⟩
    · simp only [e, if_false] at hg
      exact .inl (h.inG j k hg)
  · by_cases e : j = D.length
    · simp only [e, if_true]
      exact fun x => by have := (hf b x).1; omega
    · simp only [e, if_false]; exact h.outB j
  · have hgg : v.ownBlock = some g ∨ g = w2.heap.size := by
      rcases hloc with e | e
      · rw [e] at hg; exact .inl hg
      · rw [e] at hg; cases hg; exact .inr rfl
    by_cases e : j = D.length
    · simp only [e, if_true]
      intro x
      have := hf g x
      rcases hgg with y | y
      · have := hvl g y; omega
      · omega
    · simp only [e, if_false]
      intro x
      rcases hgg with y | y
      · exact h.outV g y j x
      · have := h.lt j g x; omega
  · rw [set_size]
    by_cases e : j = D.length
    · simp only [e, if_true] at hg
      have := hf k hg
      omega
    · simp only [e, if_false] at hg
      have := h.lt j k hg
      omega

/-- What Add leaves: the new device, or the fault. -/
def BAdded (F : Nat → Prop) (b : Nat) (D : List Dev) (q : Pw) (n : Int) (w : World) (e : Ending) (w' : World) : Prop :=
  Turn F w w' ∧ ((addC D q n ≠ 0 ∧ ∃ u, e = .returned (.tuple #[.int .i64 0, u]) ∧ FErrN w.heap.size w' u (addC D q n) "add".toUTF8 (D.length : Int) 0 ∧ Bk w' (ext F w w') b D q) ∨
    (addC D q n = 0 ∧ e = .returned (.tuple #[.int .i64 (D.length : Int), .nilIface]) ∧ ∃ p, Bk w' (ext F w w') b (D ++ [some (p, fresh n.toNat)]) q))
theorem run_onePd (w : World) (p : Addr) : (Instr.buildSlice 42 1 #[(0, .pointer (some p))]).run Tryz.prog w = .ok (.slice (some ⟨w.heap.size, 0, none⟩) 1 1) (w.alloc (.cells #[.pointer (some p)] 75)) := by kernel_rfl
theorem wpList_appendD {w w' : World} {ops : Array Oper} {rest : List Oper} {o : Oper} {a : Act} {Q : Exit → Act → World → Prop} {x y : Operand} {v xv yv : Value} (hgd : o.guard = none) (ho : o.op = .call { callee := .builtin .append, args := #[x, y], argTypes := #[42, 42] })
    (hr : (Builtin.append_ #[42, 42] 42 #[xv, yv]).run Tryz.prog w = .ok v w') (hty : o.type = 42) (hx : a.eval x = xv) (hy : a.eval y = yv)
    (h : wpList Tryz.prog ops Q rest (a.put o.dst v) w') : wpList Tryz.prog ops Q (o :: rest) a w :=
  wpList_exec hgd (exec_append ho (by rw [hty]; exact hr) hx hy) h
set_option maxRecDepth 100000 in
set_option maxHeartbeats 1000000 in
theorem badd_any {w : World} {F : Nat → Prop} {b : Nat} {D : List Dev} {q : Pw} (h : Bk w F b D q) (n : Int) :
    Calls Tryz.prog 10 #[.pointer (some ⟨b, 0, none⟩), .int .i64 n] w (BAdded F b D q n w) := by
  have HA := hide (attachable_any h n)
  have HBK := hide h
  obtain ⟨v, G, h⟩ := h
  have c0 := h.c0
  have H := hide h
  obtain ⟨ao, cap, rfl⟩ := h.form
  clear h
  go_enter Tryz.func10, Tryz.ntmps10
  go_wp2_with fail
  refine HA.out.mono ?_
  rintro e w1 ⟨hb1, he⟩
  have HB1 := hide hb1
  have k0 : w1.cell? ⟨b, 0, none⟩ = some (.slice ao D.length cap) := by rw [hb1.cell (cell_lt c0)]; exact c0
  rcases he with ⟨hc, rfl⟩ | ⟨hc, p, F1, rfl, hd, hf⟩
  · have HC := hide hc
    have HW := hide (wrap_any "add".toUTF8 (D.length : Int) 0 (addC D q n) w1)
    have hv := errV_code hc
    rw [hv] at HW
    rw [hv]
    clear hv hc hb1 HA
    go_wp2_with fail
    refine HW.out.mono ?_
    rintro e w2 ⟨u, rfl, hu, hb2, hform⟩
    have HU := hide hu
    have HB2 := hide (HB1.out.trans (hb2.mono HB1.out.size))
    clear hu hb2
    rcases hform with rfl | rfl
    · go_wp2
      go_ret2
      exact ⟨Turn.of_below HB2.out, .inl ⟨HC.out, _, rfl, ⟨HU.out, fun k hk => by cases hk⟩, (HBK.out.below HB2.out).mono (fun _ hk => .inl hk)⟩⟩
    · go_wp2
      go_ret2
      exact ⟨Turn.of_below HB2.out, .inl ⟨HC.out, _, rfl, ⟨HU.out, fun k hk => by cases hk; exact HB1.out.size⟩, (HBK.out.below HB2.out).mono (fun _ hk => .inl hk)⟩⟩
  · have HC := hide hc
    have hlen : D.length < 8 := by
      unfold addC at hc
      split at hc
      · omega
      · split at hc
        · omega
        · omega
    rw [errV_zero]
    obtain ⟨v', w3, ⟨ao3, n3, cap3, rfl⟩, hr3, k3, f3, hbk, htn⟩ := H.out.add hlen hb1 hd hf ((Below.refl _ _).alloc (Nat.le_refl _) (.cells #[.pointer (some ⟨p, 0, none⟩)] 75)) (heap_alloc_new w1 _)
    have HBK2 := hide hbk
    have HTN2 := hide htn
    clear hbk htn hd hf hlen hb1 HA hc H HBK
    go_wp2_with (first | ((with_reducible refine wpList_appendD rfl rfl hr3 ?_ ?_ ?_ ?_); rfl; rfl; rfl))
    go_ret2
    exact ⟨HTN2.out, .inr ⟨HC.out, rfl, p, HBK2.out⟩⟩

def sizeOf (d : Dev) : Int := match d with | some (_, S) => (S.length : Int) | none => 0
/-- What Sizes leaves. -/
def BSized (D : List Dev) (w : World) (e : Ending) (w' : World) : Prop := ∃ v, e = .returned v ∧ w'.ownsRow w.heap.size 3 1 v D.length (D.map fun d => Value.int .i64 (sizeOf d)) ∧ Below w.heap.size w w'
end Go.Proofs.YtliboiajhhnajaaGreatDoor
