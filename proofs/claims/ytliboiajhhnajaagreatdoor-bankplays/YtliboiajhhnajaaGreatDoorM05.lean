import Derived.Test.YtliboiajhhnajaaGreatDoorM04
/- What a write leaves of a disk. -/
namespace Go.Proofs.YtliboiajhhnajaaGreatDoor
open Go.RowKit Go.Extern

theorem wt_wait {S : List Sec} {i : Nat} {s : Sec} (hs : S[i]? = some s) (l : List (List Nat)) (k : Int) : wt (S.set i { s with wait := l }) k = if k = (i : Int) then l else wt S k := by
  have hi := (List.getElem?_eq_some_iff.1 hs).1
  unfold wt
  by_cases h0 : 0 ≤ k
  · rw [if_pos h0, if_pos h0]
    by_cases e : k.toNat = i
    · rw [e, List.getElem?_set_self hi, if_pos (by omega)]
    · rw [List.getElem?_set_ne (fun h => e h.symm), if_neg (by omega)]
  · rw [if_neg h0, if_neg h0, if_neg (by omega)]
theorem secsC_wait {S : List Sec} {i : Nat} {s : Sec} (hs : S[i]? = some s) (l : List (List Nat)) : secsC (S.set i { s with wait := l }) = secsC S := by
  unfold secsC
  rw [List.flatMap_def, List.flatMap_def, List.map_set]
  congr 1
  have : secC { s with wait := l } = secC s := rfl
  rw [this]
  apply List.ext_getElem?
  intro j
  by_cases e : i = j
  · subst e
    rw [List.getElem?_set_self (by simpa using (List.getElem?_eq_some_iff.1 hs).1), List.getElem?_map, hs]; rfl
  · rw [List.getElem?_set_ne e]
theorem consC_snoc (l : List (List Nat)) (d : List Nat) : consC (l ++ [d]) = consC l ++ cellsB d := by simp [consC]
theorem lit_ne {i j : Int} (h : i ≠ j) : (Lit.int .i64 i) ≠ .int .i64 j := fun e => h (by injection e)
theorem key_lit {k : Int} (h : I64 k) : WideAt.IsKeyLit (.int .i64 k) := lawK.key (keyI h)
theorem valAt_put_same {D : DataW Value} (hD : Maps.IsMap D) {k : Int} (hk : I64 k) (v : Value) : valAt (D.put (.int .i64 k) (.held v)) k = v := by
  unfold valAt; rw [Maps.atKey_put_same hD (key_lit hk)]
theorem valAt_put_other {D : DataW Value} {k j : Int} (h : j ≠ k) (v : Value) : valAt (D.put (.int .i64 k) (.held v)) j = valAt D j := by
  unfold valAt; rw [Maps.atKey_put_other (lit_ne h)]

/-- The sectors for which something waits, rising. -/
def waits (S : List Sec) (i : Nat) : Bool := match S[i]? with | some s => !s.wait.isEmpty | none => false
def pend (S : List Sec) : List Nat := (List.range S.length).filter (waits S)
theorem mem_pend {S : List Sec} {i : Nat} : i ∈ pend S ↔ ∃ s, S[i]? = some s ∧ s.wait ≠ [] := by
  unfold pend
  rw [List.mem_filter, List.mem_range]
  unfold waits
  constructor
  · rintro ⟨h1, h2⟩
    rw [List.getElem?_eq_getElem h1] at h2 ⊢
    exact ⟨_, rfl, by simpa using h2⟩
  · rintro ⟨s, h1, h2⟩
    exact ⟨(List.getElem?_eq_some_iff.1 h1).1, by rw [h1]; simpa using h2⟩
theorem pend_nodup (S : List Sec) : (pend S).Nodup := List.Pairwise.filter _ List.nodup_range
theorem pend_length (S : List Sec) : (pend S).length ≤ S.length := Nat.le_trans (List.length_filter_le _ _) (by simp)
def litInt : Lit → Int | .int _ n => n | _ => 0
/-- The keys of a disk's map are the sectors for which something waits. -/
theorem keys_perm {w : World} {mb n : Nat} {S : List Sec} {D : DataW Value} (h : w.ownsMap Tryz.prog 3 rawE mb n D) (hk : ∀ kl, Maps.has D kl = true ↔ ∃ (i : Nat) (s : Sec), kl = .int .i64 (i : Int) ∧ S[i]? = some s ∧ s.wait ≠ []) :
    ∃ es, D = .map es ∧ (es.map fun p => litInt p.1).Perm ((pend S).map fun i : Nat => (i : Int)) := by
  obtain ⟨es, rfl, hp, hl⟩ := h.entries lawK
  refine ⟨es, rfl, ?_⟩
  have hall : ∀ p ∈ es, ∃ (i : Nat) (s : Sec), p.1 = .int .i64 (i : Int) ∧ S[i]? = some s ∧ s.wait ≠ [] := fun p hp => (hk p.1).1 (List.any_eq_true.2 ⟨p, hp, WideAt.sameKey_self (hl p hp)⟩)
  refine (List.perm_ext_iff_of_nodup ?_ ?_).2 (fun z => ?_)
  · unfold List.Nodup
    rw [List.pairwise_map]
    refine List.Pairwise.imp_of_mem ?_ hp
    intro p q hp hq hne e
    obtain ⟨i, -, e1, -⟩ := hall p hp
    obtain ⟨j, -, e2, -⟩ := hall q hq
    rw [e1, e2] at e
    simp only [litInt] at e
    exact hne (by rw [e1, e2, e])
  · unfold List.Nodup
    rw [List.pairwise_map]
    exact List.Pairwise.imp (fun h e => h (by omega)) (pend_nodup S)
  · rw [List.mem_map, List.mem_map]
    constructor
    · rintro ⟨p, hp, rfl⟩
      obtain ⟨i, s, e1, h1, h2⟩ := hall p hp
      exact ⟨i, mem_pend.2 ⟨s, h1, h2⟩, by rw [e1]; rfl⟩
    · rintro ⟨i, hi, rfl⟩
      obtain ⟨s, h1, h2⟩ := mem_pend.1 hi
      obtain ⟨p, hp, hs⟩ := List.any_eq_true.1 ((hk (.int .i64 (i : Int))).2 ⟨i, s, rfl, h1, h2⟩)
      exact ⟨p, hp, by rw [WideAt.sameKey_eq hs]; rfl⟩
theorem map_size {w : World} {mb n : Nat} {S : List Sec} {D : DataW Value} (h : w.ownsMap Tryz.prog 3 rawE mb n D) (hk : ∀ kl, Maps.has D kl = true ↔ ∃ (i : Nat) (s : Sec), kl = .int .i64 (i : Int) ∧ S[i]? = some s ∧ s.wait ≠ []) : Maps.size D = (pend S).length := by
  obtain ⟨es, rfl, hp⟩ := keys_perm h hk
  have := hp.length_eq
  simpa [Maps.size] using this

theorem heap_alloc_keep {w : World} {k : Nat} {o : Obj} (h : w.heap[k]? = some o) (x : Obj) : (w.alloc x).heap[k]? = some o := by rw [Below.heap_alloc _ _ _ (heap_lt h)]; exact h
theorem cells_conC {w : World} {g : Nat} {c : List Nat} {t : TypeId} (h : w.heap[g]? = some (.cells (conC c) t (0, 0))) : ∀ j u, (cellsB c)[j]? = some u → w.cell? ((⟨g, 0, none⟩ : Addr).add j) = some u := fun j u hu => by
  rw [Addr.add_mid, cell_of_row w g _ _ _ _ h, Nat.zero_add]
  unfold conC
  rw [List.getElem?_toArray]; exact hu

set_option maxRecDepth 100000 in
/-- The append and the store into the map of a write, from a world in which nothing old has turned and the new bytes lie in a block of their own. -/
theorem write_core {w w2 : World} {F : Nat → Prop} {b mb : Nat} {S : List Sec} {v : Value} {D : DataW Value} (h : DkAt w F b S v mb D) {k : Nat} {s : Sec} (hs : S[k]? = some s) (hww : s.wait.length < 1000000) {d : List Nat} (hd : Con d)
    (hb2 : Below w.heap.size w w2) {nb : Nat} (hnb : w2.heap[nb]? = some (.cells (conC d) 112 (0, 0))) :
    ∃ v' w3 w4, (Builtin.append_ #[116, 116] 116 #[valAt D (k : Int), .slice (some ⟨nb, 0, none⟩) 1 1]).run Tryz.prog w2 = .ok v' w3 ∧
      (Instr.mapUpdate 102 (.map (some mb)) (.int .i64 (k : Int)) v').run Tryz.prog w3 = .ok () w4 ∧ Dk w4 (ext F w w4) b (S.set k { s with wait := s.wait ++ [d] }) ∧ Turn F w w4 ∧
      (∀ j o, j ≠ mb → (valAt D (k : Int)).ownBlock ≠ some j → w2.heap[j]? = some o → w3.heap[j]? = some o ∧ w4.heap[j]? = some o) := by
  have hk := (List.getElem?_eq_some_iff.1 hs).1
  have hI : I64 (k : Int) := I64.nat (by have := h.good.1; omega)
  have h2 := h.below hb2
  have hgs := h.good.2 s (List.mem_of_getElem? hs)
  obtain ⟨i0, hi, hz0, hz1, hz2⟩ := info_parts infoC3
  have hrow := h2.rows _ hI
  rw [wt_at hs] at hrow
  obtain ⟨v', w3, hrun, hown, hg3, -, hloc⟩ := run_append_own_at (P := Tryz.prog) w2 0 116 116 112 i0 (conV zeros) 128 128 Tryz.underlying116 hi hz0 hz1 hz2 (conC_size zeros_con) (by decide) _ _ _ hrow ⟨nb, 0, none⟩ 1 1 (cellsB d) (by rw [cellsB_length, hd.1]) (cells_conC hnb) (cellsB_one d)
    (by unfold maxLen; omega) (by omega) (Nat.zero_le _)
  have hv2 : (valAt D (k : Int)).ownBlock ≠ some mb := fun e => by
    obtain ⟨es, clock, hb, -⟩ := h2.map
    rcases hrow.2 with ⟨hv, -⟩ | ⟨g', cap', cur', hv, -, hh, -⟩
    · rw [hv] at e; simp [Value.ownBlock] at e
    · rw [hv] at e
      simp only [Value.ownBlock, Option.some.injEq] at e
      subst e
      rw [hb] at hh; cases hh
  have hmb2 : mb < w2.heap.size := h2.map.lt
  have hm3 := h2.map.kept hg3 (fun e => hv2 e.symm)
  have hsize := map_size h.map h.keys
  have hpl := pend_length S
  have hgl := h.good.1
  obtain ⟨ao', cap', hv'⟩ := ownsRow_form hown
  obtain ⟨w4, hrun4, hm4, hg4⟩ := hm3.update lawK Tryz.underlying102 (by unfold maxLen; omega) (keyI hI) (show rawE v' = some (.held v', []) by rw [hv']; rfl)
  have hisM := h.map.isMap
  -- blocks that stay
  have hstay : ∀ j o, j ≠ mb → (valAt D (k : Int)).ownBlock ≠ some j → w2.heap[j]? = some o → w3.heap[j]? = some o ∧ w4.heap[j]? = some o := fun j o h1 h3 h5 => by
    have e3 : w3.heap[j]? = some o := by rw [hg3.block j (heap_lt h5) (fun e => h3 e.symm)]; exact h5
    exact ⟨e3, by rw [hg4.block j (heap_lt e3) (by simpa using h1)]; exact e3⟩
  have hkind : ∀ {j : Nat} {o : Obj}, w2.heap[j]? = some o → (∀ cur, o ≠ .cells cur 112 (0, 0)) → (valAt D (k : Int)).ownBlock ≠ some j := fun {j o} hj hn e => by
    rcases hrow.2 with ⟨hv, -⟩ | ⟨g', cap', cur', hv, -, hh, -⟩
    · rw [hv] at e; simp [Value.ownBlock] at e
    · rw [hv] at e
      simp only [Value.ownBlock, Option.some.injEq] at e
      subst e
      rw [hj] at hh
      exact hn _ (Option.some.inj hh)
  have hbmb : b ≠ mb := fun e => by
    obtain ⟨es, clock, hb, -⟩ := h2.map
    have := h2.blk
    rw [e, hb] at this; cases this
  refine ⟨v', w3, w4, hrun, hrun4, ?_, ?_, hstay⟩
  · refine ⟨v, mb, D.put (.int .i64 (k : Int)) (.held v'), ?_, ?_, ownsMap_size hm4, fun j hj => ?_, fun kl => ?_, fun j l hj hl hne => ?_, .inl h.inB, .inl h.inM, fun g hg => .inl (h.inS g hg), fun j g hj hg => ?_, good_set h.good ⟨hgs.1, fun c hc => ?_⟩⟩
    · exact (hstay b _ hbmb (hkind h2.blk (by simp)) h2.blk).2
    · rw [List.length_set, secsC_wait hs]
      refine ownsRow_of_block h2.secs fun g o hv hg => (hstay g o (fun e => ?_) (hkind hg ?_) hg).2
      · subst e
        obtain ⟨es, clock, hb, -⟩ := h2.map
        rcases h2.secs.2 with ⟨e, -⟩ | ⟨g', cap', cur', e, -, hh, -⟩
        · rw [e] at hv; simp [Value.ownBlock] at hv
        · rw [e] at hv
          simp only [Value.ownBlock, Option.some.injEq] at hv
          subst hv
          rw [hb] at hh; cases hh
      · rcases h2.secs.2 with ⟨e, -⟩ | ⟨g', cap', cur', e, -, hh, -⟩
        · rw [e] at hv; simp [Value.ownBlock] at hv
        · rw [e] at hv
          simp only [Value.ownBlock, Option.some.injEq] at hv
          subst hv
          rw [hg] at hh
          rw [Option.some.inj hh]
          simp
    · rw [wt_wait hs]
      by_cases e : j = (k : Int)
      · subst e
        rw [if_pos rfl, valAt_put_same hisM hI, List.length_append, consC_snoc]
        refine ownsRow_of_block hown fun g o hv hg => ?_
        rw [hg4.block g (heap_lt hg) (fun e => ?_)]
        · exact hg
        · have e := Option.some.inj e
          subst e
          obtain ⟨es, clock, hb, -⟩ := hm3
          rcases hown.2 with ⟨e, -⟩ | ⟨g', cap', cur', e, -, hh, -⟩
          · rw [e] at hv; simp [Value.ownBlock] at hv
          · rw [e] at hv
            simp only [Value.ownBlock, Option.some.injEq] at hv
            subst hv
            rw [hb] at hh; cases hh
      · rw [if_neg e, valAt_put_other e]
        refine ownsRow_of_block (h2.rows j hj) fun g o hv hg => (hstay g o (fun e2 => ?_) (fun e2 => ?_) hg).2
        · subst e2
          obtain ⟨es, clock, hb, -⟩ := h2.map
          rcases (h2.rows j hj).2 with ⟨e, -⟩ | ⟨g', cap', cur', e, -, hh, -⟩
          · rw [e] at hv; simp [Value.ownBlock] at hv
          · rw [e] at hv
            simp only [Value.ownBlock, Option.some.injEq] at hv
            subst hv
            rw [hb] at hh; cases hh
        · rcases h.apart j (k : Int) hj hI e with h1 | h1
          · rw [h1] at hv; cases hv
          · exact h1 (by rw [hv, e2])
    · by_cases e : kl = .int .i64 (k : Int)
      · subst e
        rw [Maps.has_put_same hisM (key_lit hI)]
        exact ⟨fun _ => ⟨k, _, rfl, List.getElem?_set_self hk, by simp⟩, fun _ => rfl⟩
      · rw [Maps.has_put_other e, h.keys]
        constructor
        · rintro ⟨j, t, h1, h3, h5⟩
          have hne : k ≠ j := fun e2 => e (by rw [h1, e2])
          exact ⟨j, t, h1, by rw [List.getElem?_set_ne hne]; exact h3, h5⟩
        · rintro ⟨j, t, h1, h3, h5⟩
          have hne : k ≠ j := fun e2 => e (by rw [h1, e2])
          rw [List.getElem?_set_ne hne] at h3
          exact ⟨j, t, h1, h3, h5⟩
    · have key : ∀ m, I64 m → m ≠ (k : Int) → (valAt D m).ownBlock = none ∨ (valAt D m).ownBlock ≠ v'.ownBlock := fun m hm hne => by
        rcases hloc with e1 | e1
        · rw [e1]; exact h.apart m _ hm hI hne
        · rw [e1]
          refine .inr fun e2 => ?_
          have := ((h2.rows m hm).lt _ e2).2
          omega
      by_cases e1 : j = (k : Int)
      · subst e1
        rw [valAt_put_same hisM hI, valAt_put_other (fun e => hne e.symm)]
        rcases key l hl (fun e => hne e.symm) with h1 | h1
        · rw [h1]
          cases hx : v'.ownBlock with
          | none => exact .inl rfl
          | some g => exact .inr (by simp)
        · exact .inr (fun e => h1 e.symm)
      · rw [valAt_put_other e1]
        by_cases e2 : l = (k : Int)
        · subst e2
          rw [valAt_put_same hisM hI]
          exact key j hj e1
        · rw [valAt_put_other e2]
          exact h.apart j l hj hl hne
    · by_cases e1 : j = (k : Int)
      · subst e1
        rw [valAt_put_same hisM hI] at hg
        rcases hloc with e2 | e2
        · rw [e2] at hg; exact .inl (h.inV _ _ hI hg)
        · rw [e2] at hg
          cases hg
          have := (hown.lt w2.heap.size e2).2
          exact .inr ⟨hb2.size, Nat.lt_of_lt_of_le this hg4.size⟩
      · rw [valAt_put_other e1] at hg
        exact .inl (h.inV j g hj hg)
    · rcases List.mem_append.1 hc with h1 | h1
      · exact hgs.2 c h1
      · rw [List.mem_singleton.1 h1]; exact hd
  · refine (Turn.of_below hb2).trans ((Turn.of_grown (F := F) hg3 (fun j hj => h.inV _ j hI hj)).trans (Turn.of_grown (F := F) hg4 (fun j hj => by cases hj; exact h.inM)) (fun _ _ h => h)) (fun _ _ h => h)
end Go.Proofs.YtliboiajhhnajaaGreatDoor

/- What one sector more leaves of a disk. -/
namespace Go.Proofs.YtliboiajhhnajaaGreatDoor
open Go.RowKit Go.Extern

/-- A sector as one value. -/
def secA (s : Sec) : Array Value := (secC s).toArray
def secV (s : Sec) : Value := .agg (secA s)
def zeroSec : Sec := ⟨zeros, false, []⟩
theorem zeroSec_good : GoodSec zeroSec := ⟨zeros_con, by simp [zeroSec]⟩
theorem secC_one (s : Sec) : ∀ u ∈ secC s, u.oneCell' = true := fun u hu => by
  rcases List.mem_append.1 hu with h | h
  · exact cellsB_one _ u h
  · rw [List.mem_singleton.1 h]; rfl
theorem infoS3 : (Tryz.prog.info? 114).map (fun i => (i.zero, i.size, i.bytes)) = some (some (secV zeroSec), 129, 129) := by kernel_rfl
theorem run_build0 (w : World) : (Instr.build 114 #[]).run Tryz.prog w = .ok (secV zeroSec) w := by kernel_rfl
theorem exec_build {ρ : Operand → Value} {o : Oper} {w : World} {t : TypeId} {v : Value} (ho : o.op = .build t #[]) (hr : (Instr.build t #[]).run Tryz.prog w = .ok v w) : (execOp ρ o).run Tryz.prog w = .ok (.value v) w := by
  unfold execOp; simp [ho, hr]
/-- A slice of one sector, written out. -/
theorem run_oneS (w : World) (s : Sec) (hs : Con s.dur) : (Instr.buildSlice 101 1 #[(0, secV s)]).run Tryz.prog w = .ok (.slice (some ⟨w.heap.size, 0, none⟩) 1 1) (w.alloc (.cells (secA s) 114)) := by
  obtain ⟨i, hi, hz, hsz0, -⟩ := info_parts infoS3
  refine run_buildSlice w 101 114 1 _ (secA s) i (secV zeroSec) Tryz.underlying101 hi hz (by rw [hsz0]; decide) (by rw [hsz0]; decide) ?_
  rw [hsz0]
  have hl : (secC s).length = 129 := secC_length hs
  have hsz : ((Array.range (1 * 129)).map ((secV zeroSec).cells[· % (secV zeroSec).cells.size]!)).size = 129 := by simp
  generalize ((Array.range (1 * 129)).map ((secV zeroSec).cells[· % (secV zeroSec).cells.size]!)) = z at hsz
  show Instr.fill _ z [(0, secV s)] = _
  unfold Instr.fill
  have e1 : (secV s).cells = (secC s).toArray := rfl
  rw [e1]
  simp only [Nat.zero_mul, List.size_toArray, hl, hsz]
  have e2 := fold_array (secC s) 0 z (by rw [hl, hsz]; decide)
  rw [hl] at e2
  rw [e2, List.drop_of_length_le (by simp [hsz])]
  simp [Instr.fill, secA]
theorem wpList_exec {w w' : World} {ops : Array Oper} {rest : List Oper} {o : Oper} {a : Act} {Q : Exit → Act → World → Prop} {v : Value} (hgd : o.guard = none) (hrun : (execOp a.eval o).run Tryz.prog w = .ok (.value v) w') (h : wpList Tryz.prog ops Q rest (a.put o.dst v) w') : wpList Tryz.prog ops Q (o :: rest) a w := by
  refine wpList_plain hgd fun K hK => ?_
  unfold Oper.wp
  rw [hrun]
  exact hK _ _ h
theorem wpList_build0 {w : World} {ops : Array Oper} {rest : List Oper} {o : Oper} {a : Act} {Q : Exit → Act → World → Prop} (hgd : o.guard = none) (ho : o.op = .build 114 #[]) (h : wpList Tryz.prog ops Q rest (a.put o.dst (secV zeroSec)) w) : wpList Tryz.prog ops Q (o :: rest) a w :=
  wpList_exec hgd (exec_build ho (run_build0 w)) h
theorem wpList_oneS {w : World} {ops : Array Oper} {rest : List Oper} {o : Oper} {a : Act} {Q : Exit → Act → World → Prop} {x : Operand} (hgd : o.guard = none) (ho : o.op = .buildSlice 101 1 #[(0, x)]) (s : Sec) (hs : Con s.dur) (hx : a.eval x = secV s)
    (h : wpList Tryz.prog ops Q rest (a.put o.dst (.slice (some ⟨w.heap.size, 0, none⟩) 1 1)) (w.alloc (.cells (secA s) 114))) : wpList Tryz.prog ops Q (o :: rest) a w :=
  wpList_exec hgd (exec_one ho (run_oneS w s hs) hx) h
theorem wpList_appendS {w w' : World} {ops : Array Oper} {rest : List Oper} {o : Oper} {a : Act} {Q : Exit → Act → World → Prop} {x y : Operand} {v xv yv : Value} (hgd : o.guard = none) (ho : o.op = .call { callee := .builtin .append, args := #[x, y], argTypes := #[101, 101] })
    (hr : (Builtin.append_ #[101, 101] 101 #[xv, yv]).run Tryz.prog w = .ok v w') (hty : o.type = 101) (hx : a.eval x = xv) (hy : a.eval y = yv)
    (h : wpList Tryz.prog ops Q rest (a.put o.dst v) w') : wpList Tryz.prog ops Q (o :: rest) a w :=
  wpList_exec hgd (exec_append ho (by rw [hty]; exact hr) hx hy) h

theorem secsC_snoc (S : List Sec) (s : Sec) : secsC (S ++ [s]) = secsC S ++ secC s := by simp [secsC]
theorem wt_snoc (S : List Sec) (k : Int) : wt (S ++ [zeroSec]) k = wt S k := by
  unfold wt
  split
  · by_cases h : k.toNat < S.length
    · rw [List.getElem?_append_left h]
    · rw [List.getElem?_append_right (by omega), List.getElem?_eq_none (l := S) (by omega)]
      cases hk : k.toNat - S.length with
      | zero => rfl
      | succ n => rfl
  · rfl
theorem two_set0 {w : World} {b : Nat} {x y : Value} {T : TypeId} (z : Value) (h : w.heap[b]? = some (.cells #[x, y] T (0, 0))) : (w.setCell ⟨b, 0, none⟩ z).heap[b]? = some (.cells #[z, y] T (0, 0)) := by
  have e1 := setCell_eq_setRow w b 0 _ _ _ z h
  have h1 := setRow_heap w b _ (#[x, y].setIfInBounds 0 z) _ _ h
  rw [← e1] at h1
  rw [h1]; rfl
theorem two_set1 {w : World} {b : Nat} {x y : Value} {T : TypeId} (z : Value) (h : w.heap[b]? = some (.cells #[x, y] T (0, 0))) : (w.setCell ⟨b, 1, none⟩ z).heap[b]? = some (.cells #[x, z] T (0, 0)) := by
  have e1 := setCell_eq_setRow w b 1 _ _ _ z h
  have h1 := setRow_heap w b _ (#[x, y].setIfInBounds 1 z) _ _ h
  rw [← e1] at h1
  rw [h1]; rfl

/-- What a row's block cannot be. -/
theorem row_block {w : World} {e : TypeId} {size : Nat} {v : Value} {n : Nat} {xs : List Value} (h : w.ownsRow 0 e size v n xs) {g : Nat} (hv : v.ownBlock = some g) : ∃ cur, w.heap[g]? = some (.cells cur e (0, 0)) := by
  rcases h.2 with ⟨rfl, -⟩ | ⟨g', cap', cur', rfl, -, hh, -⟩
  · simp [Value.ownBlock] at hv
  · simp only [Value.ownBlock, Option.some.injEq] at hv
    subst hv
    exact ⟨_, hh⟩
theorem map_block {H : Type} {w : World} {P : Program} {k : TypeId} {R : Value → Option (DataW H × List MemPlace)} {b n : Nat} {D : DataW H} (h : w.ownsMap P k R b n D) : ∃ es clock, w.heap[b]? = some (.map es clock) := by
  obtain ⟨es, clock, hb, -⟩ := h; exact ⟨es, clock, hb⟩

set_option maxRecDepth 100000 in
theorem grow_core {w w2 : World} {F : Nat → Prop} {b mb : Nat} {S : List Sec} {v : Value} {D : DataW Value} (h : DkAt w F b S v mb D) (hlen : S.length < 4096)
    (hb2 : Below w.heap.size w w2) {nb : Nat} (hnb : w2.heap[nb]? = some (.cells (secA zeroSec) 114 (0, 0))) :
    ∃ v' w3, (∃ ao n cap, v' = .slice ao n cap) ∧ (Builtin.append_ #[101, 101] 101 #[v, .slice (some ⟨nb, 0, none⟩) 1 1]).run Tryz.prog w2 = .ok v' w3 ∧ w3.cell? ⟨b, 0, none⟩ = some v ∧ w3.frozen? ⟨b, 0, none⟩ = false ∧
      Dk (w3.setCell ⟨b, 0, none⟩ v') (ext F w (w3.setCell ⟨b, 0, none⟩ v')) b (S ++ [zeroSec]) ∧ Turn F w (w3.setCell ⟨b, 0, none⟩ v') := by
  have h2 := h.below hb2
  obtain ⟨i0, hi, hz0, hz1, hz2⟩ := info_parts infoS3
  obtain ⟨v', w3, hrun, hown, hg3, -, hloc⟩ := run_append_own_at (P := Tryz.prog) w2 0 101 101 114 i0 (secV zeroSec) 129 129 Tryz.underlying101 hi hz0 hz1 hz2 (by simp [secV, Value.cells, secA, secC_length (show Con zeroSec.dur from zeros_con)]) (by decide) _ _ _ h2.secs ⟨nb, 0, none⟩ 1 1 (secC zeroSec)
    (by rw [secC_length (show Con zeroSec.dur from zeros_con)]) (fun j u hu => by
      rw [Addr.add_mid, cell_of_row w2 nb _ _ _ _ hnb, Nat.zero_add]
      unfold secA
      rw [List.getElem?_toArray]; exact hu) (secC_one _) (by unfold maxLen; omega) (by omega) (Nat.zero_le _)
  have hvb : v.ownBlock ≠ some b := fun e => by
    obtain ⟨cur, hh⟩ := row_block h2.secs e
    have := h2.blk
    rw [hh] at this; simp at this
  have hblk3 : w3.heap[b]? = some (.cells #[v, .map (some mb)] 104 (0, 0)) := by rw [hg3.block b (heap_lt h2.blk) (fun e => hvb e.symm)]; exact h2.blk
  have hstay : ∀ j o, j ≠ b → v.ownBlock ≠ some j → w2.heap[j]? = some o → (w3.setCell ⟨b, 0, none⟩ v').heap[j]? = some o := fun j o h1 h3 h5 => by
    rw [Below.heap_setCell _ _ _ _ h1, hg3.block j (heap_lt h5) (fun e => h3 e.symm)]; exact h5
  have hv'b : v'.ownBlock ≠ some b := fun e => by
    obtain ⟨cur, hh⟩ := row_block hown e
    rw [hblk3] at hh; simp at hh
  have htn : Turn F w (w3.setCell ⟨b, 0, none⟩ v') :=
    (Turn.of_below hb2).trans ((Turn.of_grown (F := F) hg3 (fun j hj => h.inS j hj)).trans (F1 := F) ⟨rfl, rfl, rfl, by simp [World.setCell], fun j _ hn => Below.heap_setCell _ _ _ _ (fun e => hn (by rw [e]; exact h.inB))⟩ (fun _ _ h => h)) (fun _ _ h => h)
  refine ⟨v', w3, (by obtain ⟨ao', cap', e⟩ := ownsRow_form hown; exact ⟨_, _, _, e⟩), hrun, two_cell0 hblk3, row_frozen hblk3 0, ⟨v', mb, D, two_set0 v' hblk3, ?_, ?_, fun k hk => ?_, fun kl => ?_, h.apart, .inl h.inB, .inl h.inM, fun g hg => ?_, fun k g hk hg => .inl (h.inV k g hk hg), ?_⟩, htn⟩
  · rw [List.length_append, secsC_snoc]
    refine ownsRow_of_block hown fun g o hv hg => ?_
    rw [Below.heap_setCell _ _ _ _ (fun e => hv'b (by have e' : g = b := e; rw [← e']; exact hv))]; exact hg
  · obtain ⟨es, clock, hm⟩ := map_block h2.map
    refine ownsMap_of_block h2.map fun o ho => hstay mb o (fun e => ?_) (fun e => ?_) ho
    · have := h2.blk; rw [← e, hm] at this; cases this
    · obtain ⟨cur, hh⟩ := row_block h2.secs e
      rw [hm] at hh; cases hh
  · rw [wt_snoc]
    refine ownsRow_of_block (h2.rows k hk) fun g o hv hg => ?_
    obtain ⟨cur, hh⟩ := row_block (h2.rows k hk) hv
    refine hstay g o (fun e => ?_) (fun e => ?_) hg
    · have := h2.blk; rw [← e, hh] at this; simp at this
    · obtain ⟨cur2, hh2⟩ := row_block h2.secs e
      rw [hh] at hh2; simp at hh2
  · rw [h.keys]
    constructor
    · rintro ⟨i, s, h1, h3, h5⟩
      exact ⟨i, s, h1, by rw [List.getElem?_append_left (List.getElem?_eq_some_iff.1 h3).1]; exact h3, h5⟩
    · rintro ⟨i, s, h1, h3, h5⟩
      by_cases hl : i < S.length
      · rw [List.getElem?_append_left hl] at h3; exact ⟨i, s, h1, h3, h5⟩
      · rw [List.getElem?_append_right (by omega)] at h3
        cases hk : i - S.length with
        | zero => rw [hk] at h3; cases h3; exact absurd rfl h5
        | succ n => rw [hk] at h3; cases h3
  · rcases hloc with e | e
    · rw [e] at hg; exact .inl (h.inS g hg)
    · rw [e] at hg
      cases hg
      have := (hown.lt w2.heap.size e).2
      exact .inr ⟨hb2.size, by simp only [World.setCell, Array.size_modify]; exact this⟩
  · refine ⟨by simp; omega, fun s hs => ?_⟩
    rcases List.mem_append.1 hs with h1 | h1
    · exact h.good.2 s h1
    · rw [List.mem_singleton.1 h1]; exact zeroSec_good
theorem ext_ext {F : Nat → Prop} {w w1 w2 : World} (h1 : w.heap.size ≤ w1.heap.size) (h2 : w1.heap.size ≤ w2.heap.size) (k : Nat) (h : ext (ext F w w1) w1 w2 k) : ext F w w2 k := by
  rcases h with (h | h) | h
  · exact .inl h
  · exact .inr ⟨h.1, by omega⟩
  · exact .inr ⟨by omega, h.2⟩
end Go.Proofs.YtliboiajhhnajaaGreatDoor
