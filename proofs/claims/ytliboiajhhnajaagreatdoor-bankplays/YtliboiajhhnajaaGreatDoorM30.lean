import Derived.Test.YtliboiajhhnajaaGreatDoorM25
import Derived.Test.YtliboiajhhnajaaGreatDoorM29
import Derived.Test.YtliboiajhhnajaaGreatDoorM27
import Derived.Laws.OwnMore
/- waiting and Crash by their contracts. -/
namespace Go.Proofs.YtliboiajhhnajaaGreatDoor
open Go.RowKit Go.Extern

def waitN (d : Dev) : Nat := match d with | some (_, S) => (pend S).length | none => 0
theorem bwaiting_none (w : World) : Calls Tryz.prog 60 #[.pointer none] w fun e w' => e = .returned (.int .i64 0) ∧ w' = w := by
  go_enter Tryz.func60, Tryz.ntmps60
  go_wp2
  go_ret
  exact ⟨rfl, rfl⟩
set_option maxRecDepth 100000 in
theorem bwaiting_any {w : World} {F : Nat → Prop} {p : Nat} {S : List Sec} (h : Dk w F p S) : Calls Tryz.prog 60 #[.pointer (some ⟨p, 0, none⟩)] w fun e w' => e = .returned (.int .i64 ((pend S).length : Int)) ∧ Below w.heap.size w w' := by
  have HP := hide (pending_any h)
  clear h
  go_enter Tryz.func60, Tryz.ntmps60
  go_wp2_with fail
  refine HP.out.mono ?_
  rintro e w1 ⟨v, rfl, hv, hb⟩
  have HB := hide hb
  obtain ⟨ao, cap, rfl⟩ := ownsRow_form hv
  rw [pendI_length]
  clear hv hb HP
  go_wp2
  go_ret
  exact ⟨rfl, HB.out⟩

/-- All devices crash, one behind the other, each with the picks that it has use for. -/
def crD : List Dev → List Int → List Dev
  | [], _ => []
  | none :: r, ps => none :: crD r ps
  | some (p, S) :: r, ps => some (p, crS S (ps.take (pend S).length)) :: crD r (ps.drop (pend S).length)
theorem crD_length : ∀ (D : List Dev) (ps : List Int), (crD D ps).length = D.length
  | [], _ => rfl
  | none :: r, ps => by simp [crD, crD_length r]
  | some (p, S) :: r, ps => by simp [crD, crD_length r]
theorem set_mid {α : Type} (l : List α) (x y : α) (r : List α) {j : Nat} (hj : l.length = j) : (l ++ x :: r).set j y = l ++ y :: r := by
  subst hj
  rw [List.set_append_right _ _ (Nat.le_refl _)]; simp
theorem mid_get {α : Type} (l : List α) (x : α) (r : List α) {j : Nat} (hj : l.length = j) : (l ++ x :: r)[j]? = some x := by
  subst hj
  rw [List.getElem?_append_right (Nat.le_refl _)]; simp
def BCrashed (F : Nat → Prop) (b : Nat) (D : List Dev) (q : Pw) (ps : List Int) (w : World) (e : Ending) (w' : World) : Prop := e = .returned (.tuple #[]) ∧ Bk w' (ext F w w') b (crD D ps) ⟨-1, false, q.done⟩ ∧ Turn F w w'

set_option maxRecDepth 100000 in
set_option maxHeartbeats 2000000 in
theorem bcrash_any {w : World} {F : Nat → Prop} {b : Nat} {D : List Dev} {q : Pw} (h : Bk w F b D q) (hww : WlB D 1000000) (pv : Value) (ps : List Int) (hp : Ints w pv ps) (hout : ∀ k, pv.ownBlock = some k → ¬ F k ∧ k < w.heap.size) :
    Calls Tryz.prog 28 #[.pointer (some ⟨b, 0, none⟩), pv] w (BCrashed F b D q ps w) := by
  have HBK := hide h
  have HWW := hide hww
  have HP := hide hp
  have HOUT := hide hout
  have HFB : Hid (F b) := by obtain ⟨v, G, h⟩ := h; exact h.inB
  have HDL : Hid (D.length ≤ 8) := h.few
  obtain ⟨v, G, h⟩ := h
  have c0 := h.c0
  obtain ⟨ao, cap, rfl⟩ := h.form
  have HV : Hid (w.ownsRow 0 75 1 (.slice ao D.length cap) D.length (D.map ptrV)) := h.row
  obtain ⟨aop, capp, gp, offp, rfl, -⟩ := hp
  have HAT := hide h
  clear h hww hout
  go_enter Tryz.func28, Tryz.ntmps28
  go_wp2_with fail
  go_loopg [12, 1] D.length (fun gk i pv wr => ∃ j pre ps' G', j + gk = D.length ∧ i = .int .i64 (j : Int) ∧ pre.length = j ∧ BkAt wr (ext F w wr) b (pre ++ D.drop j) q (.slice ao D.length cap) G' ∧ Turn F w wr ∧ pre ++ crD (D.drop j) ps' = crD D ps ∧ Ints wr pv ps' ∧ (∀ k, pv.ownBlock = some k → ¬ F k ∧ k < w.heap.size))
  case atStart => exact ⟨0, [], ps, G, by omega, rfl, rfl, HAT.out.mono (fun _ hk => .inl hk), Turn.refl _ _, rfl, HP.out, HOUT.out⟩
  case round =>
    clear HP HOUT HAT
    obtain ⟨j, pre, ps', G', hj, rfl, hpre, hat, htn, hcr, hin, hou⟩ := hrel
    have HA := hide hat
    have HT := hide htn
    have HC := hide hcr
    have HI := hide hin
    have HO := hide hou
    have HPR := hide hpre
    obtain ⟨aoq, capq, gq, offq, rfl, -⟩ := hin
    cases gk with
    | zero =>
      have hend : ¬ (j : Int) < (D.length : Int) := by omega
      have HE : Hid (pre ++ D.drop j = crD D ps) := by
        have := HC.out
        rw [List.drop_of_length_le (by omega)] at this ⊢
        exact this
      have c1 := hat.c1
      have c2 := hat.c2
      have f1 := hat.frozen 1
      have f2 := hat.frozen 2
      have HEND := hide ((hat.setDown false).setLeft (-1))
      clear hat htn hcr hou hpre hj
      go_wp2
      go_end0
      refine ⟨rfl, ?_, ?_⟩
      · have := HEND.out
        rw [HE.out] at this
        exact ⟨_, _, this.mono (fun k hk => by rcases hk with hk | hk; exact .inl hk; exact .inr ⟨hk.1, by rw [set_size, set_size]; exact hk.2⟩)⟩
      · exact HT.out.trans (F1 := F) ((set_turn (F := F) _ ⟨b, 2, none⟩ _ HFB.out).trans (F1 := F) (set_turn (F := F) _ ⟨b, 1, none⟩ _ HFB.out) (fun _ _ h => h)) (fun _ _ h => h)
    | succ m =>
      have hlt : (j : Int) < (D.length : Int) := by omega
      have hjl : j < D.length := by omega
      obtain ⟨d, hd⟩ : ∃ d, D[j]? = some d := ⟨D[j], by simp⟩
      have hdr : D.drop j = d :: D.drop (j + 1) := by
        rw [List.drop_eq_getElem_cons hjl]; congr 1; exact (List.getElem?_eq_some_iff.1 hd).2
      have hmid : (pre ++ D.drop j)[j]? = some d := by rw [hdr]; exact mid_get pre d _ hpre
      have hdl : (pre ++ D.drop j).length = D.length := by simp; omega
      obtain ⟨g, hg, -, ck, -⟩ := hat.at_ hmid
      subst hg
      have HDR := hide hdr
      have HMID := hide hmid
      have hjj : (j : Int) + 1 < 10 := by have := HDL.out; omega
      have hb0 : (0 : Int) ≤ (j : Int) := by omega
      clear hat htn hcr hou hpre hdr hmid hdl
      cases d with
      | none =>
        rw [ptrV_none] at ck
        clear hd
        go_wp2
        go_roundg m
        case measure => omega
        case rel =>
          refine ⟨j + 1, pre ++ [none], ps', G', by omega, by go_num, by simp [HPR.out], ?_, HT.out, ?_, HI.out, HO.out⟩
          · have := HA.out
            rw [HDR.out] at this
            simpa using this
          · have := HC.out
            rw [HDR.out] at this
            simpa [crD] using this
      | some d =>
        obtain ⟨p, S⟩ := d
        rw [ptrV_some] at ck
        have HWT := hide (bwaiting_any (HA.out.dev j p S HMID.out))
        obtain ⟨mn, hmn⟩ : ∃ mn : Nat, mn = min (pend S).length ps'.length := ⟨_, rfl⟩
        have hmin : min (pend S).length ps'.length = mn := hmn.symm
        have hminI : min ((pend S).length : Int) (ps'.length : Int) = (mn : Int) := by omega
        have hle : mn ≤ ps'.length := by omega
        obtain ⟨ao1, n1, cap1, hcut1, hto⟩ := cutI_to wr _ ps' mn HI.out hle
        obtain ⟨ao2, n2, cap2, hcut2, hfr⟩ := cutI_from wr _ ps' mn HI.out hle
        have HTK : Hid (ps'.take mn = ps'.take (pend S).length ∧ ps'.drop mn = ps'.drop (pend S).length) := by
          by_cases hx : (pend S).length ≤ ps'.length
          · rw [show mn = (pend S).length by omega]; exact ⟨rfl, rfl⟩
          · rw [show mn = ps'.length by omega, List.take_of_length_le (Nat.le_refl _), List.drop_of_length_le (Nat.le_refl _), List.take_of_length_le (by omega), List.drop_of_length_le (by omega)]; exact ⟨rfl, rfl⟩
        have HCR2 : Hid (pre ++ some (p, crS S (ps'.take mn)) :: crD (D.drop (j + 1)) (ps'.drop mn) = crD D ps) := by
          have := HC.out
          rw [HDR.out] at this
          simp only [crD] at this
          rw [HTK.out.1, HTK.out.2]
          exact this
        have HW := hide (HWW.out j p S hd)
        clear hd hle hmn HTK
        go_wp2_with fail
        refine HWT.out.mono ?_
        rintro e w2 ⟨rfl, hb2⟩
        have hat2 := HA.out.below hb2
        have HIS := hide (And.intro (hto.out.1.below hb2) hto.out.2)
        have HCRC := hide (crash_any (hat2.dev j p S HMID.out) HW.out (.slice ao1 n1 cap1) (ps'.take mn) HIS.out.1 (fun k hk hg => by
          have h1 := HO.out k (HIS.out.2 k hk)
          rcases hat2.inG j k hg with x | x
          · exact h1.1 x
          · omega))
        have HA2 := hide hat2
        have HB2 := hide hb2
        clear hat2 hb2 HWT hto
        generalize (pend S).length = pn at *
        go_wp2_with fail
        refine HCRC.out.mono ?_
        rintro e w3 ⟨rfl, hdk3, ht3⟩
        have hset := HA2.out.set HMID.out hdk3 ht3
        have HA3 := hide hset.1
        have HT23 := hide hset.2
        have HSZ2 := hide HB2.out.size
        have HSZ3 := hide ht3.size
        have HT3 : Hid (Turn F w w3) := (HT.out.trans (Turn.of_below (F := F) HB2.out) (fun _ _ h => h)).trans (F1 := ext F w wr) hset.2 (fun k hk h => by
          rcases h with h | h
          · exact h
          · omega)
        have HI3 : Hid (Ints w3 (.slice ao2 n2 cap2) (ps'.drop mn)) := (hfr.out.1.below HB2.out).turnB (F := ext F w wr) hset.2 (fun _ k hk hx => by
          have h1 := HO.out k (hfr.out.2 k hk)
          rcases hx with x | x
          · exact h1.1 x
          · omega)
        have HO3 : Hid (∀ k, (Value.slice ao2 n2 cap2).ownBlock = some k → ¬ F k ∧ k < w.heap.size) := fun k hk => HO.out k (hfr.out.2 k hk)
        clear hset hdk3 ht3 HCRC hfr
        go_wp2
        go_roundg m
        case measure => omega
        case rel =>
          refine ⟨j + 1, pre ++ [some (p, crS S (ps'.take mn))], ps'.drop mn, (fun i => if i = j then ext (G' j) w2 w3 else G' i), by omega, by go_num, by simp [HPR.out], ?_, HT3.out, ?_, HI3.out, HO3.out⟩
          · have := HA3.out.mono (F' := ext F w w3) (fun k hk => by
              have h1 := HT.out.size
              have h2 := HSZ2.out
              have h3 := HSZ3.out
              rcases hk with (hk | hk) | hk
              · exact .inl hk
              · exact .inr ⟨hk.1, by omega⟩
              · exact .inr ⟨by omega, hk.2⟩)
            rw [HDR.out, set_mid pre _ _ _ HPR.out] at this
            simpa using this
          · simpa using HCR2.out
end Go.Proofs.YtliboiajhhnajaaGreatDoor

/- Sizes by its contract, and the statements' fixed answer. -/
namespace Go.Proofs.YtliboiajhhnajaaGreatDoor
open Go.RowKit Go.Extern

theorem infoI : (Tryz.prog.info? 3).map (fun i => (i.zero, i.size, i.bytes)) = some (some (.int .i64 0), 1, 8) := by kernel_rfl
theorem exec_make {ρ : Operand → Value} {o : Oper} {w w' : World} {t : TypeId} {x y : Operand} {v xv yv : Value} (ho : o.op = .makeSlice t x y) (hr : (Instr.makeSlice t xv yv).run Tryz.prog w = .ok v w') (hx : ρ x = xv) (hy : ρ y = yv) : (execOp ρ o).run Tryz.prog w = .ok (.value v) w' := by
  unfold execOp; simp [ho, hx, hy, hr]
theorem wpList_make {w w' : World} {ops : Array Oper} {rest : List Oper} {o : Oper} {a : Act} {Q : Exit → Act → World → Prop} {t : TypeId} {x y : Operand} {v xv yv : Value} (hgd : o.guard = none) (ho : o.op = .makeSlice t x y)
    (hr : (Instr.makeSlice t xv yv).run Tryz.prog w = .ok v w') (hx : a.eval x = xv) (hy : a.eval y = yv) (h : wpList Tryz.prog ops Q rest (a.put o.dst v) w') : wpList Tryz.prog ops Q (o :: rest) a w :=
  wpList_exec hgd (exec_make ho hr hx hy) h
theorem madeInts (n : Nat) : (madeCells (Value.int .i64 0).cells (n * 1)).toList = List.replicate n (.int .i64 0) := by
  refine List.ext_getElem? fun i => ?_
  simp only [madeCells, Nat.mul_one, Array.toList_map, Array.toList_range, List.getElem?_map, List.getElem?_replicate]
  by_cases h : i < n
  · simp [h, Value.cells, Nat.mod_one]
  · simp [h]
/-- New numbers, all noughts. -/
theorem make_ints (w : World) (n : Nat) (hn : n ≤ 1000) : ∃ w1, (Instr.makeSlice 29 (.int .i64 (n : Int)) (.int .i64 (n : Int))).run Tryz.prog w = .ok (.slice (some ⟨w.heap.size, 0, none⟩) n n) w1 ∧
    w1.ownsRow w.heap.size 3 1 (.slice (some ⟨w.heap.size, 0, none⟩) n n) n (List.replicate n (.int .i64 0)) ∧ Below w.heap.size w w1 := by
  obtain ⟨i0, hi, hz0, hz1, hz2⟩ := info_parts infoI
  obtain ⟨w1, h1, h2, h3⟩ := run_makeSlice_full (P := Tryz.prog) w w.heap.size 29 3 i0 (.int .i64 0) 1 Tryz.underlying29 hi hz0 hz1 .i64 .i64 n (by omega) (by rw [hz2]; omega) (by unfold maxLen; omega) (Nat.le_refl _)
  rw [madeInts] at h2
  exact ⟨w1, h1, h2, (Below.refl _ _).grown h3 (Nat.le_refl _) (by simp)⟩
theorem ownsRow_set' {w : World} {e : TypeId} {B z g n cap : Nat} {xs : List Value} (h : w.ownsRow B e z (.slice (some ⟨g, 0, none⟩) n cap) n xs) (j : Nat) (u : Value) : (w.setCell ⟨g, j, none⟩ u).ownsRow B e z (.slice (some ⟨g, 0, none⟩) n cap) n (xs.set j u) := by
  obtain ⟨h1, h2⟩ := h
  refine ⟨by rw [List.length_set]; exact h1, ?_⟩
  rcases h2 with ⟨h, -⟩ | ⟨g', cap', cur, hv, hg, hh, hc, hm, hs, ht⟩
  · cases h
  · simp only [Value.slice.injEq, Option.some.injEq, Addr.mk.injEq, and_true, true_and] at hv
    obtain ⟨rfl, rfl⟩ := hv
    refine .inr ⟨g, cap, cur.setIfInBounds j u, rfl, hg, ?_, hc, hm, by simpa using hs, ?_⟩
    · rw [setCell_eq_setRow w g j _ _ _ _ hh]
      exact setRow_heap w g _ _ _ _ hh
    · rw [Array.toList_setIfInBounds, List.take_set, ht]
theorem set_snoc {α : Type} (l : List α) (x y : α) (r : List α) : (l ++ x :: r).set l.length y = (l ++ [y]) ++ r := by
  rw [List.set_append_right _ _ (Nat.le_refl _)]; simp
def sizeV (d : Dev) : Value := .int .i64 (sizeOf d)
def partSz (D : List Dev) (j : Nat) : List Value := (D.take j).map sizeV ++ List.replicate (D.length - j) (.int .i64 0)
theorem partSz_zero (D : List Dev) : partSz D 0 = List.replicate D.length (.int .i64 0) := by simp [partSz]
theorem partSz_end (D : List Dev) : partSz D D.length = D.map sizeV := by simp [partSz]
theorem partSz_step {D : List Dev} {j : Nat} {d : Dev} (h : D[j]? = some d) : (partSz D j).set j (sizeV d) = partSz D (j + 1) := by
  have hl := (List.getElem?_eq_some_iff.1 h).1
  unfold partSz
  have hr : List.replicate (D.length - j) (Value.int .i64 0) = .int .i64 0 :: List.replicate (D.length - (j + 1)) (.int .i64 0) := by
    rw [← List.replicate_succ]; congr 1; omega
  rw [hr]
  have hll : ((D.take j).map sizeV).length = j := by simp; omega
  have := set_snoc ((D.take j).map sizeV) (Value.int .i64 0) (sizeV d) (List.replicate (D.length - (j + 1)) (.int .i64 0))
  rw [hll] at this
  rw [this, take_snoc h, List.map_append]; rfl
theorem partSz_none {D : List Dev} {j : Nat} (h : D[j]? = some none) : partSz D (j + 1) = partSz D j := by
  rw [← partSz_step h]
  refine List.ext_getElem? fun i => ?_
  have hl := (List.getElem?_eq_some_iff.1 h).1
  by_cases e : j = i
  · subst e
    rw [List.getElem?_set_self (by simp [partSz]; omega)]
    unfold partSz
    rw [List.getElem?_append_right (by simp; omega), List.getElem?_replicate, if_pos (by simp; omega)]; rfl
  · rw [List.getElem?_set_ne e]
theorem row_frozen' {w : World} {B : Nat} {e : TypeId} {z g n cap : Nat} {xs : List Value} (h : w.ownsRow B e z (.slice (some ⟨g, 0, none⟩) n cap) n xs) (i : Nat) : w.frozen? ⟨g, i, none⟩ = false := by
  rcases h.2 with ⟨h, -⟩ | ⟨g', cap', cur, hv, hg, hh, -⟩
  · cases h
  · simp only [Value.slice.injEq, Option.some.injEq, Addr.mk.injEq, and_true, true_and] at hv
    obtain ⟨rfl, rfl⟩ := hv
    exact row_frozen hh i
theorem below_set {w0 w : World} {B g i : Nat} (h : Below B w0 w) (hg : B ≤ g) (u : Value) : Below B w0 (w.setCell ⟨g, i, none⟩ u) :=
  ⟨h.os, h.tape, h.output, by rw [set_size]; exact h.size, fun k hk => by rw [Below.heap_setCell _ _ _ _ (fun e => by have e' : k = g := e; omega)]; exact h.block k hk⟩

set_option maxRecDepth 100000 in
set_option maxHeartbeats 1000000 in
theorem sizes_any {w : World} {F : Nat → Prop} {b : Nat} {D : List Dev} {q : Pw} (h : Bk w F b D q) : Calls Tryz.prog 11 #[.pointer (some ⟨b, 0, none⟩)] w (BSized D w) := by
  obtain ⟨v, G, h⟩ := h
  have c0 := h.c0
  have H := hide h
  have hl8 := h.few
  obtain ⟨ao, cap, rfl⟩ := h.form
  obtain ⟨w1, hr1, ho1, hb1⟩ := make_ints w D.length (by omega)
  have HO := hide ho1
  have HB := hide hb1
  have k0 : w1.cell? ⟨b, 0, none⟩ = some (.slice ao D.length cap) := by rw [hb1.cell (cell_lt c0)]; exact c0
  clear h ho1 hb1
  go_enter Tryz.func11, Tryz.ntmps11
  go_wp2_with (first | ((with_reducible refine wpList_make rfl rfl hr1 ?_ ?_ ?_); rfl; rfl))
  go_loopg [17] D.length (fun gk i wr => ∃ j, j + gk = D.length ∧ i = .int .i64 (j : Int) ∧ wr.ownsRow w.heap.size 3 1 (.slice (some ⟨w.heap.size, 0, none⟩) D.length D.length) D.length (partSz D j) ∧ Below w.heap.size w wr)
  case atStart => exact ⟨0, by omega, rfl, by rw [partSz_zero]; exact HO.out, HB.out⟩
  case round =>
    obtain ⟨j, hj, rfl, hown, hbw⟩ := hrel
    have HOW := hide hown
    have HBW := hide hbw
    have HW := hide (H.out.below hbw)
    clear hown hbw HO HB
    cases gk with
    | zero =>
      have hend : ¬ (j : Int) < (D.length : Int) := by omega
      obtain rfl : j = D.length := by omega
      clear hj
      go_wp2
      go_ret
      refine ⟨_, rfl, ?_, HBW.out⟩
      have := HOW.out
      rw [partSz_end] at this
      exact this
    | succ m =>
      have hlt : (j : Int) < (D.length : Int) := by omega
      have hjl : j < D.length := by omega
      obtain ⟨d, hd⟩ : ∃ d, D[j]? = some d := ⟨D[j], by simp⟩
      obtain ⟨g, rfl, -, ck, -⟩ := HW.out.at_ hd
      have hjj : (j : Int) + 1 < 10 := by omega
      cases d with
      | none =>
        rw [ptrV_none] at ck
        have HP := hide (partSz_none hd)
        clear hd
        go_wp2
        go_roundg m
        case measure => omega
        case rel => exact ⟨j + 1, by omega, by go_num, by rw [HP.out]; exact HOW.out, HBW.out⟩
      | some d =>
        obtain ⟨p, S⟩ := d
        rw [ptrV_some] at ck
        have HP := hide (partSz_step hd)
        have HS := hide (size_any (HW.out.dev j p S hd))
        have kj := row_cell HOW.out (j := j) (u := .int .i64 0) (by
          unfold partSz
          rw [List.getElem?_append_right (by simp; omega), List.getElem?_replicate, if_pos (by simp; omega)])
        have fj := row_frozen' HOW.out j
        have hS := (HW.out.dev j p S hd).good.1
        clear hd
        go_wp2_with (go_at_call 39; refine HS.out.mono ?_; rintro e w' ⟨rfl, hww⟩; obtain rfl : wr = w' := hww.symm)
        go_roundg m
        case measure => omega
        case rel =>
          refine ⟨j + 1, by omega, by go_num, ?_, below_set HBW.out (Nat.le_refl _) _⟩
          have := ownsRow_set' HOW.out j (sizeV (some (p, S)))
          rw [HP.out] at this
          exact this

theorem addC_four (D : List Dev) (q : Pw) (hd : q.down = false) (hl : D.length < 8) : addC D q 4 = 0 := by
  unfold addC
  rw [hd, if_neg (by simp), if_neg (by omega)]; rfl
set_option maxRecDepth 100000 in
set_option maxHeartbeats 1000000 in
theorem awake_any (w : World) : Calls Tryz.prog 6 #[] w fun e w' => e = .returned (.bool true) ∧ Below w.heap.size w w' := by
  go_enter Tryz.func6, Tryz.ntmps6
  go_wp2_with fail
  refine (bnew_any w).mono ?_
  rintro e w1 ⟨b, rfl, hbk, hb1⟩
  have HA := hide (badd_any hbk 4)
  have HB1 := hide hb1
  clear hbk hb1
  go_wp2_with fail
  refine HA.out.mono ?_
  rintro e w2 ⟨ht2, he⟩
  rcases he with ⟨hc, -⟩ | ⟨-, rfl, p, hbk⟩
  · exact absurd (addC_four [] pw0 rfl (by simp)) hc
  · have HB2 : Hid (Below w.heap.size w w2) := HB1.out.trans (ht2.below HB1.out.size (fun k hk => hk.1))
    have HS := hide (sizes_any hbk)
    clear ht2 hbk HA
    go_wp2_with fail
    refine HS.out.mono ?_
    rintro e w3 ⟨v, rfl, hv, hb3⟩
    have HB3 := hide (HB2.out.trans (hb3.mono HB2.out.size))
    obtain ⟨g, cap, cur, rfl, -⟩ := ownsRow_pos hv (by simp)
    have c0 : w3.cell? ⟨g, 0, none⟩ = some (.int .i64 4) := row_cell hv (j := 0) rfl
    clear hv hb3 HS
    go_wp2
    go_ret
    exact ⟨rfl, HB3.out⟩
end Go.Proofs.YtliboiajhhnajaaGreatDoor
