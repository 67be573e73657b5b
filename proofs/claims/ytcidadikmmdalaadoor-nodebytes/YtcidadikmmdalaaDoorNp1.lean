/- What an unpacker has read of a node; a node that grows beside an unpacker. -/
import Derived.Test.YtcidadikmmdalaaDoorNp0
import Derived.Test.YtcidadikmmdalaaDoorFM05
namespace Go.Proofs.YtcidadikmmdalaaDoor
open Go.RowKit Go.Extern

structure UpW (s b : List Nat) (lv c j : Nat) (l : List En) (left : List Nat) (sp : Bool) : Prop where
  len : l.length = j
  ok : sp = false → left = b.drop (2 + 16 * j) ∧ 2 + 16 * j ≤ b.length ∧ PreG b l ∧ b.getD 0 0 = lv ∧ b.getD 1 0 = c
  no : sp = true → ∀ M q, ¬ IsNode s M q
theorem rd1_cons {x : Nat} (t : List Nat) (hx : x < 256) : Fr.readOk (x :: t) 1 = true := by
  simp [Fr.readOk, Fr.val, Fr.great]; omega
theorem rd1_nil : Fr.readOk [] 1 = false := by simp [Fr.readOk]
theorem up_start {s b : List Nat} (hb : Fr.gPay 2 s = b) (hlt : ∀ x ∈ b, x < 256) : UpW s b (Fr.rdN b 1) (Fr.rdN (Fr.rdL b 1) 1) 0 [] (Fr.rdL (Fr.rdL b 1) 1) (Fr.rdS (Fr.rdL b 1) (Fr.rdS b false 1) 1) := by
  match b, hb, hlt with
  | [], hb, _ =>
    refine ⟨rfl, fun h => ?_, fun _ M q hq => ?_⟩
    · simp [Fr.rdS, Fr.rdL, rd1_nil] at h
    · have := hq.len; rw [hb] at this; simp at this; omega
  | [x], hb, hlt =>
    have h1 := rd1_cons [] (hlt x (by simp))
    refine ⟨rfl, fun h => ?_, fun _ M q hq => ?_⟩
    · simp [Fr.rdS, Fr.rdL, h1, rd1_nil] at h
    · have := hq.len; rw [hb] at this; simp at this; omega
  | x :: y :: t, hb, hlt =>
    have h1 := rd1_cons (y :: t) (hlt x (by simp))
    have h2 := rd1_cons t (hlt y (by simp))
    have e1 : Fr.rdL (x :: y :: t) 1 = y :: t := by simp [Fr.rdL, h1]
    have e2 : Fr.rdL (y :: t) 1 = t := by simp [Fr.rdL, h2]
    rw [e1, e2]
    refine ⟨rfl, fun _ => ⟨by simp, by simp, PreG.nil _, by simp [Fr.rdN, h1, Fr.val], by simp [Fr.rdN, h2, Fr.val]⟩, fun h => ?_⟩
    simp [Fr.rdS, h1, h2] at h
theorem up_step {s b : List Nat} {lv c j : Nat} {l : List En} {left : List Nat} {sp : Bool} (h : UpW s b lv c j l left sp) (hb : Fr.gPay 2 s = b) (hj : j < c) :
    UpW s b lv c (j + 1) (l ++ [(((Fr.rdN left 8 : Nat) : Int), ((Fr.rdN (Fr.rdL left 8) 8 : Nat) : Int))]) (Fr.rdL (Fr.rdL left 8) 8) (Fr.rdS (Fr.rdL left 8) (Fr.rdS left sp 8) 8) := by
  cases sp with
  | true => exact ⟨by simp [h.len], fun e => by simp [Fr.rdS] at e, fun _ => h.no rfl⟩
  | false =>
    obtain ⟨hl, hn, hp, h0, h1⟩ := h.ok rfl
    have hd : left.drop 8 = b.drop (10 + 16 * j) := by rw [hl, List.drop_drop]; congr 1; omega
    cases ho1 : Fr.readOk left 8 with
    | false => exact ⟨by simp [h.len], fun e => by simp [Fr.rdS, ho1] at e, fun _ M q hq => by have := (isnode_read hq hb (j := j) (by omega)).1; rw [← hl, ho1] at this; cases this⟩
    | true =>
      have e1 : Fr.rdL left 8 = left.drop 8 := by simp [Fr.rdL, ho1]
      rw [e1]
      cases ho2 : Fr.readOk (left.drop 8) 8 with
      | false => exact ⟨by simp [h.len], fun e => by simp [Fr.rdS, ho2] at e, fun _ M q hq => by have := (isnode_read hq hb (j := j) (by omega)).2; rw [← hd, ho2] at this; cases this⟩
      | true =>
        have e2 : Fr.rdL (left.drop 8) 8 = (left.drop 8).drop 8 := by simp [Fr.rdL, ho2]
        rw [e2]
        have hlen : 8 ≤ (left.drop 8).length := (of_decide_eq_true ho2).1
        rw [hd] at hlen
        simp at hlen
        refine ⟨by simp [h.len], fun _ => ⟨by rw [hd, List.drop_drop]; congr 1; omega, by omega, hp.snoc ?_, h0, h1⟩, fun e => by simp [Fr.rdS, ho1, ho2] at e⟩
        rw [h.len]
        exact ⟨by rw [← hl]; exact ho1, by rw [← hl], by rw [← hd]; exact ho2, by rw [← hd]⟩
theorem up_bad {s b : List Nat} {lv c : Nat} {l : List En} {left : List Nat} {sp : Bool} (h : UpW s b lv c c l left sp) (hb : Fr.gPay 2 s = b) (hd : (sp || decide (0 < left.length)) = true) : ∀ M q, ¬ IsNode s M q := fun M q hq => by
  cases sp with
  | true => exact h.no rfl M q hq
  | false =>
    obtain ⟨hl, hn, hp, h0, h1⟩ := h.ok rfl
    have h2 := hq.len
    have h3 := hq.cnt
    rw [hb] at h2 h3
    simp [hl] at hd
    omega
theorem up_good {s b : List Nat} {lv c : Nat} {l : List En} {left : List Nat} {sp : Bool} (h : UpW s b lv c c l left sp) (hb : Fr.gPay 2 s = b) (he : Fr.gErr 2 s = 0) (hd : (sp || decide (0 < left.length)) = false) (hR : Rt (lv : Int) (l.map Prod.fst) (l.map Prod.snd)) : IsNode s (lv : Int) l := by
  cases sp with
  | true => simp at hd
  | false =>
    obtain ⟨hl, hn, hp, h0, h1⟩ := h.ok rfl
    simp [hl] at hd
    exact ⟨he, by rw [hb, h.len]; omega, by rw [hb, h0], by rw [hb, h1, h.len], by rw [hb]; exact hp, hR⟩
theorem up_not {s b : List Nat} {lv c : Nat} {l : List En} {left : List Nat} {sp : Bool} (h : UpW s b lv c c l left sp) (hb : Fr.gPay 2 s = b) (hd : (sp || decide (0 < left.length)) = false) (hR : ¬ Rt (lv : Int) (l.map Prod.fst) (l.map Prod.snd)) : ∀ M q, ¬ IsNode s M q := fun M q hq => by
  cases sp with
  | true => simp at hd
  | false =>
    obtain ⟨hl, hn, hp, h0, h1⟩ := h.ok rfl
    have e1 : M = (lv : Int) := by rw [hq.lev, hb, h0]
    have hll : q.length = l.length := by rw [h.len, ← hq.cnt, hb, h1]
    have hqp := hq.pre
    rw [hb] at hqp
    have e2 : q = l := by
      apply List.ext_getElem?
      intro i
      rcases Nat.lt_or_ge i q.length with hi | hi
      · have h1 := hqp i q[i] (by rw [List.getElem?_eq_getElem])
        have h2 := hp i (l[i]'(by omega)) (by rw [List.getElem?_eq_getElem])
        rw [List.getElem?_eq_getElem hi, List.getElem?_eq_getElem (by omega)]
        congr 1
        exact Prod.ext (h1.2.1.trans h2.2.1.symm) (h1.2.2.2.trans h2.2.2.2.symm)
      · rw [List.getElem?_eq_none hi, List.getElem?_eq_none (by omega)]
    exact hR (by rw [← e1, ← e2]; exact hq.right)
theorem rdN1_le (bs : List Nat) : Fr.rdN bs 1 ≤ 255 := by
  unfold Fr.rdN
  split
  · rename_i h
    have := (of_decide_eq_true h).2
    have h8 : Fr.great 1 = 255 := rfl
    rw [h8] at this
    exact this
  · omega
/-- A node that grows beside an unpacker. -/
structure NpW (w : World) (b5 bu : Nat) (lv : Int) (K V : List Int) (left : List Nat) (sp : Bool) (kv vv : Value) (wr : World) : Prop where
  md : MdW 30 w w.heap.size b5 (b5 + 1) lv K V kv vv wr
  un : Fr.UnpB wr b5 bu left sp
  lo : w.heap.size < bu
  hi : bu < b5
  sz : b5 + 1 ≤ wr.heap.size
theorem NpW.long {w : World} {b5 bu : Nat} {lv : Int} {K V : List Int} {left : List Nat} {sp : Bool} {kv vv : Value} {wr w' : World} (h : NpW w b5 bu lv K V left sp kv vv wr) {left' : List Nat} {sp' : Bool} (hu : Fr.UnpB w' b5 bu left' sp') (hg : wr.grownBy w' (some bu)) : NpW w b5 bu lv K V left' sp' kv vv w' := by
  have hlo := h.lo
  have hhi := h.hi
  have hk : ∀ k o, k ≠ bu → wr.heap[k]? = some o → w'.heap[k]? = some o := fun k o hne ho => by rw [hg.block k (heap_lt ho) (by simpa using hne)]; exact ho
  obtain ⟨x, y, z, h4⟩ := h.md.h4
  refine ⟨⟨⟨x, y, z, hk _ _ (by omega) h4⟩, hk _ _ (by omega) h.md.h5, h.md.two.same fun k o hb ho => hk k o (by omega) ho, h.md.bel.grown hg h.md.bel.size (fun k e => by have := Option.some.inj e; omega)⟩, hu, hlo, hhi, Nat.le_trans h.sz hg.size⟩
theorem NpW.key {w : World} {b5 bu : Nat} {lv : Int} {K V : List Int} {left : List Nat} {sp : Bool} {kv vv : Value} {wr : World} (h : NpW w b5 bu lv K V left sp kv vv wr) {k : Int} (hk : I64 k) (hn : K.length ≤ 5000) :
    ∃ kv' w', (Builtin.append_ #[22, 22] 22 #[kv, .slice (some ⟨wr.heap.size, 0, none⟩) 1 1]).run Tryd.prog (wr.alloc (.cells #[.int .i64 k] 3)) = .ok kv' w' ∧ w'.cell? ⟨b5, 1, none⟩ = some kv ∧ w'.frozen? ⟨b5, 1, none⟩ = false ∧ Below w.heap.size w w' ∧
      NpW w b5 bu lv (K ++ [k]) V left sp kv' vv (w'.setCell ⟨b5, 1, none⟩ kv') := by
  have hlo := h.lo
  have hhi := h.hi
  have hsz := h.sz
  have hb := bel_alloc wr (.cells #[.int .i64 k] 3)
  obtain ⟨kv1, w1, hr1, h1⟩ := (h.md.two.below hb).append (by simp; omega) 22 (ints_lit wr k hk) (by simp; omega)
  obtain ⟨kv', w', hr, hc, hf, hm, hblk, hs⟩ := h.md.key (by omega) (by omega) (by omega) (by omega) (by omega) hsz (k := k) hk hn
  have he : kv1 = kv' ∧ w1 = w' := by rw [hr1] at hr; injection hr with e1 e2; exact ⟨e1, e2⟩
  obtain ⟨rfl, rfl⟩ := he
  exact ⟨kv1, w1, hr, hc, hf, (nextB h.md.bel hb).trans (h1.bel.mono (by omega)), ⟨hm, h.un.keep hhi fun c o hc2 ho => hblk c o ho (fun e => by have := (h.md.two.hk.lt _ e).1; omega) (by omega), hlo, hhi, by omega⟩⟩
theorem NpW.val {w : World} {b5 bu : Nat} {lv : Int} {K V : List Int} {left : List Nat} {sp : Bool} {kv vv : Value} {wr : World} (h : NpW w b5 bu lv K V left sp kv vv wr) {k : Int} (hk : I64 k) (hn : V.length ≤ 5000) :
    ∃ vv' w', (Builtin.append_ #[22, 22] 22 #[vv, .slice (some ⟨wr.heap.size, 0, none⟩) 1 1]).run Tryd.prog (wr.alloc (.cells #[.int .i64 k] 3)) = .ok vv' w' ∧ w'.cell? ⟨b5, 2, none⟩ = some vv ∧ w'.frozen? ⟨b5, 2, none⟩ = false ∧ Below w.heap.size w w' ∧
      NpW w b5 bu lv K (V ++ [k]) left sp kv vv' (w'.setCell ⟨b5, 2, none⟩ vv') := by
  have hlo := h.lo
  have hhi := h.hi
  have hsz := h.sz
  have hb := bel_alloc wr (.cells #[.int .i64 k] 3)
  obtain ⟨kv1, w1, hr1, h1⟩ := (h.md.two.swap.below hb).append (by simp; omega) 22 (ints_lit wr k hk) (by simp; omega)
  obtain ⟨kv', w', hr, hc, hf, hm, hblk, hs⟩ := h.md.val (by omega) (by omega) (by omega) (by omega) (by omega) hsz (k := k) hk hn
  have he : kv1 = kv' ∧ w1 = w' := by rw [hr1] at hr; injection hr with e1 e2; exact ⟨e1, e2⟩
  obtain ⟨rfl, rfl⟩ := he
  exact ⟨kv1, w1, hr, hc, hf, (nextB h.md.bel hb).trans (h1.bel.mono (by omega)), ⟨hm, h.un.keep hhi fun c o hc2 ho => hblk c o ho (fun e => by have := (h.md.two.hv.lt _ e).1; omega) (by omega), hlo, hhi, by omega⟩⟩
section
variable {ops : Array Oper} {Q : Exit → Act → World → Prop} {md : Region.Mode} {S : World → Prop}
/-- Of two operations that may come up the first tells a value, the second is a call. -/
theorem value_or_call (i j : Nat) {oi oj : Oper} (di dj : Option Tmp) {fuel : Nat} {listed : Array Bool} {a : Act} {w : World} (hi : ops[i]? = some oi) (hj : ops[j]? = some oj) (hdi : oi.dst = di) (hdj : oj.dst = dj) (hgi : oi.guard = none) (hgj : oj.guard = none)
    (hr : Region.ready md ops listed = [i, j]) {f : FuncId} {args : Array Value} {vi : Value} {wi : World}
    (hruni : (execOp a.eval oi).run Tryd.prog w = .ok (.value vi) wi) (hrunj : (execOp a.eval oj).run Tryd.prog w = .ok (.enter f args) w) (hSi : S wi)
    (h : wpAnyH Tryd.prog md ops Q S fuel (listed.setIfInBounds i true) (a.put di vi) wi)
    (hc : Calls Tryd.prog f args w fun e w' => ∃ v, e = .returned v ∧ S w' ∧ wpAnyH Tryd.prog md ops Q S fuel (listed.setIfInBounds j true) (a.put dj v) w') : wpAnyH Tryd.prog md ops Q S (fuel + 1) listed a w := by
  subst hdi hdj
  refine wpAnyH_ready hr (by simp) (AllReadyH.cons hi (fun K hK => ?_) (AllReadyH.cons hj (fun K hK => ?_) AllReadyH.nil))
  · exact step_value hgi hruni (hK.out _ _ hSi (fun _ => h))
  · rw [if_pos (by simp [Region.wanted, hgj])]
    unfold Oper.wp
    rw [hrunj]
    refine hc.mono ?_
    rintro e w' ⟨v, rfl, hS, h⟩
    exact hK.out _ _ hS (fun _ => h)
end
end Go.Proofs.YtcidadikmmdalaaDoor
