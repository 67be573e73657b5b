/- What the law RefsBack leans on: the map and the list behind two boxes, and the closure that puts into both. -/
import Derived.Test.YtjopdejgijojmaaCmt
import Derived.Test.YtjopdejgijojmaaCg
namespace Go.Proofs.Ytjopdejgijojmaa
open Go.RowKit Go.Extern

theorem Rf.mono {w : World} {F F' : Nat → Prop} {b : Nat} {l : List Ref} {was : Option (List Ref)} (h : Rf w F b l was) (h1 : ∀ k, F k → F' k) (h2 : ∀ k, F' k → k < w.heap.size) : Rf w F' b l was := by
  obtain ⟨E, bn, bo, A, sv, a1, a2, a3, a4, -⟩ := h
  exact ⟨E, bn, bo, A, sv, a1, a2, fun s e => ⟨(a3 s e).1, h1 _ (a3 s e).2⟩, fun k hk => h1 _ (a4 k hk), h2⟩
/-- 'F', and one more. -/
def with1 (F : Nat → Prop) (x : Nat) (k : Nat) : Prop := F k ∨ k = x
/-- The map 'b' behind the box 'p', the list of its pairs behind the box 'q'. -/
structure BkS (w : World) (F : Nat → Prop) (b p q : Nat) (l : List Ref) (was : Option (List Ref)) (ao : Option Addr) (cap g : Nat) : Prop where
  rf : Rf w F b l was
  bp : w.heap[p]? = some (.cells #[.pointer (some ⟨b, 0, none⟩)] 23 (0, 0))
  bq : w.heap[q]? = some (.cells #[.slice ao l.length cap] 26 (0, 0))
  ls : RefsAt (with1 F q) w ao g 0 l
  np : ¬ F p
  nq : ¬ F q
  pq : p ≠ q
theorem BkS.below {w w' : World} {F : Nat → Prop} {b p q : Nat} {l : List Ref} {was : Option (List Ref)} {ao : Option Addr} {cap g : Nat} (h : BkS w F b p q l was ao cap g) (hb : Below w.heap.size w w') : BkS w' F b p q l was ao cap g :=
  ⟨h.rf.below hb, by rw [hb.block _ (heap_lt h.bp)]; exact h.bp, by rw [hb.block _ (heap_lt h.bq)]; exact h.bq, h.ls.below hb, h.np, h.nq, h.pq⟩
theorem BkS.cp {w : World} {F : Nat → Prop} {b p q : Nat} {l : List Ref} {was : Option (List Ref)} {ao : Option Addr} {cap g : Nat} (h : BkS w F b p q l was ao cap g) : w.cell? ⟨p, 0, none⟩ = some (.pointer (some ⟨b, 0, none⟩)) := cell_of h.bp rfl
theorem BkS.cq {w : World} {F : Nat → Prop} {b p q : Nat} {l : List Ref} {was : Option (List Ref)} {ao : Option Addr} {cap g : Nat} (h : BkS w F b p q l was ao cap g) : w.cell? ⟨q, 0, none⟩ = some (.slice ao l.length cap) := cell_of h.bq rfl
/-- A list that stands besides. -/
theorem RefsAt.keep {F F' : Nat → Prop} {q : Nat} {w w' : World} {ao : Option Addr} {g off : Nat} {rs : List Ref} (h : RefsAt (with1 F q) w ao g off rs) (ht : Turn (with1 F q) w w') (hF : ∀ k, F' k → F k ∨ w.heap.size ≤ k) : RefsAt (with1 F' q) w' ao g off rs := by
  have h2 := h.turn ht
  refine ⟨h2.ad, fun hp hx => ?_, h2.cells⟩
  have hr : rs[0]? = some rs[0] := by simp [hp]
  have hl := cell_lt (h.cells 0 _ hr).1
  simp only at hl
  rcases hx with hx | hx
  · rcases hF g hx with h3 | h3
    · exact h.out hp (.inl h3)
    · omega
  · exact h.out hp (.inr hx)
theorem turn_with {F : Nat → Prop} {w w' : World} (q : Nat) (h : Turn F w w') : Turn (with1 F q) w w' := ⟨h.os, h.tape, h.output, h.size, fun k h1 h2 => h.block k h1 (fun e => h2 (.inl e))⟩
/-- Behind a call that turns the map alone. -/
theorem BkS.turn {w w' : World} {F F' : Nat → Prop} {b p q : Nat} {l : List Ref} {was was' : Option (List Ref)} {ao : Option Addr} {cap g : Nat} (h : BkS w F b p q l was ao cap g) (hr : Rf w' F' b l was') (ht : Turn F w w') (hF : ∀ k, F' k → F k ∨ w.heap.size ≤ k) : BkS w' F' b p q l was' ao cap g :=
  ⟨hr, by rw [ht.block _ (heap_lt h.bp) h.np]; exact h.bp, by rw [ht.block _ (heap_lt h.bq) h.nq]; exact h.bq, h.ls.keep (turn_with q ht) hF, fun hx => by
    rcases hF p hx with h1 | h1
    · exact h.np h1
    · have := heap_lt h.bp; omega, fun hx => by
    rcases hF q hx with h1 | h1
    · exact h.nq h1
    · have := heap_lt h.bq; omega, h.pq⟩
theorem ext_or {F : Nat → Prop} {w w' : World} : ∀ k, ext F w w' k → F k ∨ w.heap.size ≤ k := fun k h => by
  rcases h with h | ⟨h, -⟩
  · exact .inl h
  · exact .inr h
/-- What the closure leaves. -/
def Putd (w : World) (F : Nat → Prop) (b p q : Nat) (l : List Ref) (was : Option (List Ref)) (e : Ending) (w' : World) : Prop :=
  e = .returned (.tuple #[]) ∧ ∃ F' ao cap g, BkS w' F' b p q l was ao cap g ∧ (∀ k, F' k → F k ∨ w.heap.size ≤ k) ∧ Turn (with1 F q) w w'
set_option maxRecDepth 100000 in
set_option maxHeartbeats 2000000 in
theorem put1_any {w : World} {F : Nat → Prop} {b p q : Nat} {l : List Ref} {was : Option (List Ref)} {ao : Option Addr} {cap g : Nat} (h : BkS w F b p q l was ao cap g) {r : Ref} (hr : OkR r) (hl : l.length ≤ 1000) :
    Calls Try.prog 23 #[encR r, .pointer (some ⟨p, 0, none⟩), .pointer (some ⟨q, 0, none⟩)] w (Putd w F b p q (putA l r) was) := by
  have ea : encR r = .agg #[.int .i64 r.1.1, .int .i64 r.1.2, .int .i64 r.2] := rfl
  rw [ea]
  have HK := hide h
  obtain ⟨x, hx⟩ : ∃ x, w.heap.size = x := ⟨_, rfl⟩
  obtain ⟨w3, hw3⟩ : ∃ w3, w.alloc (.cells #[.int .i64 r.1.1, .int .i64 r.1.2, .int .i64 r.2] 28) = w3 := ⟨_, rfl⟩
  have HX3 : Hid (BoxR w3 x r) := hide (by rw [← hw3, ← hx]; exact boxR_new _ _ _)
  obtain ⟨y1, y2, y3⟩ := HX3.out
  have HB3 : Hid (Below w.heap.size w w3) := hide (by rw [← hw3]; exact below_box _ _)
  have HK3 := hide (HK.out.below HB3.out)
  have cp := HK3.out.cp
  have HXF : Hid (¬ F x) := hide (fun hF => by have := HK.out.rf.bd x hF; omega)
  have HXL : Hid (x < w3.heap.size) := hide (by rw [← hw3]; simp; omega)
  have hsz : x ≤ w3.heap.size := by have := HB3.out.size; omega
  have hql : q < x := by have := heap_lt HK.out.bq; omega
  clear h
  by_cases hneg : r.2 < 0
  · have HP3 := hide (put_any (r := r) HK3.out.rf hr)
    rw [if_pos hneg, errV60] at HP3
    have HPA : Hid (putA l r = l) := hide (by unfold putA; rw [if_pos hneg])
    go_enter Try.func23, Try.ntmps23
    go_wp2_with (go_at_call 10; refine HP3.out.mono ?_; rintro e w4 ⟨rfl, hr4⟩; have HR4 := hide hr4; clear hr4)
    go_end0
    have hr4 := HR4.out.rf
    rw [HPA.out] at hr4 ⊢
    refine ⟨rfl, _, ao, cap, g, HK3.out.turn hr4 HR4.out.turn ext_or, fun k hk => ?_, (Turn.of_below HB3.out).trans (turn_with q HR4.out.turn) (fun _ _ h => h)⟩
    rcases ext_or k hk with h | h
    · exact .inl h
    · exact .inr (by omega)
  · have HP3 := hide (put_any (r := r) HK3.out.rf hr)
    rw [if_neg hneg] at HP3
    have HPA : Hid (putA l r = putS l r.1 r.2) := hide (by unfold putA; rw [if_neg hneg])
    have HX4 : Hid (∀ w4, Turn F w3 w4 → BoxR w4 x r ∧ w4.cell? ⟨q, 0, none⟩ = some (.slice ao l.length cap)) := hide (fun w4 ht => by
      have hk := ht.block x HXL.out HXF.out
      exact ⟨⟨cell_same hk HX3.out.1, cell_same hk HX3.out.2.1, cell_same hk HX3.out.2.2⟩, cell_same (ht.block q (heap_lt HK3.out.bq) HK3.out.nq) HK3.out.cq⟩)
    have HRP : Hid (∀ w4, Turn F w3 w4 → Calls Try.prog 12 #[.slice ao l.length cap, encR r] w4 (RPutd w4 (putS l r.1 r.2))) := hide (fun w4 ht => rput_any (HK3.out.ls.turn (turn_with q ht)) HK.out.rf.ok.srt (by omega) cap r)
    have HBQ : Hid (∀ w4 w5, Turn F w3 w4 → Below w4.heap.size w4 w5 → w5.heap[q]? = some (.cells #[.slice ao l.length cap] 26 (0, 0))) := hide (fun w4 w5 ht hb => by
      have h1 := ht.block q (heap_lt HK3.out.bq) HK3.out.nq
      have h2 := h1.trans HK3.out.bq
      rw [hb.block q (heap_lt h2)]; exact h2)
    obtain ⟨nl, hnl⟩ : ∃ nl, l.length = nl := ⟨_, rfl⟩
    rw [hnl] at HX4 HRP HBQ
    go_enter Try.func23, Try.ntmps23
    go_wp2_with (first
      | (go_at_call 10; refine HP3.out.mono ?_; rintro e w4 ⟨rfl, hr4⟩; have HR4 := hide hr4; obtain ⟨⟨t1, t2, t3⟩, t4⟩ := HX4.out w4 hr4.turn; clear hr4)
      | (go_at_call 12; refine (HRP.out w4 HR4.out.turn).mono ?_; rintro e w5 ⟨v5, rfl, hv5, hb5⟩; have hq5 := HBQ.out w4 w5 HR4.out.turn hb5; have HQ5 := hide hq5; have t5 : w5.cell? ⟨q, 0, none⟩ = some (.slice ao nl cap) := cell_of hq5 rfl; have t6 : w5.frozen? ⟨q, 0, none⟩ = false := froz_of hq5 0; have HV5 := hide hv5; obtain ⟨aoN, capN, hvN⟩ := ownsRow_form hv5; subst hvN; have HB5 := hide hb5; clear hv5 hb5 hq5))
    go_end0
    obtain ⟨w6, hw6⟩ : ∃ w6, w5.setCell ⟨q, 0, none⟩ (.slice aoN (putS l r.1 r.2).length capN) = w6 := ⟨_, rfl⟩
    have hts : Turn (with1 (ext F w3 w4) q) w5 w6 := by rw [← hw6]; exact turn_set (.inr rfl) 0 _
    have hoth : ∀ k, k ≠ q → w6.heap[k]? = w5.heap[k]? := fun k hk => by rw [← hw6]; exact Below.heap_setCell _ _ _ _ hk
    have hs3 : w3.heap.size ≤ w4.heap.size := HR4.out.turn.size
    have hnq : ¬ ext F w3 w4 q := fun hx => by
      rcases ext_or q hx with h1 | h1
      · exact HK.out.nq h1
      · omega
    have hnp : ¬ ext F w3 w4 p := fun hx => by
      rcases ext_or p hx with h1 | h1
      · exact HK.out.np h1
      · have := heap_lt HK.out.bp; omega
    have hr4 := HR4.out.rf
    have hbd := hr4.bd
    rw [HPA.out] at hr4 ⊢
    have hrf : Rf w6 (ext F w3 w4) b (putS l r.1 r.2) was := (hr4.below HB5.out).of_blocks hts.size (fun k hk => hoth k (fun e => hnq (by rw [← e]; exact hk)))
    obtain ⟨ao7, cap7, g7, e7, hat⟩ := refs_at (F := with1 (ext F w3 w4) q) HV5.out (fun k hk => by
      rcases hk with h1 | h1
      · exact hbd k h1
      · omega)
    cases e7
    have hbq : w6.heap[q]? = some (.cells #[.slice aoN (putS l r.1 r.2).length capN] 26 (0, 0)) := by rw [← hw6]; exact set_cell_row (j := 0) HQ5.out _
    have hbp : w6.heap[p]? = some (.cells #[.pointer (some ⟨b, 0, none⟩)] 23 (0, 0)) := by
      have h1 := HR4.out.turn.block p (heap_lt HK3.out.bp) HK3.out.np
      have h2 := h1.trans HK3.out.bp
      rw [hoth p HK.out.pq, HB5.out.block p (heap_lt h2)]; exact h2
    have hfin : Putd w F b p q (putS l r.1 r.2) was (.returned (.tuple #[])) w6 := by
      refine ⟨rfl, ext F w3 w4, aoN, capN, g7, ⟨hrf, hbp, hbq, hat.keep hts (fun k hk => .inl hk), hnp, hnq, HK.out.pq⟩, fun k hk => ?_, ?_⟩
      · rcases ext_or k hk with h | h
        · exact .inl h
        · exact .inr (by omega)
      · refine (Turn.of_below HB3.out).trans ((turn_with q HR4.out.turn).trans ((Turn.of_below (F := with1 F q) HB5.out).trans (by rw [← hw6]; exact turn_set (.inr rfl) 0 _) (fun _ _ h => h)) (fun _ _ h => h)) (fun _ _ h => h)
    rw [← hw6] at hfin
    exact hfin
theorem with1_ge {F : Nat → Prop} {n q : Nat} (hF : ∀ k, F k → n ≤ k) (hq : n ≤ q) : ∀ k, with1 F q k → n ≤ k := fun k h => by
  rcases h with h | h
  · exact hF k h
  · omega
theorem or_ge {F F' : Nat → Prop} {n m : Nat} (h : ∀ k, F' k → F k ∨ m ≤ k) (hF : ∀ k, F k → n ≤ k) (hm : n ≤ m) : ∀ k, F' k → n ≤ k := fun k hk => by
  rcases h k hk with h1 | h1
  · exact hF k h1
  · omega
theorem chL_length : ∀ (cs : List Chg) (a : List Ref), Srt a → (chL a cs).length ≤ a.length + cs.length
  | [], a, _ => by simp [chL]
  | c :: t, a, h => by
    have h1 := chL_length t (putS a c.1 c.2.2) (srt_putS h _ _)
    have h2 := putS_length a c.1 c.2.2 h
    have e : chL a (c :: t) = chL (putS a c.1 c.2.2) t := rfl
    rw [e]; simp; omega
/-- A block that holds a change. -/
def BoxC (w : World) (x : Nat) (c : Chg) : Prop := w.cell? ⟨x, 0, none⟩ = some (.int .i64 c.1.1) ∧ w.cell? ⟨x, 1, none⟩ = some (.int .i64 c.1.2) ∧ w.cell? ⟨x, 2, none⟩ = some (.int .i64 c.2.1) ∧ w.cell? ⟨x, 3, none⟩ = some (.int .i64 c.2.2)
theorem boxC_new (w : World) (c : Chg) (T : TypeId) : BoxC (w.alloc (.cells #[.int .i64 c.1.1, .int .i64 c.1.2, .int .i64 c.2.1, .int .i64 c.2.2] T)) w.heap.size c := ⟨by simp, by simp, by simp, by simp⟩
theorem BoxC.below {w w' : World} {x : Nat} {c : Chg} (h : BoxC w x c) (hb : Below w.heap.size w w') : BoxC w' x c := by
  have hk := hb.block x (cell_lt h.1)
  exact ⟨cell_same hk h.1, cell_same hk h.2.1, cell_same hk h.2.2.1, cell_same hk h.2.2.2⟩
theorem BoxC.own {w : World} {x : Nat} {c : Chg} (h : BoxC w x c) : BoxO w x c.1 := ⟨h.1, h.2.1⟩
theorem fldC0 (b : Nat) (w : World) : (Instr.fieldAt 45 (.pointer (some ⟨b, 0, none⟩)) 0).run Try.prog w = .ok (.pointer (some ⟨b, 0, none⟩)) w := by kernel_rfl
theorem fldC1 (b : Nat) (w : World) : (Instr.fieldAt 45 (.pointer (some ⟨b, 0, none⟩)) 1).run Try.prog w = .ok (.pointer (some ⟨b, 2, none⟩)) w := by kernel_rfl
theorem fldC2 (b : Nat) (w : World) : (Instr.fieldAt 45 (.pointer (some ⟨b, 0, none⟩)) 2).run Try.prog w = .ok (.pointer (some ⟨b, 3, none⟩)) w := by kernel_rfl
theorem buildO2 (w : World) (a c : Int) : (Instr.build 35 #[(0, .int .i64 a), (1, .int .i64 c)]).run Try.prog w = .ok (encO (a, c)) w := by kernel_rfl
theorem buildR2 (w : World) (o : Own) : (Instr.build 28 #[(0, .int .i64 o.1), (1, .int .i64 o.2)]).run Try.prog w = .ok (encR (o, 0)) w := by kernel_rfl
theorem load_prefs {w : World} {p : Addr} {v : Value} (h : w.cell? p = some v) : (Instr.loadAt 23 (.pointer (some p))).run Try.prog w = .ok v w := by go_simp
end Go.Proofs.Ytjopdejgijojmaa
