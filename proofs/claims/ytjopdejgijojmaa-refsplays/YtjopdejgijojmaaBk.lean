/- Back: all that came since Begin is taken back. -/
import Derived.Test.YtjopdejgijojmaaCh0
namespace Go.Proofs.Ytjopdejgijojmaa
open Go.RowKit Go.Extern

/-- What is saved is let go. -/
theorem CrAt.ended {w : World} {E : Nat → Prop} {b bn bo : Nat} {l : List Ref} {A : List (Int × Nat)} {sv : Option Nat} (h : CrAt w E b l bn bo A sv) : CrAt (w.setCell ⟨b, 2, none⟩ (.map none)) E b l bn bo A none := by
  have hblk := set_cell_row (j := 2) h.blk (.map none)
  have hoth : ∀ k, k ≠ b → (w.setCell ⟨b, 2, none⟩ (.map none)).heap[k]? = w.heap[k]? := fun k hk => Below.heap_setCell _ _ _ _ hk
  have hsz : (w.setCell ⟨b, 2, none⟩ (.map none)).heap.size = w.heap.size := by simp [World.setCell]
  exact ⟨hblk, h.nm.of_block (fun _ g => by rw [hoth _ (Ne.symm h.neB.1)]; exact g), h.ow.of_block (fun _ g => by rw [hoth _ (Ne.symm h.neB.2.1)]; exact g), fun p hp => (h.st p hp).of_block (fun _ g => by rw [hoth _ (Ne.symm (h.neB.2.2 p hp))]; exact g), h.all, h.ok, h.ne, h.neS, h.inj, h.inB, h.inN, h.inO, h.inS, fun k hk => by rw [hsz]; exact h.bd k hk⟩
theorem turn_set {F : Nat → Prop} {w : World} {b : Nat} (hb : F b) (i : Nat) (v : Value) : Turn F w (w.setCell ⟨b, i, none⟩ v) :=
  ⟨rfl, rfl, rfl, by simp [World.setCell], fun k _ hk => Below.heap_setCell _ _ _ _ (fun e => hk (by rw [e]; exact hb))⟩

set_option maxRecDepth 100000 in
set_option maxHeartbeats 1000000 in
theorem back_busy {w : World} {F : Nat → Prop} {b : Nat} {l : List Ref} (h : Rf w F b l none) :
    Calls Try.prog 16 #[.pointer (some ⟨b, 0, none⟩)] w fun e w' => e = .returned (errV 100) ∧ w' = w := by
  obtain ⟨E, bn, bo, A, sv, h, hSv, -⟩ := h
  have hsv : sv = none := hSv
  subst hsv
  have c2 := h.c2
  have eq := eqlNilN w
  rw [errV100]
  clear h hSv
  go_enter Try.func16, Try.ntmps16
  go_wp2_with fail
  go_ret
  exact ⟨rfl, rfl⟩

set_option maxRecDepth 100000 in
set_option maxHeartbeats 4000000 in
theorem back_ok {w : World} {F : Nat → Prop} {b : Nat} {l W : List Ref} (h : Rf w F b l (some W)) :
    Calls Try.prog 16 #[.pointer (some ⟨b, 0, none⟩)] w fun e w' => e = .returned .nilIface ∧ Rfd F b W none w w' := by
  obtain ⟨E, bn, bo, A, sv, h, ⟨s, S, rfl, hm, hW, hSS⟩, hs3, hs4, hs5⟩ := h
  have c2 := h.c2
  have eq := eqlNilM w s
  obtain ⟨oi, hrun, hrg0, hwk⟩ := hm.range (P := Try.prog) uN
  obtain ⟨x, hx⟩ : ∃ x, w.heap.size = x := ⟨_, rfl⟩
  obtain ⟨hEs, hFs⟩ := hs3 s rfl
  have hsx : s < x := by have := hm.lt; omega
  rw [hx] at hrun hrg0
  obtain ⟨w0, hw0⟩ : ∃ w0, w.alloc oi = w0 := ⟨_, rfl⟩
  rw [hw0] at hrun hrg0
  have HB0 : Hid (Below w.heap.size w w0) := hide (by rw [← hw0]; exact below_box _ _)
  have HC0 := hide (h.below HB0.out)
  have HR0 := hide hrg0
  have HSS := hide hSS
  have HWk := hide hW
  have HF4 := hide hs4
  have HF5 := hide hs5
  have HEs := hide hEs
  have hz0 : w0.heap.size = x + 1 := by rw [← hw0, ← hx]; simp
  have HLk := hide h.ok
  have HEB : Hid (∀ k, E k → k < x) := hide (fun k hk => by have := h.bd k hk; omega)
  have HSR : Hid (∀ p ∈ S, OkO p.1 ∧ I64 p.2 ∧ 0 ≤ p.2) := hide (fun p hp => by
    obtain ⟨o, c⟩ := p
    have hc := (hSS o c).1 hp
    have hmem : ofS W o ≠ ofS l o := by rw [← hc.1]; exact hc.2
    refine ⟨chO_ok hW h.ok o ((mem_chO hW h.ok).2 hmem), ?_, ?_⟩
    · simp only; rw [hc.1]; exact hW.of_rng o
    · simp only; rw [hc.1]; exact hW.of_nonneg o)
  clear h hm hW hSS hs3 hs4 hs5 hrg0 hEs hwk
  go_enter Try.func16, Try.ntmps16
  go_wp2_with fail
  go_loopg [] S.length (fun k wr => ∃ (todo : List Ref) (E1 : Nat → Prop) (l1 : List Ref) (A1 : List (Int × Nat)), todo.length = k ∧ Hid (RangeIs encO OkO encI wr s x S todo) ∧ Hid (CrAt wr E1 b l1 bn bo A1 (some s)) ∧ Hid (∀ k, E1 k → E k ∨ (x < k)) ∧ Hid (∀ o, ofS l1 o = ofS W o ∨ ∃ c, (o, c) ∈ todo) ∧ Hid (∀ p ∈ todo, p ∈ S) ∧ Hid (Turn E w wr) ∧ Hid (x < wr.heap.size))
  case atStart => exact ⟨S, E, l, A, rfl, HR0, HC0, hide (fun k hk => .inl hk), hide (fun o => by
      by_cases e : ofS l o = ofS W o
      · exact .inl e
      · exact .inr ⟨ofS W o, (HSS.out o _).2 ⟨rfl, fun h => e h.symm⟩⟩), hide (fun p hp => hp), hide (Turn.of_below HB0.out), hide (by omega)⟩
  case round =>
    obtain ⟨todo, E1, l1, A1, hk, HR, HC, HE1, HO1, HT1, HTu, HXs⟩ := hrel
    rcases HR.out.next (P := Try.prog) 0 with ⟨rfl, hnx⟩ | ⟨p, todo', w2, hperm, hnx, hr2, hg2, hs2, hen⟩
    · have hl1 : l1 = W := HC.out.ok.ext HWk.out (fun o => by
        rcases HO1.out o with e | ⟨c, hc⟩
        · exact e
        · simp at hc)
      subst hl1
      have c2 := HC.out.c2
      have fz : wr.frozen? ⟨b, 2, none⟩ = false := froz_of HC.out.blk 2
      go_wp2_with fail
      go_ret
      have hE := HC.out.ended
      have ht : Turn F w (wr.setCell ⟨b, 2, none⟩ (.map none)) := ⟨HTu.out.os, HTu.out.tape, HTu.out.output, by simp only [World.setCell]; exact Nat.le_trans HTu.out.size (by simp), fun k h1 h2 => by
        have hbk : k ≠ b := fun e => h2 (HF4.out k (by
          rcases HE1.out b HC.out.inB with h | h
          · rw [e]; exact h
          · omega))
        rw [Below.heap_setCell _ _ _ _ hbk, HTu.out.block k h1 (fun h => h2 (HF4.out k h))]⟩
      refine ⟨rfl, ⟨E1, bn, bo, A1, none, hE, rfl, (by intro s' e; cases e), fun k hk1 => ?_, ext_bd HF5.out ht.size⟩, ht⟩
      rcases HE1.out k hk1 with h | h
      · exact .inl (HF4.out k h)
      · exact .inr ⟨by omega, hE.bd k hk1⟩
    · obtain ⟨y, hy⟩ : ∃ y, w2.heap.size = y := ⟨_, rfl⟩
      obtain ⟨w4, hw4⟩ : ∃ w4, w2.alloc (.cells #[.int .i64 p.1.1, .int .i64 p.1.2] 35) = w4 := ⟨_, rfl⟩
      have hb4 : BoxO w4 y p.1 := by rw [← hw4, ← hy]; exact boxO_new w2 p.1 _
      obtain ⟨x1, x2⟩ := hb4
      have HX1 : Hid (∀ k, E1 k → k ≠ x ∧ k ≠ s) := hide (fun k hk => by
        rcases HE1.out k hk with h | h
        · exact ⟨fun e => by have := HEB.out k h; omega, fun e => HEs.out (by rw [← e]; exact h)⟩
        · exact ⟨by omega, by omega⟩)
      have HKB : Hid (∀ k, k < wr.heap.size → k ≠ x → w4.heap[k]? = wr.heap[k]?) := hide (fun k h1 h2 => by
        have hlt : k < w2.heap.size := by omega
        rw [← hw4, (MapKept.heap_alloc w2 _).2 k hlt]
        exact hg2.block k h1 (by intro e; cases e; exact h2 rfl))
      have HC4 : Hid (CrAt w4 E1 b l1 bn bo A1 (some s)) := hide (HC.out.of_blocks (by rw [← hw4]; simp; omega) (fun k hk => HKB.out k (HC.out.bd k hk) (HX1.out k hk).1))
      have HR4 : Hid (RangeIs encO OkO encI w4 s x S todo') := hide (hr2.of_walks (by rw [← hw4]; exact KeepsWalks.alloc _ _))
      have hsz4 : w4.heap.size = wr.heap.size + 1 := by rw [← hw4]; simp; omega
      have HT4 : Hid (Turn E w w4) := hide ⟨by rw [← hw4]; exact hg2.os.trans HTu.out.os, by rw [← hw4]; exact hg2.tape.trans HTu.out.tape, by rw [← hw4]; exact hg2.output.trans HTu.out.output, by have := HTu.out.size; omega, fun k h1 h2 => by
        rw [HKB.out k (by have := HTu.out.size; omega) (by omega), HTu.out.block k h1 h2]⟩
      have HQ := hide hperm
      have hpS := HT1.out p (HQ.out.mem_iff.2 (by simp))
      obtain ⟨hO, hI⟩ := HSR.out p hpS
      have HPC := hide ((HSS.out p.1 p.2).1 hpS)
      have hk2 : todo'.length < gk := by have h2 := HQ.out.length_eq; simp at h2; omega
      have HNM := hide (name_any HC4.out hO (a := p.2) ⟨hI.1, hI.2⟩)
      have HLk1 := hide HC.out.ok
      unfold encO encI at hnx hen
      clear hr2 hg2 hs2 hperm hpS hO hI
      go_wp2_with (go_at_call 27; refine HNM.out.mono ?_; rintro e w5 ⟨rfl, hcr⟩; have HD := hide hcr; clear hcr)
      go_roundg todo'.length
      case measure => exact hk2
      case rel =>
        obtain ⟨A5, hA5⟩ := HD.out.cr
        have hxE : ¬ E1 x := fun h => (HX1.out x h).1 rfl
        have hsE : ¬ E1 s := fun h => (HX1.out s h).2 rfl
        refine ⟨todo', _, _, A5, rfl, hide (HR4.out.of_blocks (fun o ho => by rw [HD.out.turn.block s (heap_lt ho) hsE]; exact ho) (fun o ho => by rw [HD.out.turn.block x (heap_lt ho) hxE]; exact ho)), hide hA5, hide (fun k hk => ?_), hide (fun o => ?_), hide (fun q hq => HT1.out q (HQ.out.mem_iff.2 (by simp [hq]))), hide (HT4.out.trans HD.out.turn (fun i hi h => ?_)), hide (by have := HD.out.turn.size; have := HXs.out; omega)⟩
        · rcases hk with h | ⟨h, -⟩
          · exact HE1.out k h
          · exact .inr (by have := HXs.out; omega)
        · rw [ofS_putS HLk1.out.srt]
          by_cases e : o = p.1
          · rw [if_pos e, e]; exact .inl HPC.out.1
          · rw [if_neg e]
            rcases HO1.out o with h | ⟨c, hc⟩
            · exact .inl h
            · rcases List.mem_cons.1 (HQ.out.mem_iff.1 hc) with h | h
              · exact absurd (by rw [← h]) e
              · exact .inr ⟨c, h⟩
        · rcases HE1.out i h with h | h
          · exact h
          · omega
end Go.Proofs.Ytjopdejgijojmaa
