import Derived.Test.YtliboiajhhnajaaGreatDoorM23
import Derived.Test.YtliboiajhhnajaaGreatDoorM24
import Derived.Test.YtliboiajhhnajaaGreatDoorM25
/- The document's own bank: look, count, Grow, Detach, Read, Write, Fill, Bad by their contracts. -/
namespace Go.Proofs.YtliboiajhhnajaaGreatDoor
open Go.RowKit Go.Extern

def SmB (D : List Dev) : Prop := ∀ (i p : Nat) (S : List Sec), D[i]? = some (some (p, S)) → S.length ≤ 4096
def lookI (D : List Dev) (q : Pw) (pow : Bool) (i : Int) : Int := if pow then lookP D q i else lookC D i
set_option maxRecDepth 100000 in
set_option maxHeartbeats 1000000 in
theorem rlook_any {w : World} {F : Nat → Prop} {b : Nat} {D : List Dev} {q : Pw} (h : RBk w F b D q) (i : Int) (pow : Bool) :
    Calls Tryz.prog 46 #[.pointer (some ⟨b, 0, none⟩), .int .i64 i, .bool pow] w fun e w' => e = .returned (.int .i64 (lookI D q pow i)) ∧ w' = w := by
  obtain ⟨v, G, h⟩ := h
  have c0 := h.c0
  have c2 := h.c2
  by_cases hpd : pow = true ∧ q.down = true
  · obtain ⟨rfl, hd⟩ := hpd
    have HE : Hid (lookI D q true i = 22) := by show _ = _; unfold lookI lookP; rw [hd]; rfl
    rw [hd] at c2
    clear h
    go_enter Tryz.func46, Tryz.ntmps46
    go_wp2
    go_ret
    exact ⟨by rw [HE.out]; rfl, rfl⟩
  · have HQ : Hid (lookI D q pow i = lookC D i) := by
      show _ = _
      unfold lookI lookP
      cases pow with
      | false => rfl
      | true =>
        have : q.down = false := by simpa using hpd
        rw [this]; rfl
    have hpd' : pow = false ∨ (pow = true ∧ q.down = false) := by
      cases pow with
      | false => exact .inl rfl
      | true => exact .inr ⟨rfl, by simpa using hpd⟩
    clear hpd
    obtain ⟨ao, cap, rfl⟩ := h.form
    by_cases h0 : i < 0
    · have hd : decide (i < 0) = true := by simpa using h0
      have HE : Hid (lookC D i = 23) := by show _ = _; unfold lookC; rw [if_neg (by omega)]
      clear h h0
      rcases hpd' with rfl | ⟨rfl, hdn⟩
      · go_enter Tryz.func46, Tryz.ntmps46
        go_wp2
        go_ret
        exact ⟨by rw [HQ.out, HE.out]; rfl, rfl⟩
      · rw [hdn] at c2
        go_enter Tryz.func46, Tryz.ntmps46
        go_wp2
        go_ret
        exact ⟨by rw [HQ.out, HE.out]; rfl, rfl⟩
    · have hd : decide (i < 0) = false := by simpa using h0
      by_cases h1 : (D.length : Int) ≤ i
      · have hd2 : decide ((D.length : Int) ≤ i) = true := by simpa using h1
        have HE : Hid (lookC D i = 23) := by show _ = _; unfold lookC; rw [if_neg (by omega)]
        clear h h0 h1
        rcases hpd' with rfl | ⟨rfl, hdn⟩
        · go_enter Tryz.func46, Tryz.ntmps46
          go_wp2
          go_ret
          exact ⟨by rw [HQ.out, HE.out]; rfl, rfl⟩
        · rw [hdn] at c2
          go_enter Tryz.func46, Tryz.ntmps46
          go_wp2
          go_ret
          exact ⟨by rw [HQ.out, HE.out]; rfl, rfl⟩
      · have hd2 : decide ((D.length : Int) ≤ i) = false := by simpa using h1
        obtain ⟨k, rfl⟩ : ∃ k : Nat, i = (k : Int) := ⟨i.toNat, by omega⟩
        obtain ⟨d, hk⟩ : ∃ d, D[k]? = some d := ⟨D[k]'(by omega), by simp⟩
        obtain ⟨g, rfl, -, ck, -⟩ := h.at_ hk
        have hlt : (k : Int) < (D.length : Int) := by omega
        have hge : (0 : Int) ≤ (k : Int) := by omega
        cases d with
        | none =>
          rw [ptrV_none] at ck
          have HE : Hid (lookC D (k : Int) = 25) := by show _ = _; unfold lookC; rw [if_pos ⟨hge, hlt⟩, Int.toNat_natCast, hk]
          clear h h0 h1 hk
          rcases hpd' with rfl | ⟨rfl, hdn⟩
          · go_enter Tryz.func46, Tryz.ntmps46
            go_wp2
            go_ret
            exact ⟨by rw [HQ.out, HE.out]; rfl, rfl⟩
          · rw [hdn] at c2
            go_enter Tryz.func46, Tryz.ntmps46
            go_wp2
            go_ret
            exact ⟨by rw [HQ.out, HE.out]; rfl, rfl⟩
        | some d =>
          obtain ⟨p, S⟩ := d
          rw [ptrV_some] at ck
          have HE := hide (lookC_at hk).1
          clear h h0 h1 hk
          rcases hpd' with rfl | ⟨rfl, hdn⟩
          · go_enter Tryz.func46, Tryz.ntmps46
            go_wp2
            go_ret
            exact ⟨by rw [HQ.out, HE.out]; rfl, rfl⟩
          · rw [hdn] at c2
            go_enter Tryz.func46, Tryz.ntmps46
            go_wp2
            go_ret
            exact ⟨by rw [HQ.out, HE.out]; rfl, rfl⟩

def RSpent (F : Nat → Prop) (b : Nat) (D : List Dev) (q : Pw) (v : Value) (G : Nat → Nat → Prop) (w : World) (e : Ending) (w' : World) : Prop := e = .returned (.int .i64 (spendC q)) ∧ RBkAt w' F b D (spent q) v G ∧ Turn (fun k => k = b) w w' ∧ w'.heap.size = w.heap.size
set_option maxRecDepth 100000 in
theorem rcount_any {w : World} {F : Nat → Prop} {b : Nat} {D : List Dev} {q : Pw} {v : Value} {G : Nat → Nat → Prop} (h : RBkAt w F b D q v G) (hq : Small q) :
    Calls Tryz.prog 54 #[.pointer (some ⟨b, 0, none⟩)] w (RSpent F b D q v G w) := by
  have H := hide h
  have c1 := h.c1
  have c2 := h.c2
  have c3 := h.c3
  have f1 := h.frozen 1
  have f2 := h.frozen 2
  have f3 := h.frozen 3
  obtain ⟨left, down, done⟩ := q
  obtain ⟨hi, hd0, hd1⟩ := hq
  simp only at c1 c2 c3 hi hd0 hd1
  unfold I64 at hi
  clear h
  by_cases h0 : left = 0
  · subst h0
    have HE : Hid (spendC ⟨0, down, done⟩ = 22 ∧ spent ⟨0, down, done⟩ = ⟨0, true, done⟩) := ⟨rfl, rfl⟩
    clear hi hd0 hd1
    go_enter Tryz.func54, Tryz.ntmps54
    go_wp2
    go_ret
    refine ⟨by rw [HE.out.1]; rfl, by rw [HE.out.2]; exact H.out.setDown true, set_turn _ _ _ rfl, set_size _ _ _⟩
  · have hb : (left == 0) = false := by simpa using h0
    by_cases h1 : 0 < left
    · have hd : decide (0 < left) = true := by simpa using h1
      have HE : Hid (spendC ⟨left, down, done⟩ = 0 ∧ spent ⟨left, down, done⟩ = ⟨left - 1, down, done + 1⟩) := ⟨by simp [spendC, h0], by simp [spent, h0, h1]⟩
      have HB : Hid (RBkAt ((w.setCell ⟨b, 1, none⟩ (.int .i64 (left - 1))).setCell ⟨b, 3, none⟩ (.int .i64 (done + 1))) F b D ⟨left - 1, down, done + 1⟩ v G) := (H.out.setLeft (left - 1)).setDone (done + 1)
      have HT : Hid (Turn (fun k => k = b) w ((w.setCell ⟨b, 1, none⟩ (.int .i64 (left - 1))).setCell ⟨b, 3, none⟩ (.int .i64 (done + 1)))) := (set_turn (F := fun k => k = b) _ _ _ rfl).trans (set_turn (F := fun k => k = b) _ _ _ rfl) (fun _ _ h => h)
      clear h0 H
      go_enter Tryz.func54, Tryz.ntmps54
      go_wp2
      go_ret
      exact ⟨by rw [HE.out.1]; rfl, by rw [HE.out.2]; exact HB.out, HT.out, by rw [set_size, set_size]⟩
    · have hd : decide (0 < left) = false := by simpa using h1
      have HE : Hid (spendC ⟨left, down, done⟩ = 0 ∧ spent ⟨left, down, done⟩ = ⟨left, down, done + 1⟩) := ⟨by simp [spendC, h0], by simp [spent, h0, h1]⟩
      clear h0 h1
      go_enter Tryz.func54, Tryz.ntmps54
      go_wp2
      go_ret
      exact ⟨by rw [HE.out.1]; rfl, by rw [HE.out.2]; exact H.out.setDone (done + 1), set_turn _ _ _ rfl, set_size _ _ _⟩

def RBTurned (F : Nat → Prop) (b : Nat) (D' : List Dev) (q' : Pw) (r : Value) (w : World) (e : Ending) (w' : World) : Prop := e = .returned r ∧ RBk w' (ext F w w') b D' q' ∧ Turn F w w'
theorem RBk.ext_self {w : World} {F : Nat → Prop} {b : Nat} {D : List Dev} {q : Pw} (h : RBk w F b D q) : RBk w (ext F w w) b D q := h.mono (fun _ hk => .inl hk)
/-- What a walk needs of a device that is there. -/
theorem RBkAt.there {w : World} {F : Nat → Prop} {b : Nat} {D : List Dev} {q : Pw} {v : Value} {G : Nat → Nat → Prop} (h : RBkAt w F b D q v G) {k p : Nat} {S : List Sec} (hk : D[k]? = some (some (p, S))) : ∃ g cap, v = .slice (some ⟨g, 0, none⟩) D.length cap ∧ w.cell? ⟨b, 0, none⟩ = some (.slice (some ⟨g, 0, none⟩) D.length cap) ∧ w.cell? ⟨g, k, none⟩ = some (.pointer (some ⟨p, 0, none⟩)) ∧ w.frozen? ⟨g, k, none⟩ = false ∧ (k : Int) < (D.length : Int) ∧ (0 : Int) ≤ (k : Int) := by
  obtain ⟨ao, cap, rfl⟩ := h.form
  have c0 := h.c0
  obtain ⟨g, rfl, -, ck, fk⟩ := h.at_ hk
  rw [ptrV_some] at ck
  exact ⟨g, cap, rfl, c0, ck, fk, by have := (List.getElem?_eq_some_iff.1 hk).1; omega, by omega⟩

set_option maxRecDepth 100000 in
set_option maxHeartbeats 1000000 in
theorem rbgrow_any {w : World} {F : Nat → Prop} {b : Nat} {D : List Dev} {q : Pw} (h : RBk w F b D q) (hS : SmB D) (i n : Int) :
    Calls Tryz.prog 16 #[.pointer (some ⟨b, 0, none⟩), .int .i64 i, .int .i64 n] w (RBTurned F b (bgD D q i n) q (.int .i64 (bgC D q i n)) w) := by
  have HL := hide (rlook_any h i true)
  have HBK := hide h
  rw [show lookI D q true i = lookP D q i from rfl] at HL
  by_cases hc : lookP D q i = 0
  · obtain ⟨hdn, k, p, S, rfl, hk, -⟩ := lookP_zero hc
    obtain ⟨v, G, hat⟩ := h
    obtain ⟨g, cap, rfl, c0, ck, -, hlt, hge⟩ := hat.there hk
    have HE : Hid (bgC D q (k : Int) n = gErr S n ∧ bgD D q (k : Int) n = D.set k (some (p, gSet S n))) := ⟨by unfold bgC; rw [if_pos hc, secsOf_at hk], by unfold bgD; rw [if_pos hc, secsOf_at hk, putDev_at hk]⟩
    have HCALL := hide (rgrow_any (hat.dev k p S hk) (hS k p S hk) n)
    have HAT := hide hat
    have HK := hide hk
    rw [hc] at HL
    clear hc hat hk hdn HBK hS
    generalize gErr S n = ge at *
    go_enter Tryz.func16, Tryz.ntmps16
    go_wp2_with fail
    refine HL.out.mono ?_
    rintro e w' ⟨rfl, hw'⟩
    obtain rfl : w = w' := hw'.symm
    go_wp2_with fail
    refine HCALL.out.mono ?_
    rintro e w2 ⟨rfl, hdk2, ht2⟩
    have HSET := hide (HAT.out.set HK.out hdk2 ht2)
    clear hdk2 ht2 HCALL
    go_wp2
    go_ret
    rw [HE.out.1, HE.out.2]
    exact ⟨rfl, ⟨_, _, HSET.out.1⟩, HSET.out.2⟩
  · have HE : Hid (bgC D q i n = lookP D q i ∧ bgD D q i n = D) := ⟨by unfold bgC; rw [if_neg hc], by unfold bgD; rw [if_neg hc]⟩
    have hcb : (lookP D q i != 0) = true := by simpa using hc
    generalize lookP D q i = lc at *
    clear hc h
    go_enter Tryz.func16, Tryz.ntmps16
    go_wp2_with fail
    refine HL.out.mono ?_
    rintro e w' ⟨rfl, hw'⟩
    obtain rfl : w = w' := hw'.symm
    go_wp2
    go_ret
    rw [HE.out.1, HE.out.2]
    exact ⟨rfl, HBK.out.ext_self, Turn.refl _ _⟩

set_option maxRecDepth 100000 in
set_option maxHeartbeats 1000000 in
theorem rbdetach_any {w : World} {F : Nat → Prop} {b : Nat} {D : List Dev} {q : Pw} (h : RBk w F b D q) (i : Int) :
    Calls Tryz.prog 18 #[.pointer (some ⟨b, 0, none⟩), .int .i64 i] w (RBTurned F b (bdD D q i) q (.int .i64 (lookP D q i)) w) := by
  have HL := hide (rlook_any h i true)
  have HBK := hide h
  rw [show lookI D q true i = lookP D q i from rfl] at HL
  by_cases hc : lookP D q i = 0
  · obtain ⟨hdn, k, p, S, rfl, hk, -⟩ := lookP_zero hc
    obtain ⟨v, G, hat⟩ := h
    obtain ⟨g, cap, rfl, c0, ck, fk, hlt, hge⟩ := hat.there hk
    have HE : Hid (lookP D q (k : Int) = 0 ∧ bdD D q (k : Int) = D.set k none) := ⟨hc, by unfold bdD; rw [if_pos hc, Int.toNat_natCast]⟩
    have HG := hide (hat.gone k)
    have HFG : Hid (F g) := hat.inV g rfl
    rw [hc] at HL
    clear hc hat hk hdn HBK
    go_enter Tryz.func18, Tryz.ntmps18
    go_wp2_with fail
    refine HL.out.mono ?_
    rintro e w' ⟨rfl, hw'⟩
    obtain rfl : w = w' := hw'.symm
    go_wp2
    go_ret
    rw [HE.out.1, HE.out.2]
    exact ⟨rfl, ⟨_, _, HG.out.mono (fun _ hk => .inl hk)⟩, set_turn (F := F) w ⟨g, k, none⟩ _ HFG.out⟩
  · have HE : Hid (bdD D q i = D) := by show _ = _; unfold bdD; rw [if_neg hc]
    have hcb : (lookP D q i == 0) = false := by simpa using hc
    generalize lookP D q i = lc at *
    clear hc h
    go_enter Tryz.func18, Tryz.ntmps18
    go_wp2_with fail
    refine HL.out.mono ?_
    rintro e w' ⟨rfl, hw'⟩
    obtain rfl : w = w' := hw'.symm
    go_wp2
    go_ret
    rw [HE.out]
    exact ⟨rfl, HBK.out.ext_self, Turn.refl _ _⟩

def RBReaded (D : List Dev) (q : Pw) (i s : Int) (w : World) (e : Ending) (w' : World) : Prop := ∃ u, e = .returned (.tuple #[u, .int .i64 (brC D q i s)]) ∧ Bytes w' u (brD D q i s) ∧ Below w.heap.size w w'
set_option maxRecDepth 100000 in
set_option maxHeartbeats 1000000 in
theorem rbread_any {w : World} {F : Nat → Prop} {b : Nat} {D : List Dev} {q : Pw} (h : RBk w F b D q) (hww : WlB D 1000000) (i s : Int) :
    Calls Tryz.prog 20 #[.pointer (some ⟨b, 0, none⟩), .int .i64 i, .int .i64 s] w (RBReaded D q i s w) := by
  have HL := hide (rlook_any h i true)
  rw [show lookI D q true i = lookP D q i from rfl] at HL
  by_cases hc : lookP D q i = 0
  · obtain ⟨hdn, k, p, S, rfl, hk, -⟩ := lookP_zero hc
    obtain ⟨v, G, hat⟩ := h
    obtain ⟨g, cap, rfl, c0, ck, -, hlt, hge⟩ := hat.there hk
    have HE : Hid (brC D q (k : Int) s = rErr S s ∧ brD D q (k : Int) s = rDat S s) := ⟨by unfold brC; rw [if_pos hc, secsOf_at hk], by unfold brD; rw [if_pos hc, secsOf_at hk]⟩
    have HCALL := hide (rread_any (hat.dev k p S hk) s (hww k p S hk))
    rw [hc] at HL
    clear hc hat hk hdn hww
    go_enter Tryz.func20, Tryz.ntmps20
    go_wp2_with fail
    refine HL.out.mono ?_
    rintro e w' ⟨rfl, hw'⟩
    obtain rfl : w = w' := hw'.symm
    go_wp2_with fail
    refine HCALL.out.mono ?_
    rintro e w2 ⟨u, rfl, hu, hb2⟩
    have HU := hide hu
    have HB2 := hide hb2
    obtain ⟨aou, capu, gu, ou, rfl, -⟩ := hu
    clear hb2 HCALL
    generalize rErr S s = re at *
    go_wp2
    go_ret2
    exact ⟨_, by rw [HE.out.1]; rfl, by rw [HE.out.2]; exact HU.out, HB2.out⟩
  · have HE : Hid (brC D q i s = lookP D q i ∧ brD D q i s = []) := ⟨by unfold brC; rw [if_neg hc], by unfold brD; rw [if_neg hc]⟩
    have hcb : (lookP D q i != 0) = true := by simpa using hc
    generalize lookP D q i = lc at *
    clear hc h hww
    go_enter Tryz.func20, Tryz.ntmps20
    go_wp2_with fail
    refine HL.out.mono ?_
    rintro e w' ⟨rfl, hw'⟩
    obtain rfl : w = w' := hw'.symm
    go_wp2
    go_ret2
    exact ⟨_, by rw [HE.out.1]; rfl, by rw [HE.out.2]; exact Bytes.nil _, Below.refl _ _⟩
end Go.Proofs.YtliboiajhhnajaaGreatDoor
