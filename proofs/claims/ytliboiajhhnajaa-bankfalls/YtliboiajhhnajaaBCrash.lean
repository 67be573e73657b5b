/- waiting and Crash by their contracts. -/
import Derived.Test.YtliboiajhhnajaaBFlush
import Derived.Test.YtliboiajhhnajaaCutI
namespace Go.Proofs.Ytliboiajhhnajaa
open Go.RowKit Go.Extern

def waitN (d : Dev) : Nat := match d with | some (_, S) => (pend S).length | none => 0
theorem bwaiting_none (w : World) : Calls Try.prog 31 #[.pointer none] w fun e w' => e = .returned (.int .i64 0) ∧ w' = w := by
  go_enter Try.func31, Try.ntmps31
  go_wp2
  go_ret
  exact ⟨rfl, rfl⟩
set_option maxRecDepth 100000 in
theorem bwaiting_any {w : World} {F : Nat → Prop} {p : Nat} {S : List Sec} (h : Dk w F p S) : Calls Try.prog 31 #[.pointer (some ⟨p, 0, none⟩)] w fun e w' => e = .returned (.int .i64 ((pend S).length : Int)) ∧ Below w.heap.size w w' := by
  have HP := hide (pending_any h)
  clear h
  go_enter Try.func31, Try.ntmps31
  go_wp2_with fail
  refine HP.out.mono ?_
  rintro e w1 ⟨v, rfl, hv, hb⟩
  have HB := hide hb
  obtain ⟨ao, cap, rfl⟩ := ownsRow_form hv
  rw [pendI_length]
  clear hv hb HP
  go_wp2
  go_ret
  exact ⟨rfl, HB.out⟩

/-- All devices crash, one behind the other, each with the picks that it has use for. -/
def crD : List Dev → List Int → List Dev
  | [], _ => []
  | none :: r, ps => none :: crD r ps
  | some (p, S) :: r, ps => some (p, crS S (ps.take (pend S).length)) :: crD r (ps.drop (pend S).length)
theorem crD_length : ∀ (D : List Dev) (ps : List Int), (crD D ps).length = D.length
  | [], _ => rfl
  | none :: r, ps => by simp [crD, crD_length r]
  | some (p, S) :: r, ps => by simp [crD, crD_length r]
theorem set_mid {α : Type} (l : List α) (x y : α) (r : List α) {j : Nat} (hj : l.length = j) : (l ++ x :: r).set j y = l ++ y :: r := by
  subst hj
  rw [List.set_append_right _ _ (Nat.le_refl _)]; simp
theorem mid_get {α : Type} (l : List α) (x : α) (r : List α) {j : Nat} (hj : l.length = j) : (l ++ x :: r)[j]? = some x := by
  subst hj
  rw [List.getElem?_append_right (Nat.le_refl _)]; simp
def BCrashed (F : Nat → Prop) (b : Nat) (D : List Dev) (q : Pw) (ps : List Int) (w : World) (e : Ending) (w' : World) : Prop := e = .returned (.tuple #[]) ∧ Bk w' (ext F w w') b (crD D ps) ⟨-1, false, q.done⟩ ∧ Turn F w w'

set_option maxRecDepth 100000 in
set_option maxHeartbeats 2000000 in
theorem bcrash_any {w : World} {F : Nat → Prop} {b : Nat} {D : List Dev} {q : Pw} (h : Bk w F b D q) (hww : WlB D 1000000) (pv : Value) (ps : List Int) (hp : Ints w pv ps) (hout : ∀ k, pv.ownBlock = some k → ¬ F k ∧ k < w.heap.size) :
    Calls Try.prog 15 #[.pointer (some ⟨b, 0, none⟩), pv] w (BCrashed F b D q ps w) := by
  have HBK := hide h
  have HWW := hide hww
  have HP := hide hp
  have HOUT := hide hout
  have HFB : Hid (F b) := by obtain ⟨v, G, h⟩ := h; exact h.inB
  have HDL : Hid (D.length ≤ 8) := h.few
  obtain ⟨v, G, h⟩ := h
  have c0 := h.c0
  obtain ⟨ao, cap, rfl⟩ := h.form
  have HV : Hid (w.ownsRow 0 56 1 (.slice ao D.length cap) D.length (D.map ptrV)) := h.row
  obtain ⟨aop, capp, gp, offp, rfl, -⟩ := hp
  have HAT := hide h
  clear h hww hout
  go_enter Try.func15, Try.ntmps15
  go_wp2_with fail
  go_loopg [12, 1] D.length (fun gk i pv wr => ∃ j pre ps' G', j + gk = D.length ∧ i = .int .i64 (j : Int) ∧ pre.length = j ∧ BkAt wr (ext F w wr) b (pre ++ D.drop j) q (.slice ao D.length cap) G' ∧ Turn F w wr ∧ pre ++ crD (D.drop j) ps' = crD D ps ∧ Ints wr pv ps' ∧ (∀ k, pv.ownBlock = some k → ¬ F k ∧ k < w.heap.size))
  case atStart => exact ⟨0, [], ps, G, by omega, rfl, rfl, HAT.out.mono (fun _ hk => .inl hk), Turn.refl _ _, rfl, HP.out, HOUT.out⟩
  case round =>
    clear HP HOUT HAT
    obtain ⟨j, pre, ps', G', hj, rfl, hpre, hat, htn, hcr, hin, hou⟩ := hrel
    have HA := hide hat
    have HT := hide htn
    have HC := hide hcr
    have HI := hide hin
    have HO := hide hou
    have HPR := hide hpre
    obtain ⟨aoq, capq, gq, offq, rfl, -⟩ := hin
    cases gk with
    | zero =>
      have hend : ¬ (j : Int) < (D.length : Int) := by omega
      have HE : Hid (pre ++ D.drop j = crD D ps) := by
        have := HC.out
        rw [List.drop_of_length_le (by omega)] at this ⊢
        exact this
      have c1 := hat.c1
      have c2 := hat.c2
      have f1 := hat.frozen 1
      have f2 := hat.frozen 2
      have HEND := hide ((hat.setDown false).setLeft (-1))
      clear hat htn hcr hou hpre hj
      go_wp2
      go_end0
      refine ⟨rfl, ?_, ?_⟩
      · have := HEND.out
        rw [HE.out] at this
        exact ⟨_, _, this.mono (fun k hk => by rcases hk with hk | hk; exact .inl hk; exact .inr ⟨hk.1, by rw [set_size, set_size]; exact hk.2⟩)⟩
      · exact HT.out.trans (F1 := F) ((set_turn (F := F) _ ⟨b, 2, none⟩ _ HFB.out).trans (F1 := F) (set_turn (F := F) _ ⟨b, 1, none⟩ _ HFB.out) (fun _ _ h => h)) (fun _ _ h => h)
    | succ m =>
      have hlt : (j : Int) < (D.length : Int) := by omega
      have hjl : j < D.length := by omega
      obtain ⟨d, hd⟩ : ∃ d, D[j]? = some d := ⟨D[j], by simp⟩
      have hdr : D.drop j = d :: D.drop (j + 1) := by
        rw [List.drop_eq_getElem_cons hjl]; congr 1; exact (List.getElem?_eq_some_iff.1 hd).2
      have hmid : (pre ++ D.drop j)[j]? = some d := by rw [hdr]; exact mid_get pre d _ hpre
      have hdl : (pre ++ D.drop j).length = D.length := by simp; omega
      obtain ⟨g, hg, -, ck, -⟩ := hat.at_ hmid
      subst hg
      have HDR := hide hdr
      have HMID := hide hmid
      have hjj : (j : Int) + 1 < 10 := by have := HDL.out; omega
      have hb0 : (0 : Int) ≤ (j : Int) := by omega
      clear hat htn hcr hou hpre hdr hmid hdl
      cases d with
      | none =>
        rw [ptrV_none] at ck
        clear hd
        go_wp2
        go_roundg m
        case measure => omega
        case rel =>
          refine ⟨j + 1, pre ++ [none], ps', G', by omega, by go_num, by simp [HPR.out], ?_, HT.out, ?_, HI.out, HO.out⟩
          · have := HA.out
            rw [HDR.out] at this
            simpa using this
          · have := HC.out
            rw [HDR.out] at this
            simpa [crD] using this
      | some d =>
        obtain ⟨p, S⟩ := d
        rw [ptrV_some] at ck
        have HWT := hide (bwaiting_any (HA.out.dev j p S HMID.out))
        obtain ⟨mn, hmn⟩ : ∃ mn : Nat, mn = min (pend S).length ps'.length := ⟨_, rfl⟩
        have hmin : min (pend S).length ps'.length = mn := hmn.symm
        have hminI : min ((pend S).length : Int) (ps'.length : Int) = (mn : Int) := by omega
        have hle : mn ≤ ps'.length := by omega
        obtain ⟨ao1, n1, cap1, hcut1, hto⟩ := cutI_to wr _ ps' mn HI.out hle
        obtain ⟨ao2, n2, cap2, hcut2, hfr⟩ := cutI_from wr _ ps' mn HI.out hle
        have HTK : Hid (ps'.take mn = ps'.take (pend S).length ∧ ps'.drop mn = ps'.drop (pend S).length) := by
          by_cases hx : (pend S).length ≤ ps'.length
          · rw [show mn = (pend S).length by omega]; exact ⟨rfl, rfl⟩
          · rw [show mn = ps'.length by omega, List.take_of_length_le (Nat.le_refl _), List.drop_of_length_le (Nat.le_refl _), List.take_of_length_le (by omega), List.drop_of_length_le (by omega)]; exact ⟨rfl, rfl⟩
        have HCR2 : Hid (pre ++ some (p, crS S (ps'.take mn)) :: crD (D.drop (j + 1)) (ps'.drop mn) = crD D ps) := by
          have := HC.out
          rw [HDR.out] at this
          simp only [crD] at this
          rw [HTK.out.1, HTK.out.2]
          exact this
        have HW := hide (HWW.out j p S hd)
        clear hd hle hmn HTK
        go_wp2_with fail
        refine HWT.out.mono ?_
        rintro e w2 ⟨rfl, hb2⟩
        have hat2 := HA.out.below hb2
        have HIS := hide (And.intro (hto.out.1.below hb2) hto.out.2)
        have HCRC := hide (crash_any (hat2.dev j p S HMID.out) HW.out (.slice ao1 n1 cap1) (ps'.take mn) HIS.out.1 (fun k hk hg => by
          have h1 := HO.out k (HIS.out.2 k hk)
          rcases hat2.inG j k hg with x | x
          · exact h1.1 x
          · omega))
        have HA2 := hide hat2
        have HB2 := hide hb2
        clear hat2 hb2 HWT hto
        generalize (pend S).length = pn at *
        go_wp2_with fail
        refine HCRC.out.mono ?_
        rintro e w3 ⟨rfl, hdk3, ht3⟩
        have hset := HA2.out.set HMID.out hdk3 ht3
        have HA3 := hide hset.1
        have HT23 := hide hset.2
        have HSZ2 := hide HB2.out.size
        have HSZ3 := hide ht3.size
        have HT3 : Hid (Turn F w w3) := (HT.out.trans (Turn.of_below (F := F) HB2.out) (fun _ _ h => h)).trans (F1 := ext F w wr) hset.2 (fun k hk h => by
          rcases h with h | h
          · exact h
          · omega)
        have HI3 : Hid (Ints w3 (.slice ao2 n2 cap2) (ps'.drop mn)) := (hfr.out.1.below HB2.out).turnB (F := ext F w wr) hset.2 (fun _ k hk hx => by
          have h1 := HO.out k (hfr.out.2 k hk)
          rcases hx with x | x
          · exact h1.1 x
          · omega)
        have HO3 : Hid (∀ k, (Value.slice ao2 n2 cap2).ownBlock = some k → ¬ F k ∧ k < w.heap.size) := fun k hk => HO.out k (hfr.out.2 k hk)
        clear hset hdk3 ht3 HCRC hfr
        go_wp2
        go_roundg m
        case measure => omega
        case rel =>
          refine ⟨j + 1, pre ++ [some (p, crS S (ps'.take mn))], ps'.drop mn, (fun i => if i = j then ext (G' j) w2 w3 else G' i), by omega, by go_num, by simp [HPR.out], ?_, HT3.out, ?_, HI3.out, HO3.out⟩
          · have := HA3.out.mono (F' := ext F w w3) (fun k hk => by
              have h1 := HT.out.size
              have h2 := HSZ2.out
              have h3 := HSZ3.out
              rcases hk with (hk | hk) | hk
              · exact .inl hk
              · exact .inr ⟨hk.1, by omega⟩
              · exact .inr ⟨by omega, hk.2⟩)
            rw [HDR.out, set_mid pre _ _ _ HPR.out] at this
            simpa using this
          · simpa using HCR2.out
end Go.Proofs.Ytliboiajhhnajaa
