import Derived.Test.YtliboiajhhnajaaGreatDoorM32
/- The document's own bank: Crash by its contract. -/
namespace Go.Proofs.YtliboiajhhnajaaGreatDoor
open Go.RowKit Go.Extern

theorem take_more {ns : List Int} {a k : Nat} {z : Int} (h : ns[a + k]? = some z) : (ns.drop a).take (k + 1) = (ns.drop a).take k ++ [z] := by
  rw [List.take_add_one, List.getElem?_drop, h]; rfl
set_option maxRecDepth 100000 in
set_option maxHeartbeats 4000000 in
theorem rbcrash_any {w : World} {F : Nat → Prop} {b : Nat} {D : List Dev} {q : Pw} (h : RBk w F b D q) (hsm : SmB D) (hww : WlB D 1000000) (pv : Value) (ps : List Int) (hp : Ints w pv ps) (hout : 0 < ps.length → ∀ k, pv.ownBlock = some k → ¬ F k ∧ k < w.heap.size) (hpl : ps.length ≤ 100000) :
    Calls Tryz.prog 27 #[.pointer (some ⟨b, 0, none⟩), pv] w (RBTurned F b (crD D ps) ⟨-1, false, q.done⟩ (.tuple #[]) w) := by
  have HBK := hide h
  have HWW := hide hww
  have HSB := hide hsm
  have HPL := hide hpl
  have HOUT := hide hout
  have HDL : Hid (D.length ≤ 8) := h.few
  have HFB : Hid (F b) := by obtain ⟨v, G, h⟩ := h; exact h.inB
  obtain ⟨v, G, h⟩ := h
  obtain ⟨ao, cap, rfl⟩ := h.form
  have HAT := hide h
  obtain ⟨aop, capp, gp, offp, rfl, p2, p3, p4, -⟩ := hp
  have P2 := hide p2
  have P3 := hide p3
  have P4 := hide p4
  clear h hww hout hsm p2 p3 p4 hpl
  go_enter Tryz.func27, Tryz.ntmps27
  go_wp2_with fail
  go_loopg [5, 4] D.length (fun gk i av wr => ∃ (j : Nat) (pre : List Dev) (at_ : Nat) (G' : Nat → Nat → Prop), j + gk = D.length ∧ i = .int .i64 (j : Int) ∧ av = .int .i64 (at_ : Int) ∧ at_ ≤ ps.length ∧ pre.length = j ∧ RBkAt wr (ext F w wr) b (pre ++ D.drop j) q (.slice ao D.length cap) G' ∧ Turn F w wr ∧ pre ++ crD (D.drop j) (ps.drop at_) = crD D ps)
  case atStart => exact ⟨0, [], 0, G, by omega, rfl, rfl, Nat.zero_le _, rfl, HAT.out.mono (fun _ hk => .inl hk), Turn.refl _ _, rfl⟩
  case round =>
    clear HAT HBK
    obtain ⟨j, pre, at_, G', hj, rfl, rfl, hal, hpre, hat, htn, hcr⟩ := hrel
    have HA := hide hat
    have HT := hide htn
    have HC := hide hcr
    have HPR := hide hpre
    have HAL := hide hal
    have c0 := hat.c0
    cases gk with
    | zero =>
      have hend : ¬ (j : Int) < (D.length : Int) := by omega
      have HE : Hid (pre ++ D.drop j = crD D ps) := by
        show _ = _
        have := HC.out
        rw [List.drop_of_length_le (by omega)] at this ⊢
        exact this
      have c1 := hat.c1
      have c2 := hat.c2
      have f1 := hat.frozen 1
      have f2 := hat.frozen 2
      have HEND := hide ((hat.setLeft (-1)).setDown false)
      clear hat htn hcr hpre hj
      go_wp2
      go_end0
      refine ⟨rfl, ?_, ?_⟩
      · have := HEND.out
        rw [HE.out] at this
        exact ⟨_, _, this.mono (fun k hk => by rcases hk with hk | hk; exact .inl hk; exact .inr ⟨hk.1, by rw [set_size, set_size]; exact hk.2⟩)⟩
      · exact HT.out.trans (F1 := F) ((set_turn (F := F) _ ⟨b, 1, none⟩ _ HFB.out).trans (F1 := F) (set_turn (F := F) _ ⟨b, 2, none⟩ _ HFB.out) (fun _ _ h => h)) (fun _ _ h => h)
    | succ m =>
      have hlt : (j : Int) < (D.length : Int) := by omega
      have hjl : j < D.length := by omega
      obtain ⟨d, hd⟩ : ∃ d, D[j]? = some d := ⟨D[j], by simp⟩
      have hdr : D.drop j = d :: D.drop (j + 1) := by
        rw [List.drop_eq_getElem_cons hjl]; congr 1; exact (List.getElem?_eq_some_iff.1 hd).2
      have hmid : (pre ++ D.drop j)[j]? = some d := by rw [hdr]; exact mid_get pre d _ hpre
      obtain ⟨g, hg, -, ck, -⟩ := hat.at_ hmid
      subst hg
      have HDR := hide hdr
      have HMID := hide hmid
      have hjj : (j : Int) + 1 < 10 := by have := HDL.out; omega
      have hb0 : (0 : Int) ≤ (j : Int) := by omega
      clear hat htn hcr hpre hdr hmid hal
      cases d with
      | none =>
        rw [ptrV_none] at ck
        clear hd
        go_wp2
        go_roundg m
        case measure => omega
        case rel =>
          refine ⟨j + 1, pre ++ [none], at_, G', by omega, by go_num, rfl, HAL.out, by simp [HPR.out], ?_, HT.out, ?_⟩
          · have := HA.out
            rw [HDR.out] at this
            simpa using this
          · have := HC.out
            rw [HDR.out] at this
            simpa [crD] using this
      | some d =>
        obtain ⟨p, S⟩ := d
        rw [ptrV_some] at ck
        have HPE := hide (rpending_any (HA.out.dev j p S HMID.out) (HSB.out j p S hd) (HWW.out j p S hd))
        have HW := hide (HWW.out j p S hd)
        have HSL := hide (HSB.out j p S hd)
        have HPN : Hid ((pend S).length ≤ 4096) := Nat.le_trans (pend_length S) (HSB.out j p S hd)
        have HCR2 : Hid (∀ mn, mn = min (pend S).length (ps.length - at_) → pre ++ some (p, crS S ((ps.drop at_).take mn)) :: crD (D.drop (j + 1)) (ps.drop (at_ + mn)) = crD D ps) := fun mn hmn => by
          have := HC.out
          rw [HDR.out] at this
          simp only [crD] at this
          have hlen : (ps.drop at_).length = ps.length - at_ := by simp
          have hdd : ps.drop (at_ + mn) = (ps.drop at_).drop mn := by rw [List.drop_drop]
          rw [hdd]
          clear hdd
          by_cases hx : (pend S).length ≤ ps.length - at_
          · rw [show mn = (pend S).length by omega]; exact this
          · rw [show mn = ps.length - at_ by omega, List.take_of_length_le (l := ps.drop at_) (i := ps.length - at_) (by rw [hlen]; exact Nat.le_refl _), List.drop_of_length_le (l := ps.drop at_) (i := ps.length - at_) (by rw [hlen]; exact Nat.le_refl _)]
            rw [List.take_of_length_le (l := ps.drop at_) (i := (pend S).length) (by rw [hlen]; omega), List.drop_of_length_le (l := ps.drop at_) (i := (pend S).length) (by rw [hlen]; omega)] at this
            exact this
        clear hd
        go_wp2_with fail
        refine HPE.out.mono ?_
        rintro e w2 ⟨v2, rfl, hv2, hb2⟩
        obtain ⟨ao2, cap2, rfl⟩ := ownsRow_form hv2
        rw [pendI_length]
        have HA2 := hide (HA.out.below hb2)
        have HT2 : Hid (Turn F w w2) := HT.out.trans (Turn.of_below (F := F) hb2) (fun _ _ h => h)
        have HSZ2 := hide hb2.size
        have k0 : w2.cell? ⟨b, 0, none⟩ = some (.slice (some ⟨g, 0, none⟩) D.length cap) := by rw [hb2.cell (cell_lt c0)]; exact c0
        have kk : w2.cell? ⟨g, j, none⟩ = some (.pointer (some ⟨p, 0, none⟩)) := by rw [hb2.cell (cell_lt ck)]; exact ck
        have HK0 := hide k0
        have HKK := hide kk
        obtain ⟨pn, hpn⟩ : ∃ pn, pn = (pend S).length := ⟨_, rfl⟩
        rw [← hpn] at HPN HCR2
        rw [← hpn]
        clear hv2 hb2 HPE c0 ck k0 kk hpn
        go_wp2_with fail
        obtain ⟨wi, hwi⟩ : ∃ wi, wi = w2 := ⟨_, rfl⟩
        subst hwi
        go_loopg [8, 7, 4] pn (fun gk kv lv av wr => ∃ k, k + gk = pn ∧ at_ + k ≤ ps.length ∧ kv = .int .i64 (k : Int) ∧ av = .int .i64 ((at_ + k : Nat) : Int) ∧ wr.ownsRow wi.heap.size 3 1 lv ((ps.drop at_).take k).length (((ps.drop at_).take k).map (Value.int .i64)) ∧ Below wi.heap.size wi wr)
        case atStart => exact ⟨0, by omega, HAL.out, rfl, rfl, World.ownsRow_nil _ _ _ _, Below.refl _ _⟩
        case round =>
          obtain ⟨k, hk, hakl, rfl, rfl, hown, hbw⟩ := hrel
          obtain ⟨ak, hak⟩ : ∃ ak, ak = at_ + k := ⟨_, rfl⟩
          rw [← hak] at hakl
          rw [← hak]
          have HAK := hide hak
          have HOW := hide hown
          have HBW := hide hbw
          have hkk : (k : Int) + 1 < 5000 := by have := HPN.out; omega
          have hakI : (ak : Int) + 1 < 200000 := by have := HPL.out; omega
          by_cases hgo : k < pn ∧ ak < ps.length
          · obtain ⟨m2, rfl⟩ : ∃ m2, gk = m2 + 1 := ⟨gk - 1, by omega⟩
            have e1 : (k : Int) < (pn : Int) := by omega
            have e2 : (ak : Int) < (ps.length : Int) := by omega
            have e3 : (0 : Int) ≤ (ak : Int) := by omega
            have hpos : 0 < ps.length := by omega
            obtain rfl := P2.out hpos
            obtain ⟨z, hz⟩ : ∃ z, ps[ak]? = some z := ⟨ps[ak]'(by omega), by simp⟩
            have hco := HOUT.out hpos gp rfl
            have cz : wr.cell? ⟨gp, offp + ak, none⟩ = some (.int .i64 z) := by
              have h1 := P3.out ak z hz
              have h2 : wi.cell? ⟨gp, offp + ak, none⟩ = some (.int .i64 z) := by rw [World.cell?_of_block (w := w) (HT2.out.block gp (cell_lt h1) hco.1)]; exact h1
              rw [hbw.cell (cell_lt h2)]; exact h2
            have htk : (ps.drop at_).take (k + 1) = (ps.drop at_).take k ++ [z] := take_more (by rw [← hak]; exact hz)
            obtain ⟨v', w', hrun, ho', hb', ⟨ao', n', c', rfl⟩⟩ := append_int hown hbw.size z (by simp; have := HPL.out; omega)
            rw [← htk] at ho'
            have HO' := hide ho'
            have HB' := hide (hbw.trans hb')
            obtain ⟨aov, capv, rfl⟩ := ownsRow_form hown
            generalize ((ps.drop at_).take k).length = ll at *
            clear hown hbw ho' hb' HOW hz htk hco hgo hak hpos
            go_wp2_with (first | ((with_reducible refine wpList_appendI rfl rfl hrun ?_ ?_ ?_ ?_); rfl; rfl; rfl))
            go_roundg m2
            case measure => omega
            case rel => exact ⟨k + 1, by omega, by have := HAK.out; omega, by go_num, by rw [HAK.out]; go_num, HO'.out, HB'.out⟩
          · have HMN : Hid (k = min pn (ps.length - at_)) := by show _ = _; have := HAK.out; omega
            have hgo2 : decide ((k : Int) < (pn : Int)) = false ∨ (decide ((k : Int) < (pn : Int)) = true ∧ decide ((ak : Int) < (ps.length : Int)) = false) := by
              by_cases h1 : k < pn
              · exact .inr ⟨by simp; omega, by simp; omega⟩
              · exact .inl (by simp; omega)
            have hgo3 : decide (k < pn) = false ∨ (decide (k < pn) = true ∧ decide (ak < ps.length) = false) := by
              by_cases h1 : k < pn
              · exact .inr ⟨by simp; omega, by simp; omega⟩
              · exact .inl (by simp; omega)
            have c0 : wr.cell? ⟨b, 0, none⟩ = some (.slice (some ⟨g, 0, none⟩) D.length cap) := by rw [hbw.cell (cell_lt HK0.out)]; exact HK0.out
            have ck : wr.cell? ⟨g, j, none⟩ = some (.pointer (some ⟨p, 0, none⟩)) := by rw [hbw.cell (cell_lt HKK.out)]; exact HKK.out
            have hat3 := HA2.out.below hbw
            have hints : Ints wr u7 ((ps.drop at_).take k) := by
              obtain ⟨aov, capv, rfl⟩ := ownsRow_form hown
              exact ints_of_row (⟨hown.1, by
                rcases hown.2 with h | ⟨g, cap, cur, hv, hg, r⟩
                · exact .inl h
                · exact .inr ⟨g, cap, cur, hv, Nat.zero_le _, r⟩⟩) (fun n hn => P4.out n (List.mem_of_mem_drop (List.mem_of_mem_take hn))) (by simp; have := HPL.out; omega)
            have HCRC := hide (rcrash_any (hat3.dev j p S HMID.out) HSL.out HW.out u7 ((ps.drop at_).take k) hints (fun _ x hx hg => by
              have h1 := (hown.lt x hx).1
              have h2 := HA2.out.lt j x hg
              omega))
            have HA3 := hide hat3
            have HT3 : Hid (Turn F w wr) := HT2.out.trans (Turn.of_below (F := F) hbw) (fun _ _ h => h)
            have HSZ3 := hide hbw.size
            obtain ⟨aov, capv, rfl⟩ := ownsRow_form hown
            have HPRE : Hid (∀ (w3 : World), Rk w3 (ext (G' j) wr w3) p (crS S ((ps.drop at_).take k)) → Turn (G' j) wr w3 → (∃ pre2 G2, pre2.length = j + 1 ∧ RBkAt w3 (ext F w w3) b (pre2 ++ D.drop (j + 1)) q (.slice (some ⟨g, 0, none⟩) D.length cap) G2 ∧ Turn F w w3 ∧ pre2 ++ crD (D.drop (j + 1)) (ps.drop ak) = crD D ps)) := fun w3 hdk3 ht3 => by
              have hset := HA3.out.set HMID.out hdk3 ht3
              have z1 := HT.out.size
              have z2 := HSZ2.out
              have z3 := HSZ3.out
              have z4 := ht3.size
              refine ⟨pre ++ [some (p, crS S ((ps.drop at_).take k))], (fun i => if i = j then ext (G' j) wr w3 else G' i), by simp [HPR.out], ?_, HT3.out.trans (F1 := ext F w _) hset.2 (fun x hx h => ?_), ?_⟩
              · have := hset.1.mono (F' := ext F w w3) (fun x hx => by
                  rcases hx with (y | y) | y
                  · exact .inl y
                  · exact .inr ⟨y.1, by omega⟩
                  · exact .inr ⟨by omega, y.2⟩)
                rw [HDR.out, set_mid pre _ _ _ HPR.out] at this
                simpa using this
              · rcases h with y | y
                · exact y
                · omega
              · have := HCR2.out k HMN.out
                rw [HAK.out]
                simpa using this
            have HAKL := hide hakl
            generalize ((ps.drop at_).take k).length = ll at *
            clear hown hbw HOW HBW hat3 hints hgo hak
            have fin : ∀ (Q : Prop), Q → Q := fun _ h => h
            rcases hgo3 with e1 | ⟨e1, e2⟩
            · have e1' : decide ((k : Int) < (pn : Int)) = false := by simp at e1; simp; omega
              clear hgo2 fin
              go_wp2_with fail
              refine HCRC.out.mono ?_
              rintro e w3 ⟨rfl, hdk3, ht3⟩
              have HEND := hide (HPRE.out w3 hdk3 ht3)
              clear hdk3 ht3 HCRC HPRE
              go_wp2
              go_roundg m
              case measure => omega
              case rel =>
                obtain ⟨pre2, G2, e1, e2, e3, e4⟩ := HEND.out
                exact ⟨j + 1, pre2, ak, G2, by omega, by go_num, rfl, HAKL.out, e1, e2, e3, e4⟩
            · have e1' : decide ((k : Int) < (pn : Int)) = true := by simp at e1; simp; omega
              have e2' : decide ((ak : Int) < (ps.length : Int)) = false := by simp at e2; simp; omega
              clear hgo2 fin
              go_wp2_with fail
              refine HCRC.out.mono ?_
              rintro e w3 ⟨rfl, hdk3, ht3⟩
              have HEND := hide (HPRE.out w3 hdk3 ht3)
              clear hdk3 ht3 HCRC HPRE
              go_wp2
              go_roundg m
              case measure => omega
              case rel =>
                obtain ⟨pre2, G2, e1, e2, e3, e4⟩ := HEND.out
                exact ⟨j + 1, pre2, ak, G2, by omega, by go_num, rfl, HAKL.out, e1, e2, e3, e4⟩
end Go.Proofs.YtliboiajhhnajaaGreatDoor

/- The program's bank and the document's own: the same sectors give the same answers. -/
namespace Go.Proofs.YtliboiajhhnajaaGreatDoor
open Go.RowKit Go.Extern

def secsL (D : List Dev) : List (Option (List Sec)) := D.map fun d => d.map fun x => x.2
/-- The powers are alike; how far below nought the number is that is left does not matter. -/
def pwEq (q r : Pw) : Prop := q.down = r.down ∧ q.done = r.done ∧ (q.left = r.left ∨ (q.left < 0 ∧ r.left < 0))
section
variable {D E : List Dev} {q r : Pw}
theorem Sl.len (h : secsL D = secsL E) : D.length = E.length := by have := congrArg List.length h; simpa [secsL] using this
theorem Sl.at_ (h : secsL D = secsL E) (i : Nat) : (∃ p p' S, D[i]? = some (some (p, S)) ∧ E[i]? = some (some (p', S))) ∨ (D[i]? = some none ∧ E[i]? = some none) ∨ (D[i]? = none ∧ E[i]? = none) := by
  have := congrArg (fun l : List (Option (List Sec)) => l[i]?) h
  simp only [secsL, List.getElem?_map] at this
  cases hD : D[i]? with
  | none =>
    rw [hD] at this
    cases hE : E[i]? with
    | none => exact .inr (.inr ⟨rfl, rfl⟩)
    | some e => rw [hE] at this; cases this
  | some d =>
    rw [hD] at this
    cases hE : E[i]? with
    | none => rw [hE] at this; cases this
    | some e =>
      rw [hE] at this
      cases d with
      | none =>
        cases e with
        | none => exact .inr (.inl ⟨rfl, rfl⟩)
        | some e => simp at this
      | some d =>
        cases e with
        | none => simp at this
        | some e =>
          simp only [Option.map_some, Option.some.injEq] at this
          obtain ⟨p, S⟩ := d
          obtain ⟨p', S'⟩ := e
          simp only at this
          subst this
          exact .inl ⟨p, p', S, rfl, rfl⟩
theorem Sl.look (h : secsL D = secsL E) (i : Int) : lookC D i = lookC E i := by
  unfold lookC
  rw [Sl.len h]
  split
  · rcases Sl.at_ h i.toNat with ⟨p, p', S, h1, h2⟩ | ⟨h1, h2⟩ | ⟨h1, h2⟩
    · rw [h1, h2]
    · rw [h1, h2]
    · rw [h1, h2]
  · rfl
theorem Sl.secs (h : secsL D = secsL E) (i : Int) : secsOf D i = secsOf E i := by
  unfold secsOf
  rcases Sl.at_ h i.toNat with ⟨p, p', S, h1, h2⟩ | ⟨h1, h2⟩ | ⟨h1, h2⟩
  · rw [h1, h2]
  · rw [h1, h2]
  · rw [h1, h2]
theorem Sl.put (h : secsL D = secsL E) (i : Int) (S' : List Sec) : secsL (putDev D i S') = secsL (putDev E i S') := by
  unfold putDev
  rcases Sl.at_ h i.toNat with ⟨p, p', S, h1, h2⟩ | ⟨h1, h2⟩ | ⟨h1, h2⟩
  · rw [h1, h2]
    simp only
    unfold secsL at *
    rw [List.map_set, List.map_set, h]; rfl
  · rw [h1, h2]; exact h
  · rw [h1, h2]; exact h
theorem Sl.gone (h : secsL D = secsL E) (i : Nat) : secsL (D.set i none) = secsL (E.set i none) := by
  unfold secsL at *
  rw [List.map_set, List.map_set, h]
theorem Sl.add (h : secsL D = secsL E) (p p' : Nat) (S : List Sec) : secsL (D ++ [some (p, S)]) = secsL (E ++ [some (p', S)]) := by
  unfold secsL at *
  rw [List.map_append, List.map_append, h]; rfl
theorem Sl.lookP (h : secsL D = secsL E) (hp : pwEq q r) (i : Int) : lookP D q i = lookP E r i := by
  unfold Go.Proofs.YtliboiajhhnajaaGreatDoor.lookP
  rw [hp.1, Sl.look h]
theorem pwEq.zero (hp : pwEq q r) : q.left = 0 ↔ r.left = 0 := by
  rcases hp.2.2 with h | h
  · rw [h]
  · omega
theorem pwEq.spendC (hp : pwEq q r) : spendC q = spendC r := by
  unfold Go.Proofs.YtliboiajhhnajaaGreatDoor.spendC
  by_cases h : q.left = 0
  · rw [if_pos h, if_pos (hp.zero.1 h)]
  · rw [if_neg h, if_neg (fun x => h (hp.zero.2 x))]
theorem pwEq.spent (hp : pwEq q r) : pwEq (spent q) (spent r) := by
  unfold Go.Proofs.YtliboiajhhnajaaGreatDoor.spent
  by_cases h : q.left = 0
  · rw [if_pos h, if_pos (hp.zero.1 h)]
    exact ⟨rfl, hp.2.1, hp.2.2⟩
  · rw [if_neg h, if_neg (fun x => h (hp.zero.2 x))]
    refine ⟨hp.1, by simp [hp.2.1], ?_⟩
    simp only
    rcases hp.2.2 with e | e
    · rw [e]; exact .inl rfl
    · rw [if_neg (by omega), if_neg (by omega)]; exact .inr e
theorem Sl.bw (h : secsL D = secsL E) (hp : pwEq q r) (i s : Int) (d : List Nat) : bwC D q i s d = bwC E r i s d ∧ secsL (bwD D q i s d) = secsL (bwD E r i s d) ∧ pwEq (bwQ D q i s d) (bwQ E r i s d) := by
  have e1 : bwC D q i s d = bwC E r i s d := by unfold bwC; rw [Sl.lookP h hp, Sl.secs h, hp.spendC]
  refine ⟨e1, ?_, ?_⟩
  · unfold bwD
    rw [e1, Sl.secs h]
    split
    · exact Sl.put h _ _
    · exact h
  · unfold bwQ
    rw [Sl.lookP h hp, Sl.secs h]
    split
    · exact hp.spent
    · exact hp
theorem Sl.fl1 (h : secsL D = secsL E) (hp : pwEq q r) (i : Int) : fl1C D q i = fl1C E r i ∧ secsL (fl1D D q i) = secsL (fl1D E r i) ∧ pwEq (fl1Q D q i) (fl1Q E r i) := by
  have e1 : fl1C D q i = fl1C E r i := by unfold fl1C; rw [Sl.lookP h hp, hp.spendC]
  refine ⟨e1, ?_, ?_⟩
  · unfold fl1D
    rw [e1, Sl.secs h]
    split
    · exact Sl.put h _ _
    · exact h
  · unfold fl1Q
    rw [Sl.lookP h hp]
    split
    · exact hp.spent
    · exact hp
theorem Sl.grow (h : secsL D = secsL E) (hp : pwEq q r) (i n : Int) : bgC D q i n = bgC E r i n ∧ secsL (bgD D q i n) = secsL (bgD E r i n) := by
  unfold bgC bgD
  rw [Sl.lookP h hp, Sl.secs h]
  refine ⟨rfl, ?_⟩
  split
  · exact Sl.put h _ _
  · exact h
theorem Sl.detach (h : secsL D = secsL E) (hp : pwEq q r) (i : Int) : secsL (bdD D q i) = secsL (bdD E r i) := by
  unfold bdD
  rw [Sl.lookP h hp]
  split
  · exact Sl.gone h _
  · exact h
theorem Sl.bad (h : secsL D = secsL E) (i s : Int) (on : Bool) : bbC D q i s on = bbC E r i s on ∧ secsL (bbD D q i s on) = secsL (bbD E r i s on) := by
  unfold bbC bbD
  rw [Sl.look h, Sl.secs h]
  refine ⟨rfl, ?_⟩
  split
  · exact Sl.put h _ _
  · exact h
theorem Sl.fill (h : secsL D = secsL E) (i : Int) (d : List Nat) : bfC D q i d = bfC E r i d ∧ secsL (bfD D q i d) = secsL (bfD E r i d) := by
  unfold bfC bfD
  rw [Sl.look h, Sl.secs h]
  refine ⟨rfl, ?_⟩
  split
  · exact Sl.put h _ _
  · exact h
theorem Sl.read (h : secsL D = secsL E) (hp : pwEq q r) (i s : Int) : brC D q i s = brC E r i s ∧ brD D q i s = brD E r i s := by
  unfold brC brD
  rw [Sl.lookP h hp, Sl.secs h]; exact ⟨rfl, rfl⟩
theorem Sl.addC (h : secsL D = secsL E) (hp : pwEq q r) (n : Int) : addC D q n = addC E r n := by
  unfold Go.Proofs.YtliboiajhhnajaaGreatDoor.addC
  rw [hp.1, Sl.len h]
end
theorem Sl.flAll : ∀ (ns : List Int) {D E : List Dev} {q r : Pw}, secsL D = secsL E → pwEq q r → secsL (flAll D q ns).1 = secsL (flAll E r ns).1 ∧ pwEq (flAll D q ns).2.1 (flAll E r ns).2.1 ∧ (flAll D q ns).2.2 = (flAll E r ns).2.2
  | [], _, _, _, _, h, hp => ⟨h, hp, rfl⟩
  | i :: rest, D, E, q, r, h, hp => by
    have h1 := Sl.fl1 h hp i
    simp only [Go.Proofs.YtliboiajhhnajaaGreatDoor.flAll]
    rw [h1.1]
    split
    · exact Sl.flAll rest h1.2.1 h1.2.2
    · exact ⟨h1.2.1, h1.2.2, rfl⟩
theorem Sl.crD : ∀ (D E : List Dev) (ps : List Int), secsL D = secsL E → secsL (crD D ps) = secsL (crD E ps)
  | [], [], _, _ => rfl
  | [], e :: E, _, h => by simp [secsL] at h
  | d :: D, [], _, h => by simp [secsL] at h
  | d :: D, e :: E, ps, h => by
    have h1 : d.map (fun x => x.2) = e.map (fun x => x.2) := by have := congrArg List.head? h; simpa [secsL] using this
    have h2 : secsL D = secsL E := by have := congrArg List.tail h; simpa [secsL] using this
    cases d with
    | none =>
      cases e with
      | none =>
        have := Sl.crD D E ps h2
        simp only [Go.Proofs.YtliboiajhhnajaaGreatDoor.crD, secsL, List.map_cons] at *
        rw [this]
      | some e => simp at h1
    | some d =>
      cases e with
      | none => simp at h1
      | some e =>
        obtain ⟨p, S⟩ := d
        obtain ⟨p', S'⟩ := e
        simp only [Option.map_some, Option.some.injEq] at h1
        subst h1
        have := Sl.crD D E (ps.drop (pend S).length) h2
        simp only [Go.Proofs.YtliboiajhhnajaaGreatDoor.crD, secsL, List.map_cons] at *
        rw [this]; rfl
def waitS (o : Option (List Sec)) : Nat := match o with | some S => (pend S).length | none => 0
def lenS (o : Option (List Sec)) : Int := match o with | some S => (S.length : Int) | none => 0
theorem pendB_secs (D : List Dev) : pendB D = ((secsL D).map waitS).sum := by
  unfold pendB secsL
  rw [List.map_map]
  congr 1
  refine List.map_congr_left fun d _ => ?_
  cases d with
  | none => rfl
  | some d => rfl
theorem Sl.pendB {D E : List Dev} (h : secsL D = secsL E) : Go.Proofs.YtliboiajhhnajaaGreatDoor.pendB D = Go.Proofs.YtliboiajhhnajaaGreatDoor.pendB E := by rw [pendB_secs, pendB_secs, h]
theorem Sl.WlB {D E : List Dev} (h : secsL D = secsL E) {j : Nat} (hw : WlB D j) : Go.Proofs.YtliboiajhhnajaaGreatDoor.WlB E j := fun i p S hi s hs => by
  rcases Sl.at_ h i with ⟨p1, p2, S1, h1, h2⟩ | ⟨h1, h2⟩ | ⟨h1, h2⟩
  · rw [hi] at h2
    cases h2
    exact hw i p1 S h1 s hs
  · rw [hi] at h2; cases h2
  · rw [hi] at h2; cases h2
theorem Sl.SmB {D E : List Dev} (h : secsL D = secsL E) (hw : SmB D) : Go.Proofs.YtliboiajhhnajaaGreatDoor.SmB E := fun i p S hi => by
  rcases Sl.at_ h i with ⟨p1, p2, S1, h1, h2⟩ | ⟨h1, h2⟩ | ⟨h1, h2⟩
  · rw [hi] at h2
    cases h2
    exact hw i p1 S h1
  · rw [hi] at h2; cases h2
  · rw [hi] at h2; cases h2
end Go.Proofs.YtliboiajhhnajaaGreatDoor
