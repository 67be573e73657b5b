/- FrameParts walked: it answers true. -/
import Derived.Test.YtlgmfiboekmhkaaDoorPk
import Derived.Test.YtlgmfiboekmhkaaDoorBack
import Derived.BigQuiet
namespace Go.Proofs.YtlgmfiboekmhkaaDoor
open Go.RowKit Go.Extern

theorem infoBytes : (Tryd.prog.info? 23).map (fun i => (i.zero, i.size, i.bytes)) = some (some (.slice none 0 0), 1, 24) := by kernel_rfl

/-- 'v' is a slice of the parts 'ps' in a block of its own, from 'base' on; the parts lie in the world 'w0'. -/
def OwnP (w0 w : World) (base : Nat) (v : Value) (ps : List (List Nat)) : Prop :=
  ∃ xs : List Value, w.ownsRow base 23 1 v ps.length xs ∧ (∀ (i : Nat) p, ps[i]? = some p → ∃ ao n cap, xs[i]? = some (.slice ao n cap) ∧ Bytes w0 (.slice ao n cap) p)
theorem OwnP.parts {w0 w : World} {base : Nat} {v : Value} {ps : List (List Nat)} (h : OwnP w0 w base v ps) (hb : Below w0.heap.size w0 w) (hn : ps.length ≤ 140737488355328) : Parts w v ps := by
  obtain ⟨xs, ⟨h1, h2⟩, h3⟩ := h
  rcases h2 with ⟨rfl, h0⟩ | ⟨g, cap, cur, rfl, hg, hh, hc, hm, hs, ht⟩
  · have : ps = [] := List.length_eq_zero_iff.1 h0
    subst this
    exact ⟨none, 0, 0, 0, rfl, by simp, by simp, by simp⟩
  · refine ⟨_, cap, g, 0, rfl, fun _ => rfl, fun i p hp => ?_, hn⟩
    obtain ⟨ao, n, cp, hx, hbs⟩ := h3 i p hp
    refine ⟨_, ?_, hbs.below hb⟩
    have := (World.ownsRow.cells (w := w) (base := base) (e := 23) (size := 1) (v := .slice (some ⟨g, 0, none⟩) ps.length cap) (n := ps.length) (xs := xs) ⟨h1, .inr ⟨g, cap, cur, rfl, hg, hh, hc, hm, hs, ht⟩⟩ (g := g) rfl) i _ hx
    rw [add_plain] at this; exact this
theorem OwnP.nil (w0 w : World) (base : Nat) : OwnP w0 w base (.slice none 0 0) [] := ⟨[], World.ownsRow_nil _ _ _ _, by simp⟩
theorem OwnP.form {w0 w : World} {base : Nat} {v : Value} {ps : List (List Nat)} (h : OwnP w0 w base v ps) : ∃ ao n cap, v = .slice ao n cap := by
  obtain ⟨xs, ⟨h1, h2⟩, -⟩ := h
  rcases h2 with ⟨rfl, h0⟩ | ⟨g, cap, cur, rfl, hg, r⟩
  · exact ⟨none, 0, 0, rfl⟩
  · exact ⟨_, _, _, rfl⟩

/-- One part more, that lies in a new block. -/
theorem wpList_append_part {w0 wr : World} {ops : Array Oper} {rest : List Oper} {o : Oper} {a : Act} {Q : Exit → Act → World → Prop} {ap : Option Addr} {np cp : Nat} (hgd : o.guard = none) (s x : Operand)
    (ho : o.op = .call { callee := .builtin .append, args := #[s, x], argTypes := #[22, 22] })
    (base : Nat) (v u : Value) (ps : List (List Nat)) (p : List Nat) (hs : a.eval s = v) (hx : a.eval x = u) (hu : u = .slice (some ⟨wr.heap.size, 0, none⟩) 1 1)
    (hown : OwnP w0 wr base v ps) (hbel : Below base w0 wr) (hbase : base ≤ wr.heap.size) (hp : Bytes w0 (.slice ap np cp) p) (hn : ps.length + 1 ≤ 1000)
    (h : ∀ v' w', OwnP w0 w' base v' (ps ++ [p]) → Below base w0 w' → wpList Tryd.prog ops Q rest (a.put o.dst v') w') : wpList Tryd.prog ops Q (o :: rest) a (wr.alloc (.cells #[.slice ap np cp] 23)) := by
  obtain ⟨i0, hi, hi2⟩ := Option.map_eq_some_iff.1 infoBytes
  simp only [Prod.mk.injEq] at hi2
  obtain ⟨hz0, hz1, hz2⟩ := hi2
  obtain ⟨xs, hxs, hps⟩ := hown
  subst hu
  refine wpList_append_own_at _ hgd s x 22 ho base 23 i0 (.slice none 0 0) 1 24 Tryd.underlying22 hi hz0 hz1 hz2 rfl (by decide) v ps.length xs hs (hxs.alloc _) ⟨wr.heap.size, 0, none⟩ 1 1 [.slice ap np cp] hx rfl (cell_one_new wr _ _) (by simp [Value.oneCell']) (by unfold maxLen; omega) (by omega) (by simp; omega) ?_
  intro v' w' h1 h2 h3 h4
  refine h v' w' ⟨xs ++ [.slice ap np cp], by simpa using h1, fun i q hq => ?_⟩ ((hbel.alloc hbase _).grown h2 (by simp; omega) (fun k hk => (hxs.lt k hk).1))
  have hxl : xs.length = ps.length := by have := hxs.1; simpa using this
  rcases Nat.lt_or_ge i ps.length with hlt | hge
  · rw [List.getElem?_append_left hlt] at hq
    obtain ⟨ao, n, cap, e1, e2⟩ := hps i q hq
    exact ⟨ao, n, cap, by rw [List.getElem?_append_left (by omega)]; exact e1, e2⟩
  · rw [List.getElem?_append_right hge] at hq
    have hi0 : i - ps.length = 0 := by
      have := (List.getElem?_eq_some_iff.1 hq).1
      simp at this; omega
    rw [hi0] at hq
    obtain rfl : p = q := by simpa using hq
    exact ⟨ap, np, cp, by rw [List.getElem?_append_right (by omega), hxl, hi0]; rfl, hp⟩

theorem parts_three (w : World) (v : Value) (bs : List Nat) (hv : Bytes w v bs) : Parts (w.alloc (.cells #[.slice none 0 0, v, .slice none 0 0] 23)) (.slice (some ⟨w.heap.size, 0, none⟩) 3 3) [[], bs, []] := by
  refine ⟨_, 3, w.heap.size, 0, rfl, fun _ => rfl, fun i p hp => ?_, by simp⟩
  have hb : Below w.heap.size w (w.alloc (.cells #[.slice none 0 0, v, .slice none 0 0] 23)) := (Below.refl _ _).alloc (Nat.le_refl _) _
  match i, hp with
  | 0, hp =>
    obtain rfl : [] = p := by simpa using hp
    exact ⟨.slice none 0 0, by simp, Bytes.nil _⟩
  | 1, hp =>
    obtain rfl : bs = p := by simpa using hp
    exact ⟨v, by simp, hv.below hb⟩
  | 2, hp =>
    obtain rfl : [] = p := by simpa using hp
    exact ⟨.slice none 0 0, by simp, Bytes.nil _⟩

set_option maxRecDepth 100000 in
set_option maxHeartbeats 2000000 in
theorem parts_any (bs : List Nat) (ns : List Int) (at_ : Int) (c : Nat) (bv cv : Value) (w : World) (hL : Laid w) (hb : Bytes w bv bs) (hn : Ints w cv ns) (hc : c < 256) :
    Calls Tryd.prog 8 #[.agg #[bv, cv, .int .i64 at_, .int .u8 (c : Int)]] w fun e w' => e = .returned (.bool true) ∧ Below w.heap.size w w' := by
  have HBS := hide hb
  have HL := hide hL
  have HC := hide hc
  obtain ⟨ab, cb, gb, ob, rfl, -⟩ := hb
  obtain ⟨an, cn, gn, on, rfl, h2, h3, -, -⟩ := hn
  have H2 := hide h2
  have H3 := hide h3
  clear h2 h3 hL hc
  go_enter Tryd.func8, Tryd.ntmps8
  go_wp2
  go_quiet (fail)
  have hb0 : Below w.heap.size w ((w.alloc (.cells #[.slice ab bs.length cb, .slice an ns.length cn, .int .i64 at_, .int .u8 (c : Int)] 67)).drewN nq) := ((Below.refl _ _).alloc (Nat.le_refl _) _).trans ((below_drewN _ _).mono (by simp))
  have HB0 := hide hb0
  generalize hw0 : (w.alloc (.cells #[.slice ab bs.length cb, .slice an ns.length cn, .int .i64 at_, .int .u8 (c : Int)] 67)).drewN nq = w0 at *
  clear hw0 hb0
  have HAWK : Hid (∀ wz, Below w.heap.size w wz → Calls Tryd.prog 9 #[] wz fun ev w' => ev = .returned (.bool true) ∧ Below wz.heap.size wz w') := fun wz h => awake_any wz (HL.out.below h)
  by_cases hbig : 5000 < bs.length ∨ 100 < ns.length
  · by_cases h1 : 5000 < bs.length
    · have h1' : (5000 : Int) < (bs.length : Int) := by omega
      clear hbig
      go_wp2_with fail
      refine (HAWK.out _ HB0.out).mono ?_
      rintro e w' ⟨rfl, hb2⟩
      have HB2 := hide (HB0.out.trans (hb2.mono HB0.out.size))
      clear hb2
      go_wp2
      go_ret
      exact ⟨rfl, HB2.out⟩
    · have h1' : ¬ (5000 : Int) < (bs.length : Int) := by omega
      have h2' : (100 : Int) < (ns.length : Int) := by omega
      clear hbig
      go_wp2_with fail
      refine (HAWK.out _ HB0.out).mono ?_
      rintro e w' ⟨rfl, hb2⟩
      have HB2 := hide (HB0.out.trans (hb2.mono HB0.out.size))
      clear hb2
      go_wp2
      go_ret
      exact ⟨rfl, HB2.out⟩
  · have h1' : ¬ (5000 : Int) < (bs.length : Int) := by omega
    have h2' : ¬ (100 : Int) < (ns.length : Int) := by omega
    have hnl : ns.length ≤ 100 := by omega
    have hbl5 : bs.length ≤ 5000 := by omega
    clear hbig
    have HS0 := hide (sum_any [bs] _ _ (HL.out.below (HB0.out.alloc HB0.out.size (.cells #[.slice ab bs.length cb] 23))) (parts_one w0 _ _ (HBS.out.below HB0.out)))
    rw [show [bs].flatten = bs by simp] at HS0
    go_wp2_with fail
    refine HS0.out.mono ?_
    rintro e w1 ⟨rfl, rfl⟩
    have HB1 := hide (HB0.out.alloc HB0.out.size (.cells #[.slice ab bs.length cb] 23))
    clear HS0 HB0
    go_wp2
    go_loopg [8, 9, 35] ns.length (fun k pv fr i wr => ∃ j ps frm, j + k = ns.length ∧ i = .int .i64 (j : Int) ∧ fr = .int .i64 ((frm : Nat) : Int) ∧ OwnP w wr w.heap.size pv ps ∧ ps.length ≤ j ∧ ps.flatten = bs.take frm ∧ frm ≤ bs.length ∧ Below w.heap.size w wr)
    case atStart => exact ⟨0, [], 0, by omega, rfl, rfl, OwnP.nil _ _ _, by simp, by simp, by omega, HB1.out⟩
    case round =>
      clear HB1
      obtain ⟨j, ps, frm, hj, rfl, rfl, hop, hpl, hfl, hfr, hbl⟩ := hrel
      have HOP := hide hop
      have HPL := hide hpl
      have HFL := hide hfl
      have HBL := hide hbl
      obtain ⟨a8, n8, c8, rfl⟩ := hop.form
      clear hop hpl hfl hbl
      cases gk with
      | zero =>
        have hend : ¬ (j : Int) < (ns.length : Int) := by omega
        obtain ⟨aE, nE, cE, cutE, HE⟩ := cut_from w _ bs frm HBS.out hfr
        have HN1 : Hid (ps.length + 1 ≤ 1000) := by show _ ≤ _; have := HPL.out; omega
        clear hj
        go_wp2_with (at_builtin; refine wpList_append_part rfl _ _ rfl w.heap.size _ _ ps (bs.drop frm) rfl rfl (by rfl) HOP.out HBL.out HBL.out.size HE.out HN1.out ?_)
        intro v2 w2 ho2 hb2
        have HB2 := hide hb2
        have hfl2 : (ps ++ [bs.drop frm]).flatten = bs := by rw [List.flatten_append, HFL.out]; simp
        have HS2 := hide (sum_any _ _ w2 (HL.out.below hb2) (ho2.parts hb2 (by have := HN1.out; simp; omega)))
        rw [hfl2] at HS2
        have HS3 := hide (sum_any [[], bs, []] _ _ (HL.out.below (hb2.alloc hb2.size (.cells #[.slice none 0 0, .slice ab bs.length cb, .slice none 0 0] 23))) (parts_three w2 _ bs (HBS.out.below hb2)))
        rw [show [[], bs, []].flatten = bs by simp] at HS3
        have HB3 := hide (hb2.alloc hb2.size (.cells #[.slice none 0 0, .slice ab bs.length cb, .slice none 0 0] 23))
        obtain ⟨a9, n9, c9, rfl⟩ := ho2.form
        have HCRC : Hid (∀ (i a b : Nat), bs[i]? = some a → b < 256 → a ≠ b → crc (bs.set i b) ≠ crc bs) := fun i a b h1 h2 h3 => crc_set h1 HBS.out.lt h2 h3
        generalize crc bs = s0 at *
        have hne : ((s0 : Int) != (s0 : Int)) = false := by simp
        clear ho2 hb2 hfl2 HOP HPL HFL HBL cutE HE HN1
        go_wp2_with fail
        refine HS2.out.mono ?_
        rintro e wq ⟨rfl, rfl⟩
        go_wp2_with fail
        refine HS3.out.mono ?_
        rintro e wq ⟨rfl, rfl⟩
        clear HS2 HS3 HB2
        by_cases hin : 0 ≤ at_ ∧ at_ < (bs.length : Int) ∧ c ≠ 0
        · obtain ⟨i1, i2, i3⟩ := hin
          obtain ⟨i, rfl⟩ : ∃ i : Nat, at_ = (i : Int) := ⟨at_.toNat, by omega⟩
          have z0 : decide ((i : Int) < 0) = false := by simp
          have z1 : decide ((bs.length : Int) ≤ (i : Int)) = false := by simp; omega
          have z1' : decide (bs.length ≤ i) = false := by simp; omega
          have z2 : ((c : Int) == 0) = false := by simp; omega
          have HCP := hide (copy_any bs _ _ (HBS.out.below HB3.out))
          go_wp2_with fail
          refine HCP.out.mono ?_
          rintro e w4 ⟨u4, rfl, ho4, hb4⟩
          have HB4 := hide (HB3.out.trans (hb4.mono HB3.out.size))
          obtain ⟨g4, c4, hu4, hg4, -⟩ := ho4.1.form (by omega)
          subst hu4
          have HGB : Hid (w.heap.size ≤ g4) := Nat.le_trans HB3.out.size hg4
          obtain ⟨a, ha⟩ : ∃ a, bs[i]? = some a := ⟨bs[i]'(by omega), by simp⟩
          have ha256 : a < 256 := HBS.out.lt a (List.mem_of_getElem? ha)
          have k4 := ho4.1.cellAt i (by omega)
          rw [cellsB_get ha] at k4
          have f4 := ho4.1.frozenAt i
          have hx := u8_xor_nat a c ha256 HC.out
          have hx256 : a ^^^ c < 256 := Nat.xor_lt_two_pow (n := 8) ha256 HC.out
          have hxne : a ≠ a ^^^ c := by
            intro e
            have h1 : a ^^^ 0 = a ^^^ c := by rw [Nat.xor_zero]; exact e
            have := xor_cancel_l h1
            omega
          have hb5 : Own _ _ _ _ := ho4
          have hne2 := HCRC.out i a (a ^^^ c) ha hx256 hxne
          have HO5 : Hid (∀ y, y = a ^^^ c → Bytes (w4.setCell ⟨g4, i, none⟩ (.int .u8 (y : Int))) (.slice (some ⟨g4, 0, none⟩) bs.length c4) (bs.set i y)) := fun y hy => by
            subst hy
            exact (Own.set ho4 (by omega) hx256).bytes
          have HNE : Hid (∀ y, y = a ^^^ c → crc (bs.set i y) ≠ s0) := fun y hy => by subst hy; exact hne2
          generalize hy : a ^^^ c = y at hx
          have HB5 := hide (HB4.out.setCell (p := ⟨g4, i, none⟩) HGB.out (.int .u8 (y : Int)))
          have HS6 := hide (sum_any [bs.set i y] _ _ (HL.out.below (HB5.out.alloc HB5.out.size (.cells #[.slice (some ⟨g4, 0, none⟩) bs.length c4] 23))) (parts_one _ _ _ (HO5.out y hy.symm)))
          rw [show [bs.set i y].flatten = bs.set i y by simp, show (w4.setCell ⟨g4, i, none⟩ (.int .u8 (y : Int))).heap.size = w4.heap.size by simp [World.setCell]] at HS6
          have hne3 := HNE.out y hy.symm
          generalize crc (bs.set i y) = s1 at *
          have hnn : ((s1 : Int) != (s0 : Int)) = true := by simp; omega
          have HB6 := hide (HB5.out.alloc HB5.out.size (.cells #[.slice (some ⟨g4, 0, none⟩) bs.length c4] 23))
          have i0 : (0 : Int) ≤ (i : Int) := by omega
          clear ho4 hb4 hg4 ha hb5 hne2 HO5 HNE hy HCP hx256 hxne hne3 i1 i3 HCRC
          go_wp2_with fail
          refine HS6.out.mono ?_
          rintro e wq ⟨rfl, rfl⟩
          go_wp2_with fail
          refine (HAWK.out _ HB6.out).mono ?_
          rintro e w7 ⟨rfl, hb7⟩
          have HB7 := hide (HB6.out.trans (hb7.mono HB6.out.size))
          clear hb7
          go_wp2
          go_ret
          exact ⟨rfl, HB7.out⟩
        · by_cases hneg : at_ < 0
          · have z0 : decide (at_ < 0) = true := by simpa using hneg
            clear hin
            go_wp2_with fail
            refine (HAWK.out _ HB3.out).mono ?_
            rintro e w7 ⟨rfl, hb7⟩
            have HB7 := hide (HB3.out.trans (hb7.mono HB3.out.size))
            clear hb7
            go_wp2
            go_ret
            exact ⟨rfl, HB7.out⟩
          · obtain ⟨i, rfl⟩ : ∃ i : Nat, at_ = (i : Int) := ⟨at_.toNat, by omega⟩
            have z0 : decide ((i : Int) < 0) = false := by simp
            by_cases hge : bs.length ≤ i
            · have z1 : decide ((bs.length : Int) ≤ (i : Int)) = true := by simp; omega
              have z1' : decide (bs.length ≤ i) = true := by simp; omega
              clear hin hneg
              go_wp2_with fail
              refine (HAWK.out _ HB3.out).mono ?_
              rintro e w7 ⟨rfl, hb7⟩
              have HB7 := hide (HB3.out.trans (hb7.mono HB3.out.size))
              clear hb7
              go_wp2
              go_ret
              exact ⟨rfl, HB7.out⟩
            · have z1 : decide ((bs.length : Int) ≤ (i : Int)) = false := by simp; omega
              have z1' : decide (bs.length ≤ i) = false := by simp; omega
              obtain rfl : c = 0 := by omega
              clear hin hneg
              go_wp2_with fail
              refine (HAWK.out _ HB3.out).mono ?_
              rintro e w7 ⟨rfl, hb7⟩
              have HB7 := hide (HB3.out.trans (hb7.mono HB3.out.size))
              clear hb7
              go_wp2
              go_ret
              exact ⟨rfl, HB7.out⟩
      | succ m =>
        have hjl : j < ns.length := by omega
        have hlt : (j : Int) < (ns.length : Int) := by omega
        have hb0 : (0 : Int) ≤ (j : Int) := by omega
        obtain ⟨z, hz⟩ : ∃ z, ns[j]? = some z := ⟨ns[j], by simp [hjl]⟩
        obtain rfl := H2.out (by omega)
        have k1 : wr.cell? ⟨gn, on + j, none⟩ = some (.int .i64 z) := by
          have := H3.out j z hz
          rw [HBL.out.cell (cell_lt this)]; exact this
        clear hz
        by_cases hin : (frm : Int) ≤ z ∧ z ≤ (bs.length : Int)
        · obtain ⟨t, rfl⟩ : ∃ t : Nat, z = (t : Int) := ⟨z.toNat, by omega⟩
          have t1 : frm ≤ t := by omega
          have t2 : t ≤ bs.length := by omega
          obtain ⟨aE, nE, cE, cutE, HE⟩ := cut_both w _ bs frm t HBS.out t1 t2
          have HN1 : Hid (ps.length + 1 ≤ 1000) := by show _ ≤ _; have := HPL.out; omega
          have d1 : decide ((frm : Int) ≤ (t : Int)) = true := by simp; omega
          have d1' : decide (frm ≤ t) = true := by simp; omega
          have d2 : decide ((t : Int) ≤ (bs.length : Int)) = true := by simp; omega
          have d2' : decide (t ≤ bs.length) = true := by simp; omega
          have HF2 : Hid ((ps ++ [(bs.drop frm).take (t - frm)]).flatten = bs.take t) := by
            show _ = _
            rw [List.flatten_append, HFL.out]
            simp only [List.flatten_cons, List.flatten_nil, List.append_nil]
            rw [← List.take_add]; congr 1; omega
          have HT := hide (And.intro t1 t2)
          clear hin t1 t2
          go_wp2_with (at_builtin; refine wpList_append_part rfl _ _ rfl w.heap.size _ _ ps ((bs.drop frm).take (t - frm)) rfl rfl (by rfl) HOP.out HBL.out HBL.out.size HE.out HN1.out ?_)
          intro v2 w2 ho2 hb2
          have HO2 := hide ho2
          have HB2 := hide hb2
          obtain ⟨a9, n9, c9, rfl⟩ := ho2.form
          clear ho2 hb2
          go_wp2
          go_roundg m
          case measure => omega
          case rel => exact ⟨j + 1, _, t, by omega, by go_num, rfl, HO2.out, by have := HPL.out; simp; omega, HF2.out, HT.out.2, HB2.out⟩
        · by_cases h1 : (frm : Int) ≤ z
          · have d1 : decide ((frm : Int) ≤ z) = true := by simpa using h1
            have d2 : decide (z ≤ (bs.length : Int)) = false := by simp; omega
            have HH := hide h1
            clear hin h1
            go_wp2
            go_roundg m
            case measure => omega
            case rel => exact ⟨j + 1, ps, frm, by omega, by go_num, rfl, HOP.out, by have := HPL.out; omega, HFL.out, hfr, HBL.out⟩
          · have d1 : decide ((frm : Int) ≤ z) = false := by simpa using h1
            clear hin h1
            go_wp2
            go_roundg m
            case measure => omega
            case rel => exact ⟨j + 1, ps, frm, by omega, by go_num, rfl, HOP.out, by have := HPL.out; omega, HFL.out, hfr, HBL.out⟩
end Go.Proofs.YtlgmfiboekmhkaaDoor
