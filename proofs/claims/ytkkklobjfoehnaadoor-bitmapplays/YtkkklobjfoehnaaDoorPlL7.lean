/- The law BitmapPlays. -/
import Derived.Test.YtkkklobjfoehnaaDoorPl0
namespace Go.Proofs.YtkkklobjfoehnaaDoor
open Go.RowKit Go.Extern

/-- One call of a script in a variable. -/
structure Box (ob : Nat) (kd nn : Int) (nv : Value) (wx : World) : Prop where
  c0 : wx.cell? ⟨ob, 0, none⟩ = some (.int .i64 kd)
  c1 : wx.cell? ⟨ob, 1, none⟩ = some (.int .i64 nn)
  c2 : wx.cell? ⟨ob, 2, none⟩ = some nv
theorem Box.below {ob : Nat} {kd nn : Int} {nv : Value} {wx wy : World} (h : Box ob kd nn nv wx) (hb : Below wx.heap.size wx wy) : Box ob kd nn nv wy :=
  ⟨by rw [hb.cell (cell_lt h.c0)]; exact h.c0, by rw [hb.cell (cell_lt h.c1)]; exact h.c1, by rw [hb.cell (cell_lt h.c2)]; exact h.c2⟩
theorem Box.turn {ob : Nat} {kd nn : Int} {nv : Value} {wx wy : World} {F : Nat → Prop} (h : Box ob kd nn nv wx) (ht : Turn F wx wy) (hF : ∀ k, F k → k < ob) : Box ob kd nn nv wy := by
  have hb := ht.block ob (cell_lt h.c0) (fun e => by have := hF ob e; omega)
  exact ⟨by rw [World.cell?_of_block (w := wx) hb]; exact h.c0, by rw [World.cell?_of_block (w := wx) hb]; exact h.c1, by rw [World.cell?_of_block (w := wx) hb]; exact h.c2⟩
theorem Box.start (wr : World) (kd nn : Int) (nv : Value) : Box wr.heap.size kd nn nv (wr.alloc (.cells #[.int .i64 kd, .int .i64 nn, nv] 33)) :=
  ⟨by rw [cell_of_row _ _ _ _ _ _ (heap_alloc_new wr _)]; rfl, by rw [cell_of_row _ _ _ _ _ _ (heap_alloc_new wr _)]; rfl, by rw [cell_of_row _ _ _ _ _ _ (heap_alloc_new wr _)]; rfl⟩
theorem is00 (w : World) : Calls Tryd.prog 7 #[.nilIface, .int .i64 0] w fun e w' => e = .returned (.bool true) ∧ w' = w := by
  have := is_any 0 0 w
  rw [errV_zero] at this
  exact this
theorem is20 (w : World) : Calls Tryd.prog 7 #[.iface 55 (.int .i64 20), .int .i64 20] w fun e w' => e = .returned (.bool true) ∧ w' = w := is_any 20 20 w

set_option maxRecDepth 100000 in
set_option maxHeartbeats 8000000 in
theorem plays_near (k : Nat) (fr : Int) (ops : List OpR) (v : Value) (w : World) (hv : Script w v ops) (hT : Tab w) (hk : k ≤ 300) (hn : ops.length ≤ 100) :
    Calls Tryd.prog 3 #[.int .i64 (k : Int), v, .int .i64 fr] w fun e w' => e = .returned (.bool true) ∧ Below w.heap.size w w' := by
  have HN := hide (new_ok k (by omega) w)
  have HT := hide hT
  obtain ⟨ao, cap, g0, off, rfl, h2, h3⟩ := hv
  have H2 := hide h2
  have H3 := hide h3
  have d0 : decide ((k : Int) < 0) = false := by simp
  have d1 : decide (4096 < (k : Int)) = false := by simp; omega
  have d2 : decide (300 < (k : Int)) = false := by simp; omega
  have d3 : decide (100 < (ops.length : Int)) = false := by simp; omega
  have HOL := hide hn
  clear h2 h3 hT hn
  go_enter Tryd.func3, Tryd.ntmps3
  go_wp2_with fail
  refine HN.out.mono ?_
  rintro e w1 ⟨b, rfl, hf⟩
  obtain ⟨w2, hmk, hob, hb2⟩ := make_bools w1 k (by omega)
  have HP : Hid (PS w (newF w w1) b (.slice (some ⟨w1.heap.size, 0, none⟩) k k) (List.replicate k false) (List.replicate k false) w2) := hide ⟨hf.bm.below hb2, ownsRow_base hob hf.bel.size, fun q hq => ⟨hq.1, Nat.lt_of_lt_of_le hq.2 hb2.size⟩, fun q hq hF => by
      simp only [Value.ownBlock, Option.some.injEq] at hq
      have := hF.2; omega, below_next hf.bel hb2⟩
  clear hf hob hb2 HN
  go_wp2_with (first | ((with_reducible refine wpList_make rfl rfl hmk ?_ ?_ ?_); rfl; rfl))
  go_loopg [7, 9, 62] ops.length (fun c mv lv iv wr => ∃ (j b : Nat) (F : Nat → Prop) (l : List Bool), j + c = ops.length ∧ iv = .int .i64 (j : Int) ∧ mv = .pointer (some ⟨b, 0, none⟩) ∧ Hid (PS w F b lv l l wr))
  case atStart => exact ⟨0, b, newF w w1, List.replicate k false, by omega, rfl, rfl, HP⟩
  case round =>
    clear HP hmk
    obtain ⟨j, b, F, l, hj, rfl, rfl, HP⟩ := hrel
    cases gk with
    | zero =>
      have hnl : ¬ (j : Int) < (ops.length : Int) := by omega
      clear hj
      have HL4 := hide HP.out.bm.len
      obtain ⟨aov, capv, elv⟩ := HP.out.own.form
      subst elv
      go_wp2_with fail
      go_loopg [15] (l.length + 2) (fun c iv wx => ∃ q : Nat, q + c = l.length + 2 ∧ iv = .int .i64 ((q : Int) - 1) ∧ Hid (PS w F b (.slice aov l.length capv) l l wx))
      case atStart => exact ⟨0, by omega, rfl, HP⟩
      case round =>
        obtain ⟨q, hq, rfl, HQ⟩ := hrel
        cases gk with
        | zero =>
          have hnl2 : ¬ ((q : Int) - 1 ≤ (l.length : Int)) := by omega
          have d9 : decide ((q : Int) - 1 ≤ (l.length : Int)) = false := by simpa using hnl2
          have HTQ := hide (HT.out.below HQ.out.bel HT.out.lt)
          have HF1 := hide (free_any HQ.out.bm fr HTQ.out)
          have HF2 := hide (rfind_any HQ.out.own HL4.out fr false)
          have HF3 := hide (next_any HQ.out.bm fr HTQ.out)
          have HF4 := hide (rfind_any HQ.out.own HL4.out fr true)
          obtain ⟨ka, qa, ea⟩ := foundV_form (firstS l fr.toNat false)
          obtain ⟨kb, qb, eb⟩ := foundV_form (firstS l fr.toNat true)
          rw [ea] at HF1 HF2
          rw [eb] at HF3 HF4
          clear ea eb hq
          go_wp2_with fail
          refine HF1.out.mono ?_
          rintro e wa ⟨rfl, rfl⟩
          go_wp2_with fail
          refine HF2.out.mono ?_
          rintro e wa2 ⟨rfl, rfl⟩
          go_wp2_with fail
          refine HF3.out.mono ?_
          rintro e wa3 ⟨rfl, rfl⟩
          go_wp2_with fail
          refine HF4.out.mono ?_
          rintro e wa4 ⟨rfl, rfl⟩
          have x1 : (ka == ka) = true := by simp
          have x2 : (qa == qa) = true := by simp
          have x3 : (kb == kb) = true := by simp
          have x4 : (qb == qb) = true := by simp
          go_wp2_with fail
          refine (holds_any HQ.out.bm HQ.out.own HTQ.out).mono ?_
          rintro e wh ⟨rfl, hbh⟩
          have HPH := hide (HQ.out.below hbh)
          clear hbh
          go_wp2_with fail
          refine (awake_any _).mono ?_
          rintro e wz ⟨rfl, hb⟩
          have HBZ := hide (below_next HPH.out.bel hb)
          clear hb
          go_wp2
          go_ret
          exact ⟨rfl, HBZ.out⟩
        | succ c =>
          have hnl2 : (q : Int) - 1 ≤ (l.length : Int) := by omega
          have d9 : decide ((q : Int) - 1 ≤ (l.length : Int)) = true := by simpa using hnl2
          cases q with
          | zero =>
            rw [show (((0 : Nat) : Int) - 1) = -1 from rfl] at *
            have HHA := hide (has_any HQ.out.bm (-1))
            rw [show hasS l (-1) = false from by unfold hasS; simp] at HHA
            go_wp2_with fail
            refine HHA.out.mono ?_
            rintro e wa ⟨rfl, hba⟩
            have HQA := hide (HQ.out.below hba)
            clear hba
            go_wp2
            go_roundg c
            case measure => omega
            case rel => exact ⟨1, by omega, rfl, HQA⟩
          | succ p =>
            have ep : (((p + 1 : Nat) : Int) - 1) = (p : Int) := by omega
            rw [ep] at d9 hnl2 ⊢
            have x0 : decide ((0 : Int) ≤ (p : Int)) = true := by simp
            have e2 : IntKind.i64.wrap ((p : Int) + 1) = (p : Int) + 1 := IntWalk.i64_in _ ⟨by omega, by have := HL4.out; omega⟩
            have HHA := hide (has_any HQ.out.bm (p : Int))
            rw [hasS_nat] at HHA
            by_cases hp : p < l.length
            · have hpi : (p : Int) < (l.length : Int) := by omega
              have hp0 : (0 : Int) ≤ (p : Int) := by omega
              obtain ⟨x, hx⟩ : ∃ x, l[p]? = some x := ⟨l[p], by simp [hp]⟩
              have hgd : l.getD p false = x := by simp [List.getD, hx]
              rw [hgd] at HHA
              have HXX := hide hx
              clear hx hgd hp ep
              go_wp2_with fail
              refine HHA.out.mono ?_
              rintro e wa ⟨rfl, hba⟩
              have HQA := hide (HQ.out.below hba)
              obtain ⟨g, cap2, hv, cx⟩ := HQA.out.own.at HXX.out
              obtain ⟨rfl, rfl⟩ : aov = some ⟨g, 0, none⟩ ∧ capv = cap2 := by simpa using hv
              clear hba hv
              cases x with
              | true =>
                go_wp2
                go_roundg c
                case measure => omega
                case rel => exact ⟨p + 2, by omega, by congr 1; omega, HQA⟩
              | false =>
                go_wp2
                go_roundg c
                case measure => omega
                case rel => exact ⟨p + 2, by omega, by congr 1; omega, HQA⟩
            · have hpi : ¬ (p : Int) < (l.length : Int) := by omega
              have hgd : l.getD p false = false := by simp [List.getD, List.getElem?_eq_none (by omega : l.length ≤ p)]
              rw [hgd] at HHA
              clear hgd hp ep
              go_wp2_with fail
              refine HHA.out.mono ?_
              rintro e wa ⟨rfl, hba⟩
              have HQA := hide (HQ.out.below hba)
              clear hba
              go_wp2
              go_roundg c
              case measure => omega
              case rel => exact ⟨p + 2, by omega, by congr 1; omega, HQA⟩
    | succ c =>
      have hlt : j < ops.length := by omega
      have hnl : (j : Int) < (ops.length : Int) := by omega
      obtain ⟨o, ho⟩ : ∃ o, ops[j]? = some o := ⟨ops[j], by simp [hlt]⟩
      obtain rfl := H2.out (by omega)
      obtain ⟨o0, o1, o2, o3, o4⟩ := H3.out j o ho
      obtain ⟨kd, nn, nv, nums⟩ := o
      simp only at o0 o1 o2 o3 o4
      have p0 : wr.cell? ⟨g0, off + j * 3, none⟩ = some (.int .i64 kd) := by rw [HP.out.bel.cell (cell_lt o0)]; exact o0
      have p1 : wr.cell? ⟨g0, off + j * 3 + 1, none⟩ = some (.int .i64 nn) := by rw [HP.out.bel.cell (cell_lt o1)]; exact o1
      have p2 : wr.cell? ⟨g0, off + j * 3 + 2, none⟩ = some nv := by rw [HP.out.bel.cell (cell_lt o2)]; exact o2
      have ej : IntKind.i64.wrap ((j : Int) + 1) = (j : Int) + 1 := IntWalk.i64_in _ ⟨by omega, by have := HOL.out; omega⟩
      have hge : (0 : Int) ≤ (j : Int) := by omega
      have HNV := hide o3
      have HNI := hide o3.2
      have hb1 := bel_alloc wr (.cells #[.int .i64 kd, .int .i64 nn, nv] 33)
      have HP1 := hide (HP.out.below hb1)
      have HX1 := hide (Box.start wr kd nn nv)
      have HL4 := hide HP.out.bm.len
      have HFB : Hid (∀ q, F q → q < wr.heap.size) := hide fun q hq => (HP.out.fr q hq).2
      obtain ⟨aov, capv, elv⟩ := HP.out.own.form
      subst elv
      obtain ⟨aon, capn, env⟩ := o3.form
      subst env
      clear hlt ho o0 o1 o2 o3 hb1
      by_cases h300 : 300 < nums.length
      · have d4 : decide (300 < (nums.length : Int)) = true := by simp; omega
        clear h300
        go_wp2_with fail
        refine (awake_any _).mono ?_
        rintro e wz ⟨rfl, hb⟩
        have HBZ := hide (below_next HP1.out.bel hb)
        clear hb
        go_wp2
        go_ret
        exact ⟨rfl, HBZ.out⟩
      · have d4 : decide (300 < (nums.length : Int)) = false := by simp; omega
        have HNL : Hid (nums.length ≤ 300) := hide (by omega)
        obtain ⟨v', w2, hrun, hown, hb2⟩ := copy_ints (wr.alloc (.cells #[.int .i64 kd, .int .i64 nn, .slice aon nums.length capn] 33)) _ nums (HNV.out.below HP1.out.bel) (by omega)
        simp only [World.size_alloc] at hrun
        have HO2 := hide hown
        have HP2 := hide (HP1.out.below hb2)
        have HX2 := hide (HX1.out.below hb2)
        have HI2 := hide (HNV.out.below HP2.out.bel)
        obtain ⟨aoi, capi, ei⟩ := hown.form
        subst ei
        clear hown hb2 h300
        by_cases k3 : kd = 3
        · have e1 : (kd == 1) = false := by simp [k3]
          have e2 : (kd == 2) = false := by simp [k3]
          have e3 : (kd == 3) = true := by simp [k3]
          clear k3
          have e9 : IntKind.i64.wrap (4096 - (l.length : Int)) = 4096 - (l.length : Int) := IntWalk.i64_in _ ⟨by have := HL4.out; omega, by have := HL4.out; omega⟩
          by_cases n1 : 100 < nn
          · have d5 : decide (100 < nn) = true := by simpa using n1
            by_cases n2 : nn ≤ 4096
            · have d6 : decide (nn ≤ 4096) = true := by simpa using n2
              clear n1 n2
              go_wp2_with fail
              refine (awake_any _).mono ?_
              rintro e wz ⟨rfl, hb⟩
              have HBZ := hide (below_next HP1.out.bel hb)
              clear hb
              go_wp2
              go_ret
              exact ⟨rfl, HBZ.out⟩
            · have d6 : decide (nn ≤ 4096) = false := by simpa using n2
              have d7 : decide (nn < 0) = false := by simp; omega
              have d8 : decide (4096 - (l.length : Int) < nn) = true := by simp; omega
              have HGB : Hid (growB l nn = false) := hide (by unfold growB; simp; omega)
              clear n1 n2
              have c0 := HX2.out.c0
              have c1 := HX2.out.c1
              have c2 := HX2.out.c2
              go_wp2_with (at_builtin; (with_reducible refine wpList_appendT rfl rfl hrun ?_ ?_ ?_ ?_); rfl; rfl; rfl)
              refine (rin_any HP2.out.own HI2.out).mono ?_
              rintro e w3 ⟨rfl, rfl⟩
              cases hall : nums.all (inB l) with
              | true =>
                clear hall
                go_wp2_with fail
                refine (grow_bad HP2.out.bm nn HGB.out).mono ?_
                rintro e w4 ⟨rfl, rfl⟩
                rw [show errV 20 = .iface 55 (.int .i64 20) from rfl]
                go_wp2_with fail
                refine (is20 _).mono ?_
                rintro e w5 ⟨rfl, rfl⟩
                go_wp2
                go_roundg c
                case measure => omega
                case rel => exact ⟨j + 1, b, F, l, by omega, by go_num, rfl, HP2⟩
              | false =>
                clear hall
                go_wp2_with fail
                refine (grow_bad HP2.out.bm nn HGB.out).mono ?_
                rintro e w4 ⟨rfl, rfl⟩
                rw [show errV 20 = .iface 55 (.int .i64 20) from rfl]
                go_wp2_with fail
                refine (is20 _).mono ?_
                rintro e w5 ⟨rfl, rfl⟩
                go_wp2
                go_roundg c
                case measure => omega
                case rel => exact ⟨j + 1, b, F, l, by omega, by go_num, rfl, HP2⟩
          · have d5 : decide (100 < nn) = false := by simpa using n1
            by_cases n2 : nn < 0
            · have d7 : decide (nn < 0) = true := by simpa using n2
              have HGB : Hid (growB l nn = false) := hide (by unfold growB; simp; omega)
              clear n1 n2
              have c0 := HX2.out.c0
              have c1 := HX2.out.c1
              have c2 := HX2.out.c2
              go_wp2_with (at_builtin; (with_reducible refine wpList_appendT rfl rfl hrun ?_ ?_ ?_ ?_); rfl; rfl; rfl)
              refine (rin_any HP2.out.own HI2.out).mono ?_
              rintro e w3 ⟨rfl, rfl⟩
              cases hall : nums.all (inB l) with
              | true =>
                clear hall
                go_wp2_with fail
                refine (grow_bad HP2.out.bm nn HGB.out).mono ?_
                rintro e w4 ⟨rfl, rfl⟩
                rw [show errV 20 = .iface 55 (.int .i64 20) from rfl]
                go_wp2_with fail
                refine (is20 _).mono ?_
                rintro e w5 ⟨rfl, rfl⟩
                go_wp2
                go_roundg c
                case measure => omega
                case rel => exact ⟨j + 1, b, F, l, by omega, by go_num, rfl, HP2⟩
              | false =>
                clear hall
                go_wp2_with fail
                refine (grow_bad HP2.out.bm nn HGB.out).mono ?_
                rintro e w4 ⟨rfl, rfl⟩
                rw [show errV 20 = .iface 55 (.int .i64 20) from rfl]
                go_wp2_with fail
                refine (is20 _).mono ?_
                rintro e w5 ⟨rfl, rfl⟩
                go_wp2
                go_roundg c
                case measure => omega
                case rel => exact ⟨j + 1, b, F, l, by omega, by go_num, rfl, HP2⟩
            · have d7 : decide (nn < 0) = false := by simpa using n2
              by_cases n3 : 4096 - (l.length : Int) < nn
              · have d8 : decide (4096 - (l.length : Int) < nn) = true := by simpa using n3
                have HGB : Hid (growB l nn = false) := hide (by unfold growB; simp; omega)
                clear n1 n2 n3
                have c0 := HX2.out.c0
                have c1 := HX2.out.c1
                have c2 := HX2.out.c2
                go_wp2_with (at_builtin; (with_reducible refine wpList_appendT rfl rfl hrun ?_ ?_ ?_ ?_); rfl; rfl; rfl)
                refine (rin_any HP2.out.own HI2.out).mono ?_
                rintro e w3 ⟨rfl, rfl⟩
                cases hall : nums.all (inB l) with
                | true =>
                  clear hall
                  go_wp2_with fail
                  refine (grow_bad HP2.out.bm nn HGB.out).mono ?_
                  rintro e w4 ⟨rfl, rfl⟩
                  rw [show errV 20 = .iface 55 (.int .i64 20) from rfl]
                  go_wp2_with fail
                  refine (is20 _).mono ?_
                  rintro e w5 ⟨rfl, rfl⟩
                  go_wp2
                  go_roundg c
                  case measure => omega
                  case rel => exact ⟨j + 1, b, F, l, by omega, by go_num, rfl, HP2⟩
                | false =>
                  clear hall
                  go_wp2_with fail
                  refine (grow_bad HP2.out.bm nn HGB.out).mono ?_
                  rintro e w4 ⟨rfl, rfl⟩
                  rw [show errV 20 = .iface 55 (.int .i64 20) from rfl]
                  go_wp2_with fail
                  refine (is20 _).mono ?_
                  rintro e w5 ⟨rfl, rfl⟩
                  go_wp2
                  go_roundg c
                  case measure => omega
                  case rel => exact ⟨j + 1, b, F, l, by omega, by go_num, rfl, HP2⟩
              · have d8 : decide (4096 - (l.length : Int) < nn) = false := by simpa using n3
                obtain ⟨m, rfl⟩ : ∃ m : Nat, nn = (m : Int) := ⟨nn.toNat, by omega⟩
                have HGM : Hid (l.length + m ≤ 4096) := hide (by omega)
                clear n1 n2 n3
                have c0 := HX2.out.c0
                have c1 := HX2.out.c1
                have c2 := HX2.out.c2
                go_wp2_with (at_builtin; (with_reducible refine wpList_appendT rfl rfl hrun ?_ ?_ ?_ ?_); rfl; rfl; rfl)
                refine (rin_any HP2.out.own HI2.out).mono ?_
                rintro e w3 ⟨rfl, rfl⟩
                cases hall : nums.all (inB l) with
                | true =>
                  clear hall
                  go_wp2_with fail
                  refine (grow_ok HP2.out.bm m HGM.out).mono ?_
                  rintro e w4 ⟨rfl, hg4⟩
                  have HP4 := hide (HP2.out.grown hg4)
                  have HX4 := hide (HX2.out.turn hg4.turn HFB.out)
                  clear hg4 c0 c1 c2
                  have c0 := HX4.out.c0
                  have c1 := HX4.out.c1
                  have c2 := HX4.out.c2
                  obtain ⟨v5, w5, hrun5, hp5⟩ := append_flags HP4.out m HGM.out
                  have HP5 := hide hp5
                  obtain ⟨ao5, cap5, e5⟩ := hp5.own.form
                  generalize (l ++ List.replicate m false).length = n5 at e5
                  subst e5
                  clear hp5
                  go_wp2_with (at_builtin; (with_reducible refine wpList_appendZB rfl rfl hrun5 ?_ ?_ ?_ ?_); rfl; rfl; rfl)
                  go_wp2
                  go_roundg c
                  case measure => omega
                  case rel => exact ⟨j + 1, b, _, l ++ List.replicate m false, by omega, by go_num, rfl, HP5⟩
                | false =>
                  clear hall
                  go_wp2_with fail
                  refine (grow_ok HP2.out.bm m HGM.out).mono ?_
                  rintro e w4 ⟨rfl, hg4⟩
                  have HP4 := hide (HP2.out.grown hg4)
                  have HX4 := hide (HX2.out.turn hg4.turn HFB.out)
                  clear hg4 c0 c1 c2
                  have c0 := HX4.out.c0
                  have c1 := HX4.out.c1
                  have c2 := HX4.out.c2
                  obtain ⟨v5, w5, hrun5, hp5⟩ := append_flags HP4.out m HGM.out
                  have HP5 := hide hp5
                  obtain ⟨ao5, cap5, e5⟩ := hp5.own.form
                  generalize (l ++ List.replicate m false).length = n5 at e5
                  subst e5
                  clear hp5
                  go_wp2_with (at_builtin; (with_reducible refine wpList_appendZB rfl rfl hrun5 ?_ ?_ ?_ ?_); rfl; rfl; rfl)
                  go_wp2
                  go_roundg c
                  case measure => omega
                  case rel => exact ⟨j + 1, b, _, l ++ List.replicate m false, by omega, by go_num, rfl, HP5⟩
        · have e3 : (kd == 3) = false := by simp [k3]
          clear k3
          by_cases k1 : kd = 1
          · have e1 : (kd == 1) = true := by simp [k1]
            clear k1
            have c0 := HX2.out.c0
            have c1 := HX2.out.c1
            have c2 := HX2.out.c2
            go_wp2_with (at_builtin; (with_reducible refine wpList_appendT rfl rfl hrun ?_ ?_ ?_ ?_); rfl; rfl; rfl)
            refine (rin_any HP2.out.own HI2.out).mono ?_
            rintro e w3 ⟨rfl, rfl⟩
            cases hall : nums.all (inB l) with
            | true =>
              have HALL := hide hall
              clear hall
              go_wp2_with fail
              refine (set_ok HP2.out.bm _ nums (HO2.out.ints HNI.out (by have := HNL.out; omega)) (fun q hq hF => by have h1 := (HO2.out.lt q hq).1; rw [World.size_alloc] at h1; have := (HFB.out q hF); omega) HALL.out).mono ?_
              rintro e w4 ⟨rfl, hp4⟩
              have HP4 := hide (HP2.out.put hp4)
              have HX4 := hide (HX2.out.turn hp4.turn HFB.out)
              have HI4 := hide (HNV.out.below HP4.out.bel)
              clear hp4 c0 c1 c2
              have c0 := HX4.out.c0
              have c1 := HX4.out.c1
              have c2 := HX4.out.c2
              go_wp2_with fail
              refine (is00 _).mono ?_
              rintro e w5 ⟨rfl, rfl⟩
              go_wp2_with fail
              refine (rput_any HP4.out.own HL4.out HI4.out true HALL.out).mono ?_
              rintro e w6 ⟨x6, rfl, ho6, hb6⟩
              have HP6 := hide (HP4.out.flags hb6 ho6)
              obtain ⟨ao6, cap6, e6⟩ := ho6.form
              rw [putS_length] at e6
              subst e6
              clear ho6 hb6 c0 c1 c2
              go_wp2_with fail
              refine (holds_any HP6.out.bm HP6.out.own (HT.out.below HP6.out.bel HT.out.lt)).mono ?_
              rintro e wh ⟨rfl, hbh⟩
              have HPH := hide (HP6.out.below hbh)
              clear hbh
              go_wp2_with fail
              go_wp2
              go_roundg c
              case measure => omega
              case rel => exact ⟨j + 1, b, F, putS l nums true, by omega, by go_num, rfl, HPH⟩
            | false =>
              have HALL := hide hall
              clear hall
              go_wp2_with fail
              refine (set_bad HP2.out.bm _ nums (HO2.out.ints HNI.out (by have := HNL.out; omega)) HALL.out).mono ?_
              rintro e w4 ⟨rfl, rfl⟩
              rw [show errV 20 = .iface 55 (.int .i64 20) from rfl]
              go_wp2_with fail
              refine (is20 _).mono ?_
              rintro e w5 ⟨rfl, rfl⟩
              go_wp2_with fail
              refine (holds_any HP2.out.bm HP2.out.own (HT.out.below HP2.out.bel HT.out.lt)).mono ?_
              rintro e wh ⟨rfl, hbh⟩
              have HPH := hide (HP2.out.below hbh)
              clear hbh
              go_wp2_with fail
              go_wp2
              go_roundg c
              case measure => omega
              case rel => exact ⟨j + 1, b, F, l, by omega, by go_num, rfl, HPH⟩
          · have e1 : (kd == 1) = false := by simp [k1]
            clear k1
            by_cases k2 : kd = 2
            · have e2 : (kd == 2) = true := by simp [k2]
              clear k2
              have c0 := HX2.out.c0
              have c1 := HX2.out.c1
              have c2 := HX2.out.c2
              go_wp2_with (at_builtin; (with_reducible refine wpList_appendT rfl rfl hrun ?_ ?_ ?_ ?_); rfl; rfl; rfl)
              refine (rin_any HP2.out.own HI2.out).mono ?_
              rintro e w3 ⟨rfl, rfl⟩
              cases hall : nums.all (inB l) with
              | true =>
                have HALL := hide hall
                clear hall
                go_wp2_with fail
                refine (clear_ok HP2.out.bm _ nums (HO2.out.ints HNI.out (by have := HNL.out; omega)) (fun q hq hF => by have h1 := (HO2.out.lt q hq).1; rw [World.size_alloc] at h1; have := (HFB.out q hF); omega) HALL.out).mono ?_
                rintro e w4 ⟨rfl, hp4⟩
                have HP4 := hide (HP2.out.put hp4)
                have HX4 := hide (HX2.out.turn hp4.turn HFB.out)
                have HI4 := hide (HNV.out.below HP4.out.bel)
                clear hp4 c0 c1 c2
                have c0 := HX4.out.c0
                have c1 := HX4.out.c1
                have c2 := HX4.out.c2
                go_wp2_with fail
                refine (is00 _).mono ?_
                rintro e w5 ⟨rfl, rfl⟩
                go_wp2_with fail
                refine (rput_any HP4.out.own HL4.out HI4.out false HALL.out).mono ?_
                rintro e w6 ⟨x6, rfl, ho6, hb6⟩
                have HP6 := hide (HP4.out.flags hb6 ho6)
                obtain ⟨ao6, cap6, e6⟩ := ho6.form
                rw [putS_length] at e6
                subst e6
                clear ho6 hb6 c0 c1 c2
                go_wp2_with fail
                refine (holds_any HP6.out.bm HP6.out.own (HT.out.below HP6.out.bel HT.out.lt)).mono ?_
                rintro e wh ⟨rfl, hbh⟩
                have HPH := hide (HP6.out.below hbh)
                clear hbh
                go_wp2_with fail
                go_wp2
                go_roundg c
                case measure => omega
                case rel => exact ⟨j + 1, b, F, putS l nums false, by omega, by go_num, rfl, HPH⟩
              | false =>
                have HALL := hide hall
                clear hall
                go_wp2_with fail
                refine (clear_bad HP2.out.bm _ nums (HO2.out.ints HNI.out (by have := HNL.out; omega)) HALL.out).mono ?_
                rintro e w4 ⟨rfl, rfl⟩
                rw [show errV 20 = .iface 55 (.int .i64 20) from rfl]
                go_wp2_with fail
                refine (is20 _).mono ?_
                rintro e w5 ⟨rfl, rfl⟩
                go_wp2_with fail
                refine (holds_any HP2.out.bm HP2.out.own (HT.out.below HP2.out.bel HT.out.lt)).mono ?_
                rintro e wh ⟨rfl, hbh⟩
                have HPH := hide (HP2.out.below hbh)
                clear hbh
                go_wp2_with fail
                go_wp2
                go_roundg c
                case measure => omega
                case rel => exact ⟨j + 1, b, F, l, by omega, by go_num, rfl, HPH⟩
            · have e2 : (kd == 2) = false := by simp [k2]
              clear k2
              by_cases k4 : kd = 4
              · have e4 : (kd == 4) = true := by simp [k4]
                clear k4
                have c0 := HX2.out.c0
                have c1 := HX2.out.c1
                have c2 := HX2.out.c2
                go_wp2_with (at_builtin; (with_reducible refine wpList_appendT rfl rfl hrun ?_ ?_ ?_ ?_); rfl; rfl; rfl)
                refine (rin_any HP2.out.own HI2.out).mono ?_
                rintro e w3 ⟨rfl, rfl⟩
                cases hall : nums.all (inB l) with
                | true =>
                  clear hall
                  go_wp2_with fail
                  refine (clone_any HP2.out.bm).mono ?_
                  rintro e w4 ⟨bc, rfl, hf4⟩
                  have HF4 := hide hf4
                  have HBM4 := hide (HP2.out.bm.below hf4.bel)
                  have HS4 : Hid (∀ q, F q → q < w4.heap.size) := hide fun q hq => Nat.lt_of_lt_of_le (HP2.out.fr q hq).2 hf4.bel.size
                  clear hf4
                  go_wp2_with fail
                  refine (set1_any HBM4.out HS4.out 0 (i64_small ⟨by omega, by omega⟩)).mono ?_
                  rintro e w5 ⟨u5, rfl, hp5⟩
                  have HP5 := hide hp5
                  have HS5 : Hid (∀ q, F q → q < w5.heap.size) := hide fun q hq => Nat.lt_of_lt_of_le (HS4.out q hq) hp5.turn.size
                  clear hp5
                  have e7 : IntKind.i64.wrap ((l.length : Int) - 1) = (l.length : Int) - 1 := IntWalk.i64_in _ ⟨by omega, by have := HL4.out; omega⟩
                  go_wp2_with fail
                  refine (clear1_any HP5.out.bm HS5.out ((l.length : Int) - 1) (by unfold I64; have := HL4.out; omega)).mono ?_
                  rintro e w6 ⟨u6, rfl, hp6⟩
                  have HP6 := hide (HP2.out.clone HF4.out HP5.out hp6)
                  clear hp6
                  go_wp2
                  go_roundg c
                  case measure => omega
                  case rel => exact ⟨j + 1, bc, _, l, by omega, by go_num, rfl, HP6⟩
                | false =>
                  clear hall
                  go_wp2_with fail
                  refine (clone_any HP2.out.bm).mono ?_
                  rintro e w4 ⟨bc, rfl, hf4⟩
                  have HF4 := hide hf4
                  have HBM4 := hide (HP2.out.bm.below hf4.bel)
                  have HS4 : Hid (∀ q, F q → q < w4.heap.size) := hide fun q hq => Nat.lt_of_lt_of_le (HP2.out.fr q hq).2 hf4.bel.size
                  clear hf4
                  go_wp2_with fail
                  refine (set1_any HBM4.out HS4.out 0 (i64_small ⟨by omega, by omega⟩)).mono ?_
                  rintro e w5 ⟨u5, rfl, hp5⟩
                  have HP5 := hide hp5
                  have HS5 : Hid (∀ q, F q → q < w5.heap.size) := hide fun q hq => Nat.lt_of_lt_of_le (HS4.out q hq) hp5.turn.size
                  clear hp5
                  have e7 : IntKind.i64.wrap ((l.length : Int) - 1) = (l.length : Int) - 1 := IntWalk.i64_in _ ⟨by omega, by have := HL4.out; omega⟩
                  go_wp2_with fail
                  refine (clear1_any HP5.out.bm HS5.out ((l.length : Int) - 1) (by unfold I64; have := HL4.out; omega)).mono ?_
                  rintro e w6 ⟨u6, rfl, hp6⟩
                  have HP6 := hide (HP2.out.clone HF4.out HP5.out hp6)
                  clear hp6
                  go_wp2
                  go_roundg c
                  case measure => omega
                  case rel => exact ⟨j + 1, bc, _, l, by omega, by go_num, rfl, HP6⟩
              · have e4 : (kd == 4) = false := by simp [k4]
                clear k4
                have c0 := HX2.out.c0
                have c1 := HX2.out.c1
                have c2 := HX2.out.c2
                go_wp2_with (at_builtin; (with_reducible refine wpList_appendT rfl rfl hrun ?_ ?_ ?_ ?_); rfl; rfl; rfl)
                refine (rin_any HP2.out.own HI2.out).mono ?_
                rintro e w3 ⟨rfl, rfl⟩
                cases hall : nums.all (inB l) with
                | true =>
                  clear hall
                  go_wp2
                  go_roundg c
                  case measure => omega
                  case rel => exact ⟨j + 1, b, F, l, by omega, by go_num, rfl, HP2⟩
                | false =>
                  clear hall
                  go_wp2
                  go_roundg c
                  case measure => omega
                  case rel => exact ⟨j + 1, b, F, l, by omega, by go_num, rfl, HP2⟩
end Go.Proofs.YtkkklobjfoehnaaDoor
