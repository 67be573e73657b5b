import Derived.Test.YtliboiajhhnajaaGreatDoorM38
import Derived.Test.YtliboiajhhnajaaGreatDoorM39
import Derived.Test.YtliboiajhhnajaaGreatDoorM30
import Derived.Test.YtliboiajhhnajaaGreatDoorM10
import Derived.Test.YtliboiajhhnajaaGreatDoorCards
import Derived.Test.YtliboiajhhnajaaGreatDoorTie
import Derived.SevenTiedAt
/- BankPlays walked. -/
namespace Go.Proofs.YtliboiajhhnajaaGreatDoor
open Go.RowKit Go.Extern

theorem build_op (w : World) (i s : Int) : (Instr.build 31 #[(0, .int .i64 4), (1, .int .i64 i), (2, .int .i64 s)]).run Tryz.prog w = .ok (opV 4 i s 0 none 0 0 none 0 0) w := by kernel_rfl
theorem exec_build3 {ρ : Operand → Value} {o : Oper} {w : World} {t : TypeId} {x y z : Operand} {v xv yv zv : Value} (ho : o.op = .build t #[(0, x), (1, y), (2, z)]) (hr : (Instr.build t #[(0, xv), (1, yv), (2, zv)]).run Tryz.prog w = .ok v w) (hx : ρ x = xv) (hy : ρ y = yv) (hz : ρ z = zv) : (execOp ρ o).run Tryz.prog w = .ok (.value v) w := by
  unfold execOp; simp [ho, hr, hx, hy, hz]
theorem Sta.start {w w1 w2 : World} {a b : Nat} (ha : Bk w1 (fun k => w.heap.size ≤ k ∧ k < w1.heap.size) a [] pw0) (hb1 : Below w.heap.size w w1) (hb : RBk w2 (fun k => w1.heap.size ≤ k ∧ k < w2.heap.size) b [] pw0) (hb2 : Below w1.heap.size w1 w2) : Sta w w2 a b 0 :=
  ⟨_, _, [], [], pw0, pw0, ⟨(OneAt.made ha (Below.refl _ _) hb1).below hb2, hb, fun k hk => ⟨by have := hb1.size; omega, hk.2⟩, fun k h1 h2 => by have := h1.2; have := h2.1; omega⟩, rfl, ⟨rfl, rfl, .inl rfl⟩, fun i p S h => by simp at h, ⟨by unfold I64 pw0; simp, by simp [pw0], by simp [pw0]⟩, ⟨by unfold I64 pw0; simp, by simp [pw0], by simp [pw0]⟩⟩

set_option maxRecDepth 100000 in
set_option maxHeartbeats 8000000 in
theorem playsL_any (w : World) (v : Value) (l : List OpR) (hv : Script w v l) (hL : Laid w) : Calls Tryz.prog 3 #[v] w fun e w' => e = .returned (.bool true) ∧ Below w.heap.size w w' := by
  obtain ⟨ao, cap, gl, ol, rfl, h2, h3⟩ := hv
  have H2 := hide h2
  have H3 := hide h3
  have HLD := hide hL
  clear h2 h3 hL
  go_enter Tryz.func3, Tryz.ntmps3
  go_wp2_with fail
  refine (bnew_any w).mono ?_
  rintro e w1 ⟨a, rfl, hbka, hb1⟩
  go_wp2_with fail
  refine (rbnew_any w1).mono ?_
  rintro e w2 ⟨b, rfl, hbkb, hb2⟩
  have HST := hide (Sta.start hbka hb1 hbkb hb2)
  clear hbka hb1 hbkb hb2
  by_cases hbig : (150 : Int) < (l.length : Int)
  · have HBO := hide HST.out.bel
    have HA := hide (awake_any w2)
    have hd1 : decide ((150 : Int) < (l.length : Int)) = true := by simpa using hbig
    clear hbig
    go_wp2_with (go_at_call 6; refine HA.out.mono ?_; rintro e w' ⟨rfl, hb⟩; have HBB := hide (HBO.out.trans (hb.mono HBO.out.size)); clear hb)
    go_ret
    exact ⟨rfl, HBB.out⟩
  · have hd1 : decide ((150 : Int) < (l.length : Int)) = false := by simpa using hbig
    have HL : Hid (l.length ≤ 150) := by show _ ≤ _; omega
    clear hbig
    go_wp2_with fail
    go_loopg [26] l.length (fun gk i wr => ∃ j, j + gk = l.length ∧ i = .int .i64 (j : Int) ∧ Sta w wr a b j)
    case atStart => exact ⟨0, by omega, rfl, HST.out⟩
    case round =>
      clear HST
      obtain ⟨j, hj, rfl, hst⟩ := hrel
      have HST := hide hst
      cases gk with
      | succ m =>
        have hjl : j < l.length := by omega
        have hlt : (j : Int) < (l.length : Int) := by omega
        have hb0 : (0 : Int) ≤ (j : Int) := by omega
        obtain ⟨o, ho⟩ : ∃ o, l[j]? = some o := ⟨l[j], by simp [hjl]⟩
        obtain rfl := H2.out (by omega)
        have hop0 := H3.out j o ho
        have hop := hop0.below hst.bel
        obtain ⟨kind, dev, sec, on, dv, d, opv, ops⟩ := o
        have q0 : wr.cell? ⟨gl, ol + j * 6, none⟩ = some (.int .i64 kind) := hop.c0
        have q1 : wr.cell? ⟨gl, ol + j * 6 + 1, none⟩ = some (.int .i64 dev) := hop.c1
        have q2 : wr.cell? ⟨gl, ol + j * 6 + 2, none⟩ = some (.int .i64 sec) := hop.c2
        have q3 : wr.cell? ⟨gl, ol + j * 6 + 3, none⟩ = some (.int .i64 on) := hop.c3
        have q4 : wr.cell? ⟨gl, ol + j * 6 + 4, none⟩ = some dv := hop.c4
        have q5 : wr.cell? ⟨gl, ol + j * 6 + 5, none⟩ = some opv := hop.c5
        have HDW : Hid (Bytes w dv d) := hop0.hd
        have HPW : Hid (Ints w opv ops) := hop0.hp
        have HSS : Hid (I64 sec) := hop.hs
        have HNN : Hid (I64 on) := hop.hn
        have hgl := cell_lt q0
        have HJ : Hid ((j : Int) + 1 < 152) := by have := HL.out; show _ < _; omega
        have hjj := HJ.out
        have HJ150 : Hid (j ≤ 150) := by have := HL.out; show _ ≤ _; omega
        obtain ⟨aod, capd, gx, offd, hdv, -⟩ := hop.hd
        obtain ⟨aop, capp, gp, offp, hpv, -⟩ := hop.hp
        have hdv' : dv = .slice aod d.length capd := hdv
        have hpv' : opv = .slice aop ops.length capp := hpv
        clear hdv hpv
        subst hdv' hpv'
        have HAL : Hid (∀ o, Below wr.heap.size wr (wr.alloc o)) := fun o => (Below.refl _ _).alloc (Nat.le_refl _) o
        clear hop hop0 ho hst
        have HSMA := hide (small_any (wr.alloc (.cells #[Value.int .i64 kind, Value.int .i64 dev, Value.int .i64 sec, Value.int .i64 on, Value.slice aod d.length capd, Value.slice aop ops.length capp] 31)) kind dev sec on aod d.length capd aop ops.length capp)
        have HOB0 : Hid ((wr.alloc (.cells #[Value.int .i64 kind, Value.int .i64 dev, Value.int .i64 sec, Value.int .i64 on, Value.slice aod d.length capd, Value.slice aop ops.length capp] 31)).heap[wr.heap.size]? = some (.cells (opC kind dev sec on aod d.length capd aop ops.length capp) 31 (0, 0))) := heap_alloc_new wr _
        have HST1 := hide (HST.out.below (HAL.out (.cells #[Value.int .i64 kind, Value.int .i64 dev, Value.int .i64 sec, Value.int .i64 on, Value.slice aod d.length capd, Value.slice aop ops.length capp] 31)))
        unfold opV opC at HSMA
        go_wp2_with fail
        refine HSMA.out.mono ?_
        rintro e w3 ⟨sb, rfl, hb3, hsb⟩
        have HST3 := hide (HST1.out.below hb3)
        have hob3 : w3.heap[wr.heap.size]? = some (.cells (opC kind dev sec on aod d.length capd aop ops.length capp) 31 (0, 0)) := by rw [hb3.block _ (heap_lt HOB0.out)]; exact HOB0.out
        have m0 : w3.cell? ⟨wr.heap.size, 0, none⟩ = some (.int .i64 kind) := by rw [cell_of_row w3 _ _ _ _ _ hob3]; rfl
        have m1 : w3.cell? ⟨wr.heap.size, 1, none⟩ = some (.int .i64 dev) := (opC_cells hob3).1
        have m2 : w3.cell? ⟨wr.heap.size, 2, none⟩ = some (.int .i64 sec) := (opC_cells hob3).2.1
        have m3 : w3.cell? ⟨wr.heap.size, 3, none⟩ = some (.int .i64 on) := (opC_cells hob3).2.2.1
        have m4 : w3.cell? ⟨wr.heap.size, 4, none⟩ = some (.slice aod d.length capd) := (opC_cells hob3).2.2.2.1
        have m5 : w3.cell? ⟨wr.heap.size, 5, none⟩ = some (.slice aop ops.length capp) := (opC_cells hob3).2.2.2.2
        have HSB := hide hsb
        clear hb3 hob3 hsb HSMA HST HST1 HOB0 q0 q1 q2 q3 q4 q5
        obtain ⟨OB, hOB⟩ : ∃ OB, OB = wr.heap.size := ⟨_, rfl⟩
        rw [← hOB] at m0 m1 m2 m3 m4 m5
        rw [← hOB]
        clear hOB
        cases sb with
        | false =>
          have HBO := hide HST3.out.bel
          have HA := hide (awake_any w3)
          go_wp2_with (go_at_call 6; refine HA.out.mono ?_; rintro e w' ⟨rfl, hb⟩; have HBB := hide (HBO.out.trans (hb.mono HBO.out.size)); clear hb)
          go_ret
          exact ⟨rfl, HBB.out⟩
        | true =>
          have hle := HSB.out rfl
          have HSTP := hide (step_any HST3.out HJ150.out HLD.out kind dev sec on HSS.out HNN.out aod d.length capd aop ops.length capp d HDW.out hle.1 ops HPW.out hle.2)
          unfold opV opC at HSTP
          clear hle HSB
          go_wp2_with fail
          refine HSTP.out.mono ?_
          rintro e w4 ⟨rfl, hst4⟩
          have HHO := hide (holds_any hst4 (by have := HJ150.out; omega))
          have HST4 := hide hst4
          clear hst4 HSTP m0 m1 m2 m3 m4 m5
          go_wp2_with fail
          refine HHO.out.mono ?_
          rintro e w5 ⟨rfl, hb5⟩
          have HEND := hide (HST4.out.below hb5)
          clear hb5 HHO
          go_wp2
          go_roundg m
          case measure => omega
          case rel => exact ⟨j + 1, by omega, by go_num, HEND.out⟩
      | zero =>
        have hend : ¬ (j : Int) < (l.length : Int) := by omega
        have HJ150 : Hid (j ≤ 150) := by have := HL.out; show _ ≤ _; omega
        obtain ⟨Fa, Fb, D, E, q, r, h, hse, hpw, hwl, hsq, hsr⟩ := hst
        have HSMB : Hid (SmB E) := Sl.SmB hse h.x.k.smB
        obtain ⟨vE, GE, hyat⟩ := h.y
        have HYAT := hide hyat
        have c0 := hyat.c0
        obtain ⟨aoE, capE, rfl⟩ := hyat.form
        have HE8 := hide hyat.few
        clear h hse hpw hwl hsq hsr hj hyat
        go_wp2_with fail
        obtain ⟨wz, hwz⟩ : ∃ wz, wz = wr := ⟨_, rfl⟩
        rw [← hwz] at HYAT HST c0
        rw [← hwz]
        clear hwz
        go_loopg [51] E.length (fun gk i wr => ∃ k, k + gk = E.length ∧ i = .int .i64 (k : Int) ∧ Below wz.heap.size wz wr)
        case atStart => exact ⟨0, by omega, rfl, Below.refl _ _⟩
        case round =>
          obtain ⟨k, hk, rfl, hbw⟩ := hrel
          have HBW := hide hbw
          cases gk with
          | zero =>
            have hend2 : ¬ (k : Int) < (E.length : Int) := by omega
            have HBO := hide (HST.out.bel.trans (hbw.mono HST.out.bel.size))
            have HA := hide (awake_any wr)
            clear hk hbw
            go_wp2_with (go_at_call 6; refine HA.out.mono ?_; rintro e w' ⟨rfl, hb⟩; have HBB := hide (HBO.out.trans (hb.mono HBO.out.size)); clear hb)
            go_ret
            exact ⟨rfl, HBB.out⟩
          | succ m =>
            have hlt : (k : Int) < (E.length : Int) := by omega
            have hb0 : (0 : Int) ≤ (k : Int) := by omega
            have hkk : (k : Int) + 1 < 10 := by have := HE8.out; omega
            have hkl : k < E.length := by omega
            have hyat := HYAT.out.below hbw
            obtain ⟨dE, hE⟩ : ∃ d, E[k]? = some d := ⟨E[k], by simp⟩
            cases dE with
            | none =>
              obtain ⟨gE, hvE, -, ck, -⟩ := hyat.at_ hE
              subst hvE
              rw [ptrV_none] at ck
              clear hyat hE hbw hkl
              go_wp2_with fail
              obtain ⟨wi, hwi⟩ : ∃ wi, wi = wr := ⟨_, rfl⟩
              subst hwi
              go_loopg [9] 1 (fun gk s wr => s = .int .i64 0 ∧ wr = wi)
              case atStart => exact ⟨rfl, rfl⟩
              case round =>
                obtain ⟨rfl, rfl⟩ := hrel
                go_wp2
                go_roundg m
                case measure => omega
                case rel => exact ⟨k + 1, by omega, by go_num, HBW.out⟩
            | some dE =>
              obtain ⟨p, S⟩ := dE
              obtain ⟨gE, capE', hvE, -, ck, -⟩ := hyat.there hE
              simp only [Value.slice.injEq, true_and] at hvE
              obtain ⟨rfl, rfl⟩ := hvE
              obtain ⟨vR, T, hrat, hTS⟩ := hyat.dev k p S hE
              have r0 := hrat.cell
              obtain ⟨aoR, capR, rfl⟩ := hrat.form
              rw [RkAt.len hTS] at r0
              have HR0 := hide r0
              have HSL := hide (HSMB.out k p S hE)
              clear hyat hE hrat hTS hbw hkl r0
              go_wp2_with fail
              obtain ⟨wi, hwi⟩ : ∃ wi, wi = wr := ⟨_, rfl⟩
              subst hwi
              go_loopg [9] S.length (fun gk s wr => ∃ t, t + gk = S.length ∧ s = .int .i64 (t : Int) ∧ Below wi.heap.size wi wr)
              case atStart => exact ⟨0, by omega, rfl, Below.refl _ _⟩
              case round =>
                obtain ⟨t, ht, rfl, hbt⟩ := hrel
                have HBT := hide hbt
                have r1 : wr.cell? ⟨p, 0, none⟩ = some (.slice aoR S.length capR) := by rw [hbt.cell (cell_lt HR0.out)]; exact HR0.out
                cases gk with
                | zero =>
                  have hend3 : ¬ (t : Int) < (S.length : Int) := by omega
                  clear ht hbt
                  go_wp2
                  go_roundg m
                  case measure => omega
                  case rel => exact ⟨k + 1, by omega, by go_num, HBW.out.trans (HBT.out.mono HBW.out.size)⟩
                | succ m2 =>
                  have hlt3 : (t : Int) < (S.length : Int) := by omega
                  have htt : (t : Int) + 1 < 5000 := by have := HSL.out; omega
                  have hbz := HBW.out.trans (hbt.mono HBW.out.size)
                  have HSTP := hide (step4_any (HST.out.below hbz) HJ150.out HLD.out (k : Int) (t : Int) 0 (by unfold I64; omega) (by unfold I64; omega) none 0 0 none 0 0 [] (Bytes.nil _) (by simp) [] ⟨none, 0, 0, 0, rfl, by simp, by simp, by simp, by simp, by simp, by simp, by simp⟩ (by simp))
                  clear hbt hbz
                  go_wp2_with (first | (with_reducible refine wpList_exec rfl (exec_build3 rfl (build_op _ _ _) rfl rfl rfl) ?_))
                  refine HSTP.out.mono ?_
                  rintro e w6 ⟨rfl, hb6⟩
                  have HEND := hide (HBT.out.trans (hb6.mono HBT.out.size))
                  clear hb6 HSTP r1
                  go_wp2
                  go_roundg m2
                  case measure => omega
                  case rel => exact ⟨t + 1, by omega, by go_num, HEND.out⟩
end Go.Proofs.YtliboiajhhnajaaGreatDoor

/- BankPlays is proved: for every script the law returns true, and its argument reads as it did; its one package variable is tied to the program's text. -/
namespace Go.Proofs.YtliboiajhhnajaaGreatDoor
open Go.ChangeShapes Go.WideShapes Go.ChangeAt Go.RowKit Go.Deep

set_option maxRecDepth 100000 in
theorem bankPlays_lifted (os : Os) (started : os.Started) (H : Type) (enc : TypeId × Value → H) :
    ReturnsInHanded {} Tryz.checked os 3 .any (fun w args => (Rows.bankPlaysSpec.pre enc Tryz.prog Tryz.f3 [] false w args ∧ laidMetH Tryz.prog [("errors.errorType", Rows.laid_errors_errorType)] w) ∧ sizedMet enc Tryz.prog Tryz.f3 (OpenSpec.ofChange Rows.bankPlaysSpec) false w args)
      (Rows.bankPlaysSpec.post enc Tryz.prog Tryz.f3 false true false false) := by
  refine returnsInHanded_of_change_and (C := Tryz.checked) (X := fun w _ => laidMetH Tryz.prog [("errors.errorType", Rows.laid_errors_errorType)] w) (fun _ _ _ hh h => h.of_heap hh) own started (by kernel_rfl) Tryz.func3
    (ChangeSpec.witness_shaped (enc := enc) (C := Tryz.checked) (os := os) (X := fun w _ => laidMetH Tryz.prog [("errors.errorType", Rows.laid_errors_errorType)] w) false (World.doorLaid Tryz.prog 16 os) #[.slice none 0 0] 8 rfl (World.shaped_of_RefB (by kernel_rfl) (by kernel_rfl)) (by kernel_rfl) (by kernel_rfl) (by kernel_rfl) (door_met os _)) ?_
  intro W base args ds gs before hval0 hW _ hsz0 hL _
  have hval : ∀ (j : Nat) t v, Tryz.f3.params[j]? = some t → args[j]? = some v → Value.okWide Tryz.prog W .any base t v := hval0
  have hW' := hW
  obtain ⟨p, q, hA0, hV, rfl, hfz, hnd⟩ := hW
  have hA : DataW.TrodAll enc Tryz.prog W 0 (fun _ => true) true Tryz.f3.params.toList args.toList ds p := hA0
  rw [Tryz.params3] at hA hval
  obtain ⟨v0, d0, rfl, rfl, h0⟩ := trodAll_one hA
  obtain ⟨rfl, rfl⟩ := trodVars_none hV
  have hsz : (DataW.weightsEach Tryz.prog [22] [d0]).all (fun x => decide (x ≤ reachBytes)) = true := hsz0
  have k0 := h0
  have lt0 : ∀ y ∈ p, y.block < W.heap.size := by obtain ⟨m, hm⟩ := k0; exact DataW.trod_lt m _ _ _ hm
  obtain ⟨l, hs0⟩ := script_read h0 (okWide_slice Tryz.underlying22 (hval 0 22 v0 rfl rfl)) (sized_one hsz)
  clear hA0 hval0
  refine (playsL_any W v0 l hs0 (laid_of_one hL)).mono fun e W' ⟨he, bel⟩ => ?_
  subst he
  exact ⟨_, rfl, _, _, _, [], _, [], hW', trodAll_mk1 (shut_bool Tryz.underlying4 _), trodAll_mk1 (Below.trod laidOut (by kernel_rfl) (of_decide_eq_true (by kernel_rfl)) k0 bel lt0), rfl, bel.frame _, fun h => by cases h⟩

theorem bankPlays_row : Rows.BankPlaysSaid :=
  OpenClaim.holds_of_wide 3 Tryz.f3 rfl rfl rfl rfl rfl rfl rfl ⟨rfl, rfl, rfl, rfl, rfl⟩ rfl rfl rfl rfl rfl (by kernel_rfl) Tryz.func3 (by kernel_rfl)
    (of_decide_eq_true (by kernel_rfl)) (by unfold Func.isWrapper; rw [if_neg (of_decide_eq_false (by kernel_rfl))]; exact ⟨rfl, rfl⟩)
    (fun os started H enc _ => bankPlays_lifted os started H enc)

theorem bankPlays_holds : Rows.BankPlaysCardSaid :=
  Claim7.holds_tied_plain_at .later [] [.handle] true (true, "505491079c324dc9939faa523913ba0b73537310cbbe72ce7bb1a556cae064aa") true
    bankPlays_row (fun _ h => by cases h) (by kernel_rfl) (fun _ h => by cases h) bankPlays_row_tie rfl ⟨rfl, rfl⟩ (by kernel_rfl) rfl
    (fun f fn hf hfn => by
      obtain rfl : f = 3 := Option.some.inj ((show Tryz.prog.funcNamed "portage/portagelaw04.BankPlays" = some 3 by kernel_rfl).symm.trans hf) |>.symm
      obtain rfl : fn = Tryz.f3 := (Option.some.inj (Tryz.func3.symm.trans hfn)).symm
      exact ⟨by kernel_rfl, fun j t ht => by
        rw [Tryz.params3] at ht
        have hm : t ∈ [22] := by simpa using Array.mem_of_getElem? ht
        have hall : ([22].all fun u => !Tryz.prog.wantsStandIn u) = true := by kernel_rfl
        exact (show Tryz.prog.wantsStandIn t = false by simpa using List.all_eq_true.1 hall t hm)⟩)
    (by kernel_rfl)
#print axioms bankPlays_holds
end Go.Proofs.YtliboiajhhnajaaGreatDoor
