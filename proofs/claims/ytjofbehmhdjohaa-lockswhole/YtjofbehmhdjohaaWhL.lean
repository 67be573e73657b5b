/- The law LocksWhole. -/
import Derived.Test.YtjofbehmhdjohaaAw
namespace Go.Proofs.Ytjofbehmhdjohaa
open Go.RowKit Go.Extern

theorem whole_one {a b c a2 b2 c2 : Int} {d d2 : Bool} (h1 : rightB ⟨a, b, c, d⟩ = true) (h2 : rightB ⟨a2, b2, c2, d2⟩ = true) (hv : 0 < a) (he : a = a2) : clashB ⟨a, 0, 0, d⟩ ⟨a2, b2, c2, d2⟩ = (d || d2) := by
  have h3 : rightB ⟨a, 0, 0, d⟩ = true := rightB_iff.2 ⟨by simp only; omega, by simp, by simp, by simp⟩
  have _ := h1
  have h4 : meetsB ⟨a, 0, 0, d⟩ ⟨a2, b2, c2, d2⟩ = true := by unfold meetsB; rw [if_neg (by simp only; omega), if_neg (by simp only; omega), if_pos (.inl rfl)]
  simp [clashB, h3, h2, h4]
theorem whole_all {a2 b2 c2 : Int} {d d2 : Bool} (h2 : rightB ⟨a2, b2, c2, d2⟩ = true) : clashB ⟨0, 0, 0, d⟩ ⟨a2, b2, c2, d2⟩ = (d || d2) := by
  have h3 : rightB ⟨0, 0, 0, d⟩ = true := rightB_iff.2 ⟨by simp, by simp, by simp, by simp⟩
  have h4 : meetsB ⟨0, 0, 0, d⟩ ⟨a2, b2, c2, d2⟩ = true := by unfold meetsB; rw [if_pos (.inl rfl)]
  simp [clashB, h3, h2, h4]
theorem whole_apart {a b c a2 b2 c2 : Int} {d d2 : Bool} (h1 : 0 < a) (h2 : 0 < a2) (he : a ≠ a2) : clashB ⟨a, b, c, d⟩ ⟨a2, b2, c2, d2⟩ = false := by
  have h4 : meetsB ⟨a, b, c, d⟩ ⟨a2, b2, c2, d2⟩ = false := by unfold meetsB; rw [if_neg (by simp only; omega), if_pos he]
  simp [clashB, h4]
theorem whole_self {a b c : Int} {d : Bool} (h : rightB ⟨a, b, c, d⟩ = true) : clashB ⟨a, b, c, d⟩ ⟨a, b, c, d⟩ = d := by
  obtain ⟨-, -, h3, -⟩ := rightB_iff.1 h
  have h4 : meetsB ⟨a, b, c, d⟩ ⟨a, b, c, d⟩ = true := by
    unfold meetsB
    by_cases z : a = 0
    · rw [if_pos (.inl z)]
    · rw [if_neg (by simp only; omega), if_neg (by simp)]
      by_cases y : c = 0
      · rw [if_pos (.inl y)]
      · rw [if_neg (by simp only; omega), if_pos (by simp)]; simp at h3 ⊢; omega
  cases d <;> simp [clashB, h, h4]
theorem sOk_whole {a : Int} {d : Bool} (h : I64 a) : sOk ⟨a, 0, 0, d⟩ := ⟨h, by unfold I64; simp, by unfold I64; simp⟩
theorem load_span {w : World} {T : TypeId} {g : Nat} {s : S} (h : BoxS T w g s) : (Instr.loadAt 24 (.pointer (some ⟨g, 0, none⟩))).run Try.prog w = .ok (spV s) w := by
  obtain ⟨h0, h1, h2, h3⟩ := h.cells
  unfold spV
  go_simp
theorem load_boolV {w : World} {p : Addr} {q : Bool} (h : w.cell? p = some (.bool q)) : (Instr.loadAt 4 (.pointer (some p))).run Try.prog w = .ok (.bool q) w := by go_simp
theorem fldS3 (g i : Nat) (w : World) : (Instr.fieldAt 23 (.pointer (some ⟨g, i, none⟩)) 3).run Try.prog w = .ok (.pointer (some ⟨g, i + 3, none⟩)) w := by kernel_rfl
theorem enterClash (args : Array Value) (w : World) : (callFunc 9 args).run Try.prog w = .ok (.enter 9 args) w := by kernel_rfl
theorem enterAwake (args : Array Value) (w : World) : (callFunc 11 args).run Try.prog w = .ok (.enter 11 args) w := by kernel_rfl
section
variable {ρ : Operand → Value} {o : Oper} {w : World} {x y : Operand} {p q b : Bool} {T : TypeId}
theorem exec_eqlB (ho : o.op = .binOp .eql 4 x y T) (hx : ρ x = .bool p) (hy : ρ y = .bool q) (h : (p == q) = b) : (execOp ρ o).run Try.prog w = .ok (.value (.bool b)) w := by
  subst h
  unfold execOp; simp only [ho, hx, hy]; go_simp
end

set_option maxRecDepth 100000 in
set_option maxHeartbeats 8000000 in
theorem wholeL_any {s o : S} (hso : sOk s) (hoo : sOk o) (w : World) :
    Calls Try.prog 7 #[spV s, spV o] w fun e w' => e = .returned (.bool true) ∧ Below w.heap.size w w' := by
  have HA := bel_alloc w (.cells #[.int .i64 s.vol, .int .i64 s.frm, .int .i64 s.len, .bool s.wr] 23)
  have HA2 := bel_alloc (w.alloc (.cells #[.int .i64 s.vol, .int .i64 s.frm, .int .i64 s.len, .bool s.wr] 23)) (.cells #[.int .i64 o.vol, .int .i64 o.frm, .int .i64 o.len, .bool o.wr] 23)
  have HX := hide ((BoxS.new w s 23).below HA2)
  have HY := hide (BoxS.new (w.alloc (.cells #[.int .i64 s.vol, .int .i64 s.frm, .int .i64 s.len, .bool s.wr] 23)) o 23)
  have HB := hide (nextB HA HA2)
  simp only [World.size_alloc] at HY
  clear HA HA2
  obtain ⟨a, b, c, d⟩ := s
  obtain ⟨a2, b2, c2, d2⟩ := o
  simp only at HB HX HY
  have hC1 := fun wx => clash_any (sOk_whole (d := d) hso.1) hoo wx
  have hC2 := fun wx => clash_any (sOk_whole (a := 0) (d := d) (by unfold I64; omega)) hoo wx
  have hC3 := fun wx => clash_any hso hoo wx
  have hC4 := fun wx => clash_any hso hso wx
  have H1 := hide hC1
  have H2 := hide hC2
  have H3 := hide hC3
  have H4 := hide hC4
  unfold spV at H1 H2 H3 ⊢
  simp only at H1 H2 H3 ⊢
  clear hC1 hC2 hC3 hC4 hso hoo
  obtain ⟨bx, hbx⟩ : ∃ bx, w.heap.size = bx := ⟨_, rfl⟩
  go_enter Try.func7, Try.ntmps7
  go_wp2_with fail
  refine (rright_any ⟨a, b, c, d⟩ _).mono ?_
  rintro e w1 ⟨rfl, hb1⟩
  have HB1 := hide (nextB HB.out hb1)
  have HX1 := hide (HX.out.below hb1)
  have HY1 := hide (HY.out.below hb1)
  clear hb1 HB HX HY
  simp only [hbx] at HX1 HY1 ⊢
  clear hbx
  cases h1 : rightB ⟨a, b, c, d⟩ with
  | false =>
    clear h1 H1 H2 H3 H4
    go_wp2_with (go_at_call 11; refine (awake_any _).mono ?_; rintro e w2 ⟨rfl, hb⟩; have HB2 := hide (nextB HB1.out hb); clear hb)
    go_ret
    exact ⟨rfl, HB2.out⟩
  | true =>
    have R1 := hide h1
    clear h1
    obtain ⟨y0, y1, y2, y3⟩ := HY1.out.cells
    simp only at y0 y1 y2 y3
    go_wp2_with fail
    clear y0 y1 y2 y3
    refine (rright_any ⟨a2, b2, c2, d2⟩ _).mono ?_
    rintro e w2 ⟨rfl, hb2⟩
    have HB2 := hide (nextB HB1.out hb2)
    have HX2 := hide (HX1.out.below hb2)
    have HY2 := hide (HY1.out.below hb2)
    obtain ⟨x0, x1, x2, x3⟩ := HX2.out.cells
    obtain ⟨y0, y1, y2, y3⟩ := HY2.out.cells
    simp only at x0 x1 x2 x3 y0 y1 y2 y3
    clear hb2 HB1 HX1 HY1
    cases h2 : rightB ⟨a2, b2, c2, d2⟩ with
    | false =>
      clear h2 H1 H2 H3 H4
      go_wp2_with (go_at_call 11; refine (awake_any _).mono ?_; rintro e w3 ⟨rfl, hb⟩; have HB3 := hide (nextB HB2.out hb); clear hb)
      go_ret
      exact ⟨rfl, HB3.out⟩
    | true =>
      have R2 := hide h2
      clear h2
      -- the boxes of 'whole' and 'all'
      have A1 := bel_alloc w2 (.cells #[.int .i64 a, .int .i64 0, .int .i64 0, .bool d] 24)
      have A2 := bel_alloc (w2.alloc (.cells #[.int .i64 a, .int .i64 0, .int .i64 0, .bool d] 24)) (.cells #[.int .i64 0, .int .i64 0, .int .i64 0, .bool d] 24)
      have HW := hide ((BoxS.new w2 ⟨a, 0, 0, d⟩ 24).below A2)
      have HV := hide (BoxS.new (w2.alloc (.cells #[.int .i64 a, .int .i64 0, .int .i64 0, .bool d] 24)) ⟨0, 0, 0, d⟩ 24)
      simp only [World.size_alloc] at HV
      have HB3 := hide (nextB HB2.out (nextB A1 A2))
      have HX3 := hide (HX2.out.below (nextB A1 A2))
      have HY3 := hide (HY2.out.below (nextB A1 A2))
      obtain ⟨xa0, xa1, xa2, xa3⟩ := (HX2.out.below A1).cells
      obtain ⟨ya0, ya1, ya2, ya3⟩ := (HY2.out.below A1).cells
      obtain ⟨xb0, xb1, xb2, xb3⟩ := HX3.out.cells
      obtain ⟨yb0, yb1, yb2, yb3⟩ := HY3.out.cells
      simp only at xa0 xa1 xa2 xa3 ya0 ya1 ya2 ya3 xb0 xb1 xb2 xb3 yb0 yb1 yb2 yb3
      clear A1 A2 HB2 HX2 HY2
      have K2 := whole_all (d := d) R2.out
      have K4 := whole_self R1.out
      simp only [K2] at H2
      simp only [K4] at H4
      clear K2 K4
      obtain ⟨p0, p1, p2, p3⟩ := HW.out.cells
      simp only at p0 p1 p2 p3
      by_cases hv : 0 < a
      · by_cases he : a = a2
        · have K1 := whole_one R1.out R2.out hv he
          simp only [K1] at H1
          have e1 : (a == a2) = true := by simp [he]
          have e2 : (a != a2) = false := by simp [he]
          have hv2 : 0 < a2 := by omega
          clear K1 he
          cases d
          · cases d2
            · go_wp2_with fail
              refine (H1.out _).mono ?_
              rintro e w4 ⟨rfl, hb4⟩
              have HB4 := hide (nextB HB3.out hb4)
              have HX4 := hide (HX3.out.below hb4)
              have HY4 := hide (HY3.out.below hb4)
              have HW4 := hide (HW.out.below hb4)
              have HV4 := hide (HV.out.below hb4)
              clear hb4 x0 x1 x2 x3 y0 y1 y2 y3 xa0 xa1 xa2 xa3 ya0 ya1 ya2 ya3 xb0 xb1 xb2 xb3 yb0 yb1 yb2 yb3
              obtain ⟨x0, x1, x2, x3⟩ := HX4.out.cells
              obtain ⟨y0, y1, y2, y3⟩ := HY4.out.cells
              simp only at x0 x1 x2 x3 y0 y1 y2 y3
              obtain ⟨v0, v1, v2, v3⟩ := HV4.out.cells
              simp only at v0 v1 v2 v3
              go_wp2_with fail
              refine (H2.out _).mono ?_
              rintro e w5 ⟨rfl, hb5⟩
              have HB5 := hide (nextB HB4.out hb5)
              have HX5 := hide (HX4.out.below hb5)
              have HY5 := hide (HY4.out.below hb5)
              have HW5 := hide (HW4.out.below hb5)
              have HV5 := hide (HV4.out.below hb5)
              clear v0 v1 v2 v3 hb5 x0 x1 x2 x3 y0 y1 y2 y3
              obtain ⟨x0, x1, x2, x3⟩ := HX5.out.cells
              obtain ⟨y0, y1, y2, y3⟩ := HY5.out.cells
              simp only at x0 x1 x2 x3 y0 y1 y2 y3
              obtain ⟨v0, v1, v2, v3⟩ := HV5.out.cells
              simp only at v0 v1 v2 v3
              clear v0 v1 v2 v3
              have HSB := hide (BoxS.new w5 ⟨a, b, c, false⟩ 24)
              have A3 := bel_alloc w5 (.cells #[.int .i64 a, .int .i64 b, .int .i64 c, .bool false] 24)
              have HBS := hide (nextB HB5.out A3)
              have HXS := hide (HX5.out.below A3)
              clear A3
              go_wp2_with fail
              clear x0 x1 x2 x3 y0 y1 y2 y3
              obtain ⟨wS, hwS⟩ : ∃ wS, w5.alloc (.cells #[.int .i64 a, .int .i64 b, .int .i64 c, .bool false] 24) = wS := ⟨_, rfl⟩
              obtain ⟨bs, hbs⟩ : ∃ bs, w5.heap.size = bs := ⟨_, rfl⟩
              simp only [hwS, hbs] at HSB HBS HXS ⊢
              clear hwS hbs
              have hsb := HSB.out
              have hxs := HXS.out
              refine wp_region_held_drew (S := fun wx => Below wS.heap.size wS wx) (by kernel_rfl) (below_drew0 wS) (fun hS => ?_)
              refine take_want 0 (some 77) (spV ⟨a, b, c, false⟩) rfl rfl rfl (by kernel_rfl) (by kernel_rfl) (by kernel_rfl) (fun _ _ _ h => h) (fun wx hx => exec_load rfl (load_span (hsb.below hx)) rfl) hS ?_
              simp only [Act.put, List.setIfInBounds_toArray, List.set_cons_zero, List.set_cons_succ]
              refine take_want 1 (some 78) (spV ⟨a, b, c, false⟩) rfl rfl rfl (by kernel_rfl) (by kernel_rfl) (by kernel_rfl) (fun _ _ _ h => h) (fun wx hx => exec_load rfl (load_span (hsb.below hx)) rfl) hS ?_
              simp only [Act.put, List.setIfInBounds_toArray, List.set_cons_zero, List.set_cons_succ]
              refine take_want 3 (some 80) (.pointer (some ⟨bx, 0 + 3, none⟩)) rfl rfl rfl (by kernel_rfl) (by kernel_rfl) (by kernel_rfl) (fun _ _ _ h => h) (fun wx hx => exec_field rfl (fldS3 _ _ wx) rfl) hS ?_
              simp only [Act.put, List.setIfInBounds_toArray, List.set_cons_zero, List.set_cons_succ]
              refine take_want 4 (some 81) (.bool false) rfl rfl rfl (by kernel_rfl) (by kernel_rfl) (by kernel_rfl) (fun _ _ _ h => h) (fun wx hx => exec_load rfl (load_boolV (by rw [Nat.zero_add]; exact (hxs.below hx).cells.2.2.2)) rfl) hS ?_
              simp only [Act.put, List.setIfInBounds_toArray, List.set_cons_zero, List.set_cons_succ]
              refine call_want 2 (some 79) rfl rfl rfl (by kernel_rfl) (exec_call2 rfl enterClash rfl rfl rfl) ((H4.out _).mono ?_)
              rintro e wA ⟨rfl, hbA⟩
              have hSA := nextB hS hbA
              refine ⟨_, rfl, hSA, ?_⟩
              clear hbA
              simp only [Act.put, List.setIfInBounds_toArray, List.set_cons_zero, List.set_cons_succ]
              refine take_want 5 (some 82) (.bool true) rfl rfl rfl (by kernel_rfl) (by kernel_rfl) (by kernel_rfl) (fun _ _ _ h => h) (fun wx hx => exec_eqlB (p := false) (q := false) rfl rfl rfl rfl) hSA ?_
              simp only [Act.put, List.setIfInBounds_toArray, List.set_cons_zero, List.set_cons_succ]
              refine take_want 6 (some 83) (.bool true) rfl rfl rfl (by kernel_rfl) (by kernel_rfl) (by kernel_rfl) (fun _ _ _ h => h) (fun wx hx => exec_move rfl rfl) hSA ?_
              simp only [Act.put, List.setIfInBounds_toArray, List.set_cons_zero, List.set_cons_succ]
              refine call_want 7 (some 84) rfl rfl rfl (by kernel_rfl) (exec_call0 rfl enterAwake rfl) ((awake_any _).mono ?_)
              rintro e wB ⟨rfl, hbB⟩
              have hSB := nextB hSA hbB
              refine ⟨_, rfl, hSB, ?_⟩
              clear hbB
              simp only [Act.put, List.setIfInBounds_toArray, List.set_cons_zero, List.set_cons_succ]
              refine take_want 8 (some 85) (.bool true) rfl rfl rfl (by kernel_rfl) (by kernel_rfl) (by kernel_rfl) (fun _ _ _ h => h) (fun wx hx => exec_pickT rfl rfl rfl) hSB ?_
              simp only [Act.put, List.setIfInBounds_toArray, List.set_cons_zero, List.set_cons_succ]
              refine take_want 9 (some 4) (.bool true) rfl rfl rfl (by kernel_rfl) (by kernel_rfl) (by kernel_rfl) (fun _ _ _ h => h) (fun wx hx => exec_assign rfl rfl) hSB ?_
              simp only [Act.put, List.setIfInBounds_toArray, List.set_cons_zero, List.set_cons_succ]
              refine wpAnyH_done (by kernel_rfl) ?_ _
              have HBF := hide (nextB HBS.out hSB)
              clear hSA hSB hS hsb hxs
              go_wp2_with fail
              go_ret
              exact ⟨rfl, HBF.out⟩
            · go_wp2_with fail
              refine (H1.out _).mono ?_
              rintro e w4 ⟨rfl, hb4⟩
              have HB4 := hide (nextB HB3.out hb4)
              have HX4 := hide (HX3.out.below hb4)
              have HY4 := hide (HY3.out.below hb4)
              have HW4 := hide (HW.out.below hb4)
              have HV4 := hide (HV.out.below hb4)
              clear hb4 x0 x1 x2 x3 y0 y1 y2 y3 xa0 xa1 xa2 xa3 ya0 ya1 ya2 ya3 xb0 xb1 xb2 xb3 yb0 yb1 yb2 yb3
              obtain ⟨x0, x1, x2, x3⟩ := HX4.out.cells
              obtain ⟨y0, y1, y2, y3⟩ := HY4.out.cells
              simp only at x0 x1 x2 x3 y0 y1 y2 y3
              obtain ⟨v0, v1, v2, v3⟩ := HV4.out.cells
              simp only at v0 v1 v2 v3
              go_wp2_with fail
              refine (H2.out _).mono ?_
              rintro e w5 ⟨rfl, hb5⟩
              have HB5 := hide (nextB HB4.out hb5)
              have HX5 := hide (HX4.out.below hb5)
              have HY5 := hide (HY4.out.below hb5)
              have HW5 := hide (HW4.out.below hb5)
              have HV5 := hide (HV4.out.below hb5)
              clear v0 v1 v2 v3 hb5 x0 x1 x2 x3 y0 y1 y2 y3
              obtain ⟨x0, x1, x2, x3⟩ := HX5.out.cells
              obtain ⟨y0, y1, y2, y3⟩ := HY5.out.cells
              simp only at x0 x1 x2 x3 y0 y1 y2 y3
              obtain ⟨v0, v1, v2, v3⟩ := HV5.out.cells
              simp only at v0 v1 v2 v3
              clear v0 v1 v2 v3
              have HSB := hide (BoxS.new w5 ⟨a, b, c, false⟩ 24)
              have A3 := bel_alloc w5 (.cells #[.int .i64 a, .int .i64 b, .int .i64 c, .bool false] 24)
              have HBS := hide (nextB HB5.out A3)
              have HXS := hide (HX5.out.below A3)
              clear A3
              go_wp2_with fail
              clear x0 x1 x2 x3 y0 y1 y2 y3
              obtain ⟨wS, hwS⟩ : ∃ wS, w5.alloc (.cells #[.int .i64 a, .int .i64 b, .int .i64 c, .bool false] 24) = wS := ⟨_, rfl⟩
              obtain ⟨bs, hbs⟩ : ∃ bs, w5.heap.size = bs := ⟨_, rfl⟩
              simp only [hwS, hbs] at HSB HBS HXS ⊢
              clear hwS hbs
              have hsb := HSB.out
              have hxs := HXS.out
              refine wp_region_held_drew (S := fun wx => Below wS.heap.size wS wx) (by kernel_rfl) (below_drew0 wS) (fun hS => ?_)
              refine take_want 0 (some 77) (spV ⟨a, b, c, false⟩) rfl rfl rfl (by kernel_rfl) (by kernel_rfl) (by kernel_rfl) (fun _ _ _ h => h) (fun wx hx => exec_load rfl (load_span (hsb.below hx)) rfl) hS ?_
              simp only [Act.put, List.setIfInBounds_toArray, List.set_cons_zero, List.set_cons_succ]
              refine take_want 1 (some 78) (spV ⟨a, b, c, false⟩) rfl rfl rfl (by kernel_rfl) (by kernel_rfl) (by kernel_rfl) (fun _ _ _ h => h) (fun wx hx => exec_load rfl (load_span (hsb.below hx)) rfl) hS ?_
              simp only [Act.put, List.setIfInBounds_toArray, List.set_cons_zero, List.set_cons_succ]
              refine take_want 3 (some 80) (.pointer (some ⟨bx, 0 + 3, none⟩)) rfl rfl rfl (by kernel_rfl) (by kernel_rfl) (by kernel_rfl) (fun _ _ _ h => h) (fun wx hx => exec_field rfl (fldS3 _ _ wx) rfl) hS ?_
              simp only [Act.put, List.setIfInBounds_toArray, List.set_cons_zero, List.set_cons_succ]
              refine take_want 4 (some 81) (.bool false) rfl rfl rfl (by kernel_rfl) (by kernel_rfl) (by kernel_rfl) (fun _ _ _ h => h) (fun wx hx => exec_load rfl (load_boolV (by rw [Nat.zero_add]; exact (hxs.below hx).cells.2.2.2)) rfl) hS ?_
              simp only [Act.put, List.setIfInBounds_toArray, List.set_cons_zero, List.set_cons_succ]
              refine call_want 2 (some 79) rfl rfl rfl (by kernel_rfl) (exec_call2 rfl enterClash rfl rfl rfl) ((H4.out _).mono ?_)
              rintro e wA ⟨rfl, hbA⟩
              have hSA := nextB hS hbA
              refine ⟨_, rfl, hSA, ?_⟩
              clear hbA
              simp only [Act.put, List.setIfInBounds_toArray, List.set_cons_zero, List.set_cons_succ]
              refine take_want 5 (some 82) (.bool true) rfl rfl rfl (by kernel_rfl) (by kernel_rfl) (by kernel_rfl) (fun _ _ _ h => h) (fun wx hx => exec_eqlB (p := false) (q := false) rfl rfl rfl rfl) hSA ?_
              simp only [Act.put, List.setIfInBounds_toArray, List.set_cons_zero, List.set_cons_succ]
              refine take_want 6 (some 83) (.bool true) rfl rfl rfl (by kernel_rfl) (by kernel_rfl) (by kernel_rfl) (fun _ _ _ h => h) (fun wx hx => exec_move rfl rfl) hSA ?_
              simp only [Act.put, List.setIfInBounds_toArray, List.set_cons_zero, List.set_cons_succ]
              refine call_want 7 (some 84) rfl rfl rfl (by kernel_rfl) (exec_call0 rfl enterAwake rfl) ((awake_any _).mono ?_)
              rintro e wB ⟨rfl, hbB⟩
              have hSB := nextB hSA hbB
              refine ⟨_, rfl, hSB, ?_⟩
              clear hbB
              simp only [Act.put, List.setIfInBounds_toArray, List.set_cons_zero, List.set_cons_succ]
              refine take_want 8 (some 85) (.bool true) rfl rfl rfl (by kernel_rfl) (by kernel_rfl) (by kernel_rfl) (fun _ _ _ h => h) (fun wx hx => exec_pickT rfl rfl rfl) hSB ?_
              simp only [Act.put, List.setIfInBounds_toArray, List.set_cons_zero, List.set_cons_succ]
              refine take_want 9 (some 4) (.bool true) rfl rfl rfl (by kernel_rfl) (by kernel_rfl) (by kernel_rfl) (fun _ _ _ h => h) (fun wx hx => exec_assign rfl rfl) hSB ?_
              simp only [Act.put, List.setIfInBounds_toArray, List.set_cons_zero, List.set_cons_succ]
              refine wpAnyH_done (by kernel_rfl) ?_ _
              have HBF := hide (nextB HBS.out hSB)
              clear hSA hSB hS hsb hxs
              go_wp2_with fail
              go_ret
              exact ⟨rfl, HBF.out⟩
          · cases d2
            · go_wp2_with fail
              refine (H1.out _).mono ?_
              rintro e w4 ⟨rfl, hb4⟩
              have HB4 := hide (nextB HB3.out hb4)
              have HX4 := hide (HX3.out.below hb4)
              have HY4 := hide (HY3.out.below hb4)
              have HW4 := hide (HW.out.below hb4)
              have HV4 := hide (HV.out.below hb4)
              clear hb4 x0 x1 x2 x3 y0 y1 y2 y3 xa0 xa1 xa2 xa3 ya0 ya1 ya2 ya3 xb0 xb1 xb2 xb3 yb0 yb1 yb2 yb3
              obtain ⟨x0, x1, x2, x3⟩ := HX4.out.cells
              obtain ⟨y0, y1, y2, y3⟩ := HY4.out.cells
              simp only at x0 x1 x2 x3 y0 y1 y2 y3
              obtain ⟨v0, v1, v2, v3⟩ := HV4.out.cells
              simp only at v0 v1 v2 v3
              go_wp2_with fail
              refine (H2.out _).mono ?_
              rintro e w5 ⟨rfl, hb5⟩
              have HB5 := hide (nextB HB4.out hb5)
              have HX5 := hide (HX4.out.below hb5)
              have HY5 := hide (HY4.out.below hb5)
              have HW5 := hide (HW4.out.below hb5)
              have HV5 := hide (HV4.out.below hb5)
              clear v0 v1 v2 v3 hb5 x0 x1 x2 x3 y0 y1 y2 y3
              obtain ⟨x0, x1, x2, x3⟩ := HX5.out.cells
              obtain ⟨y0, y1, y2, y3⟩ := HY5.out.cells
              simp only at x0 x1 x2 x3 y0 y1 y2 y3
              obtain ⟨v0, v1, v2, v3⟩ := HV5.out.cells
              simp only at v0 v1 v2 v3
              clear v0 v1 v2 v3
              have HSB := hide (BoxS.new w5 ⟨a, b, c, true⟩ 24)
              have A3 := bel_alloc w5 (.cells #[.int .i64 a, .int .i64 b, .int .i64 c, .bool true] 24)
              have HBS := hide (nextB HB5.out A3)
              have HXS := hide (HX5.out.below A3)
              clear A3
              go_wp2_with fail
              clear x0 x1 x2 x3 y0 y1 y2 y3
              obtain ⟨wS, hwS⟩ : ∃ wS, w5.alloc (.cells #[.int .i64 a, .int .i64 b, .int .i64 c, .bool true] 24) = wS := ⟨_, rfl⟩
              obtain ⟨bs, hbs⟩ : ∃ bs, w5.heap.size = bs := ⟨_, rfl⟩
              simp only [hwS, hbs] at HSB HBS HXS ⊢
              clear hwS hbs
              have hsb := HSB.out
              have hxs := HXS.out
              refine wp_region_held_drew (S := fun wx => Below wS.heap.size wS wx) (by kernel_rfl) (below_drew0 wS) (fun hS => ?_)
              refine take_want 0 (some 77) (spV ⟨a, b, c, true⟩) rfl rfl rfl (by kernel_rfl) (by kernel_rfl) (by kernel_rfl) (fun _ _ _ h => h) (fun wx hx => exec_load rfl (load_span (hsb.below hx)) rfl) hS ?_
              simp only [Act.put, List.setIfInBounds_toArray, List.set_cons_zero, List.set_cons_succ]
              refine take_want 1 (some 78) (spV ⟨a, b, c, true⟩) rfl rfl rfl (by kernel_rfl) (by kernel_rfl) (by kernel_rfl) (fun _ _ _ h => h) (fun wx hx => exec_load rfl (load_span (hsb.below hx)) rfl) hS ?_
              simp only [Act.put, List.setIfInBounds_toArray, List.set_cons_zero, List.set_cons_succ]
              refine take_want 3 (some 80) (.pointer (some ⟨bx, 0 + 3, none⟩)) rfl rfl rfl (by kernel_rfl) (by kernel_rfl) (by kernel_rfl) (fun _ _ _ h => h) (fun wx hx => exec_field rfl (fldS3 _ _ wx) rfl) hS ?_
              simp only [Act.put, List.setIfInBounds_toArray, List.set_cons_zero, List.set_cons_succ]
              refine take_want 4 (some 81) (.bool true) rfl rfl rfl (by kernel_rfl) (by kernel_rfl) (by kernel_rfl) (fun _ _ _ h => h) (fun wx hx => exec_load rfl (load_boolV (by rw [Nat.zero_add]; exact (hxs.below hx).cells.2.2.2)) rfl) hS ?_
              simp only [Act.put, List.setIfInBounds_toArray, List.set_cons_zero, List.set_cons_succ]
              refine call_want 2 (some 79) rfl rfl rfl (by kernel_rfl) (exec_call2 rfl enterClash rfl rfl rfl) ((H4.out _).mono ?_)
              rintro e wA ⟨rfl, hbA⟩
              have hSA := nextB hS hbA
              refine ⟨_, rfl, hSA, ?_⟩
              clear hbA
              simp only [Act.put, List.setIfInBounds_toArray, List.set_cons_zero, List.set_cons_succ]
              refine take_want 5 (some 82) (.bool true) rfl rfl rfl (by kernel_rfl) (by kernel_rfl) (by kernel_rfl) (fun _ _ _ h => h) (fun wx hx => exec_eqlB (p := true) (q := true) rfl rfl rfl rfl) hSA ?_
              simp only [Act.put, List.setIfInBounds_toArray, List.set_cons_zero, List.set_cons_succ]
              refine take_want 6 (some 83) (.bool true) rfl rfl rfl (by kernel_rfl) (by kernel_rfl) (by kernel_rfl) (fun _ _ _ h => h) (fun wx hx => exec_move rfl rfl) hSA ?_
              simp only [Act.put, List.setIfInBounds_toArray, List.set_cons_zero, List.set_cons_succ]
              refine call_want 7 (some 84) rfl rfl rfl (by kernel_rfl) (exec_call0 rfl enterAwake rfl) ((awake_any _).mono ?_)
              rintro e wB ⟨rfl, hbB⟩
              have hSB := nextB hSA hbB
              refine ⟨_, rfl, hSB, ?_⟩
              clear hbB
              simp only [Act.put, List.setIfInBounds_toArray, List.set_cons_zero, List.set_cons_succ]
              refine take_want 8 (some 85) (.bool true) rfl rfl rfl (by kernel_rfl) (by kernel_rfl) (by kernel_rfl) (fun _ _ _ h => h) (fun wx hx => exec_pickT rfl rfl rfl) hSB ?_
              simp only [Act.put, List.setIfInBounds_toArray, List.set_cons_zero, List.set_cons_succ]
              refine take_want 9 (some 4) (.bool true) rfl rfl rfl (by kernel_rfl) (by kernel_rfl) (by kernel_rfl) (fun _ _ _ h => h) (fun wx hx => exec_assign rfl rfl) hSB ?_
              simp only [Act.put, List.setIfInBounds_toArray, List.set_cons_zero, List.set_cons_succ]
              refine wpAnyH_done (by kernel_rfl) ?_ _
              have HBF := hide (nextB HBS.out hSB)
              clear hSA hSB hS hsb hxs
              go_wp2_with fail
              go_ret
              exact ⟨rfl, HBF.out⟩
            · go_wp2_with fail
              refine (H1.out _).mono ?_
              rintro e w4 ⟨rfl, hb4⟩
              have HB4 := hide (nextB HB3.out hb4)
              have HX4 := hide (HX3.out.below hb4)
              have HY4 := hide (HY3.out.below hb4)
              have HW4 := hide (HW.out.below hb4)
              have HV4 := hide (HV.out.below hb4)
              clear hb4 x0 x1 x2 x3 y0 y1 y2 y3 xa0 xa1 xa2 xa3 ya0 ya1 ya2 ya3 xb0 xb1 xb2 xb3 yb0 yb1 yb2 yb3
              obtain ⟨x0, x1, x2, x3⟩ := HX4.out.cells
              obtain ⟨y0, y1, y2, y3⟩ := HY4.out.cells
              simp only at x0 x1 x2 x3 y0 y1 y2 y3
              obtain ⟨v0, v1, v2, v3⟩ := HV4.out.cells
              simp only at v0 v1 v2 v3
              go_wp2_with fail
              refine (H2.out _).mono ?_
              rintro e w5 ⟨rfl, hb5⟩
              have HB5 := hide (nextB HB4.out hb5)
              have HX5 := hide (HX4.out.below hb5)
              have HY5 := hide (HY4.out.below hb5)
              have HW5 := hide (HW4.out.below hb5)
              have HV5 := hide (HV4.out.below hb5)
              clear v0 v1 v2 v3 hb5 x0 x1 x2 x3 y0 y1 y2 y3
              obtain ⟨x0, x1, x2, x3⟩ := HX5.out.cells
              obtain ⟨y0, y1, y2, y3⟩ := HY5.out.cells
              simp only at x0 x1 x2 x3 y0 y1 y2 y3
              obtain ⟨v0, v1, v2, v3⟩ := HV5.out.cells
              simp only at v0 v1 v2 v3
              clear v0 v1 v2 v3
              have HSB := hide (BoxS.new w5 ⟨a, b, c, true⟩ 24)
              have A3 := bel_alloc w5 (.cells #[.int .i64 a, .int .i64 b, .int .i64 c, .bool true] 24)
              have HBS := hide (nextB HB5.out A3)
              have HXS := hide (HX5.out.below A3)
              clear A3
              go_wp2_with fail
              clear x0 x1 x2 x3 y0 y1 y2 y3
              obtain ⟨wS, hwS⟩ : ∃ wS, w5.alloc (.cells #[.int .i64 a, .int .i64 b, .int .i64 c, .bool true] 24) = wS := ⟨_, rfl⟩
              obtain ⟨bs, hbs⟩ : ∃ bs, w5.heap.size = bs := ⟨_, rfl⟩
              simp only [hwS, hbs] at HSB HBS HXS ⊢
              clear hwS hbs
              have hsb := HSB.out
              have hxs := HXS.out
              refine wp_region_held_drew (S := fun wx => Below wS.heap.size wS wx) (by kernel_rfl) (below_drew0 wS) (fun hS => ?_)
              refine take_want 0 (some 77) (spV ⟨a, b, c, true⟩) rfl rfl rfl (by kernel_rfl) (by kernel_rfl) (by kernel_rfl) (fun _ _ _ h => h) (fun wx hx => exec_load rfl (load_span (hsb.below hx)) rfl) hS ?_
              simp only [Act.put, List.setIfInBounds_toArray, List.set_cons_zero, List.set_cons_succ]
              refine take_want 1 (some 78) (spV ⟨a, b, c, true⟩) rfl rfl rfl (by kernel_rfl) (by kernel_rfl) (by kernel_rfl) (fun _ _ _ h => h) (fun wx hx => exec_load rfl (load_span (hsb.below hx)) rfl) hS ?_
              simp only [Act.put, List.setIfInBounds_toArray, List.set_cons_zero, List.set_cons_succ]
              refine take_want 3 (some 80) (.pointer (some ⟨bx, 0 + 3, none⟩)) rfl rfl rfl (by kernel_rfl) (by kernel_rfl) (by kernel_rfl) (fun _ _ _ h => h) (fun wx hx => exec_field rfl (fldS3 _ _ wx) rfl) hS ?_
              simp only [Act.put, List.setIfInBounds_toArray, List.set_cons_zero, List.set_cons_succ]
              refine take_want 4 (some 81) (.bool true) rfl rfl rfl (by kernel_rfl) (by kernel_rfl) (by kernel_rfl) (fun _ _ _ h => h) (fun wx hx => exec_load rfl (load_boolV (by rw [Nat.zero_add]; exact (hxs.below hx).cells.2.2.2)) rfl) hS ?_
              simp only [Act.put, List.setIfInBounds_toArray, List.set_cons_zero, List.set_cons_succ]
              refine call_want 2 (some 79) rfl rfl rfl (by kernel_rfl) (exec_call2 rfl enterClash rfl rfl rfl) ((H4.out _).mono ?_)
              rintro e wA ⟨rfl, hbA⟩
              have hSA := nextB hS hbA
              refine ⟨_, rfl, hSA, ?_⟩
              clear hbA
              simp only [Act.put, List.setIfInBounds_toArray, List.set_cons_zero, List.set_cons_succ]
              refine take_want 5 (some 82) (.bool true) rfl rfl rfl (by kernel_rfl) (by kernel_rfl) (by kernel_rfl) (fun _ _ _ h => h) (fun wx hx => exec_eqlB (p := true) (q := true) rfl rfl rfl rfl) hSA ?_
              simp only [Act.put, List.setIfInBounds_toArray, List.set_cons_zero, List.set_cons_succ]
              refine take_want 6 (some 83) (.bool true) rfl rfl rfl (by kernel_rfl) (by kernel_rfl) (by kernel_rfl) (fun _ _ _ h => h) (fun wx hx => exec_move rfl rfl) hSA ?_
              simp only [Act.put, List.setIfInBounds_toArray, List.set_cons_zero, List.set_cons_succ]
              refine call_want 7 (some 84) rfl rfl rfl (by kernel_rfl) (exec_call0 rfl enterAwake rfl) ((awake_any _).mono ?_)
              rintro e wB ⟨rfl, hbB⟩
              have hSB := nextB hSA hbB
              refine ⟨_, rfl, hSB, ?_⟩
              clear hbB
              simp only [Act.put, List.setIfInBounds_toArray, List.set_cons_zero, List.set_cons_succ]
              refine take_want 8 (some 85) (.bool true) rfl rfl rfl (by kernel_rfl) (by kernel_rfl) (by kernel_rfl) (fun _ _ _ h => h) (fun wx hx => exec_pickT rfl rfl rfl) hSB ?_
              simp only [Act.put, List.setIfInBounds_toArray, List.set_cons_zero, List.set_cons_succ]
              refine take_want 9 (some 4) (.bool true) rfl rfl rfl (by kernel_rfl) (by kernel_rfl) (by kernel_rfl) (fun _ _ _ h => h) (fun wx hx => exec_assign rfl rfl) hSB ?_
              simp only [Act.put, List.setIfInBounds_toArray, List.set_cons_zero, List.set_cons_succ]
              refine wpAnyH_done (by kernel_rfl) ?_ _
              have HBF := hide (nextB HBS.out hSB)
              clear hSA hSB hS hsb hxs
              go_wp2_with fail
              go_ret
              exact ⟨rfl, HBF.out⟩
        · have e1 : (a == a2) = false := by simp [he]
          have e2 : (a != a2) = true := by simpa using he
          by_cases hv2 : 0 < a2
          · have K3 := whole_apart (b := b) (c := c) (b2 := b2) (c2 := c2) (d := d) (d2 := d2) hv hv2 he
            simp only [K3] at H3
            clear K3 he
            cases d
            · cases d2
              · go_wp2_with fail
                refine (H2.out _).mono ?_
                rintro e w4 ⟨rfl, hb4⟩
                have HB4 := hide (nextB HB3.out hb4)
                have HX4 := hide (HX3.out.below hb4)
                have HY4 := hide (HY3.out.below hb4)
                have HW4 := hide (HW.out.below hb4)
                have HV4 := hide (HV.out.below hb4)
                clear hb4 x0 x1 x2 x3 y0 y1 y2 y3 xa0 xa1 xa2 xa3 ya0 ya1 ya2 ya3 xb0 xb1 xb2 xb3 yb0 yb1 yb2 yb3
                obtain ⟨x0, x1, x2, x3⟩ := HX4.out.cells
                obtain ⟨y0, y1, y2, y3⟩ := HY4.out.cells
                simp only at x0 x1 x2 x3 y0 y1 y2 y3
                obtain ⟨v0, v1, v2, v3⟩ := HV4.out.cells
                simp only at v0 v1 v2 v3
                clear v0 v1 v2 v3
                go_wp2_with fail
                refine (H3.out _).mono ?_
                rintro e w5 ⟨rfl, hb5⟩
                have HB5 := hide (nextB HB4.out hb5)
                have HX5 := hide (HX4.out.below hb5)
                have HY5 := hide (HY4.out.below hb5)
                clear hb5 x0 x1 x2 x3 y0 y1 y2 y3
                obtain ⟨x0, x1, x2, x3⟩ := HX5.out.cells
                obtain ⟨y0, y1, y2, y3⟩ := HY5.out.cells
                simp only at x0 x1 x2 x3 y0 y1 y2 y3
                have HSB := hide (BoxS.new w5 ⟨a, b, c, false⟩ 24)
                have A3 := bel_alloc w5 (.cells #[.int .i64 a, .int .i64 b, .int .i64 c, .bool false] 24)
                have HBS := hide (nextB HB5.out A3)
                have HXS := hide (HX5.out.below A3)
                clear A3
                go_wp2_with fail
                clear x0 x1 x2 x3 y0 y1 y2 y3
                obtain ⟨wS, hwS⟩ : ∃ wS, w5.alloc (.cells #[.int .i64 a, .int .i64 b, .int .i64 c, .bool false] 24) = wS := ⟨_, rfl⟩
                obtain ⟨bs, hbs⟩ : ∃ bs, w5.heap.size = bs := ⟨_, rfl⟩
                simp only [hwS, hbs] at HSB HBS HXS ⊢
                clear hwS hbs
                have hsb := HSB.out
                have hxs := HXS.out
                refine wp_region_held_drew (S := fun wx => Below wS.heap.size wS wx) (by kernel_rfl) (below_drew0 wS) (fun hS => ?_)
                refine take_want 0 (some 77) (spV ⟨a, b, c, false⟩) rfl rfl rfl (by kernel_rfl) (by kernel_rfl) (by kernel_rfl) (fun _ _ _ h => h) (fun wx hx => exec_load rfl (load_span (hsb.below hx)) rfl) hS ?_
                simp only [Act.put, List.setIfInBounds_toArray, List.set_cons_zero, List.set_cons_succ]
                refine take_want 1 (some 78) (spV ⟨a, b, c, false⟩) rfl rfl rfl (by kernel_rfl) (by kernel_rfl) (by kernel_rfl) (fun _ _ _ h => h) (fun wx hx => exec_load rfl (load_span (hsb.below hx)) rfl) hS ?_
                simp only [Act.put, List.setIfInBounds_toArray, List.set_cons_zero, List.set_cons_succ]
                refine take_want 3 (some 80) (.pointer (some ⟨bx, 0 + 3, none⟩)) rfl rfl rfl (by kernel_rfl) (by kernel_rfl) (by kernel_rfl) (fun _ _ _ h => h) (fun wx hx => exec_field rfl (fldS3 _ _ wx) rfl) hS ?_
                simp only [Act.put, List.setIfInBounds_toArray, List.set_cons_zero, List.set_cons_succ]
                refine take_want 4 (some 81) (.bool false) rfl rfl rfl (by kernel_rfl) (by kernel_rfl) (by kernel_rfl) (fun _ _ _ h => h) (fun wx hx => exec_load rfl (load_boolV (by rw [Nat.zero_add]; exact (hxs.below hx).cells.2.2.2)) rfl) hS ?_
                simp only [Act.put, List.setIfInBounds_toArray, List.set_cons_zero, List.set_cons_succ]
                refine call_want 2 (some 79) rfl rfl rfl (by kernel_rfl) (exec_call2 rfl enterClash rfl rfl rfl) ((H4.out _).mono ?_)
                rintro e wA ⟨rfl, hbA⟩
                have hSA := nextB hS hbA
                refine ⟨_, rfl, hSA, ?_⟩
                clear hbA
                simp only [Act.put, List.setIfInBounds_toArray, List.set_cons_zero, List.set_cons_succ]
                refine take_want 5 (some 82) (.bool true) rfl rfl rfl (by kernel_rfl) (by kernel_rfl) (by kernel_rfl) (fun _ _ _ h => h) (fun wx hx => exec_eqlB (p := false) (q := false) rfl rfl rfl rfl) hSA ?_
                simp only [Act.put, List.setIfInBounds_toArray, List.set_cons_zero, List.set_cons_succ]
                refine take_want 6 (some 83) (.bool true) rfl rfl rfl (by kernel_rfl) (by kernel_rfl) (by kernel_rfl) (fun _ _ _ h => h) (fun wx hx => exec_move rfl rfl) hSA ?_
                simp only [Act.put, List.setIfInBounds_toArray, List.set_cons_zero, List.set_cons_succ]
                refine call_want 7 (some 84) rfl rfl rfl (by kernel_rfl) (exec_call0 rfl enterAwake rfl) ((awake_any _).mono ?_)
                rintro e wB ⟨rfl, hbB⟩
                have hSB := nextB hSA hbB
                refine ⟨_, rfl, hSB, ?_⟩
                clear hbB
                simp only [Act.put, List.setIfInBounds_toArray, List.set_cons_zero, List.set_cons_succ]
                refine take_want 8 (some 85) (.bool true) rfl rfl rfl (by kernel_rfl) (by kernel_rfl) (by kernel_rfl) (fun _ _ _ h => h) (fun wx hx => exec_pickT rfl rfl rfl) hSB ?_
                simp only [Act.put, List.setIfInBounds_toArray, List.set_cons_zero, List.set_cons_succ]
                refine take_want 9 (some 4) (.bool true) rfl rfl rfl (by kernel_rfl) (by kernel_rfl) (by kernel_rfl) (fun _ _ _ h => h) (fun wx hx => exec_assign rfl rfl) hSB ?_
                simp only [Act.put, List.setIfInBounds_toArray, List.set_cons_zero, List.set_cons_succ]
                refine wpAnyH_done (by kernel_rfl) ?_ _
                have HBF := hide (nextB HBS.out hSB)
                clear hSA hSB hS hsb hxs
                go_wp2_with fail
                go_ret
                exact ⟨rfl, HBF.out⟩
              · go_wp2_with fail
                refine (H2.out _).mono ?_
                rintro e w4 ⟨rfl, hb4⟩
                have HB4 := hide (nextB HB3.out hb4)
                have HX4 := hide (HX3.out.below hb4)
                have HY4 := hide (HY3.out.below hb4)
                have HW4 := hide (HW.out.below hb4)
                have HV4 := hide (HV.out.below hb4)
                clear hb4 x0 x1 x2 x3 y0 y1 y2 y3 xa0 xa1 xa2 xa3 ya0 ya1 ya2 ya3 xb0 xb1 xb2 xb3 yb0 yb1 yb2 yb3
                obtain ⟨x0, x1, x2, x3⟩ := HX4.out.cells
                obtain ⟨y0, y1, y2, y3⟩ := HY4.out.cells
                simp only at x0 x1 x2 x3 y0 y1 y2 y3
                obtain ⟨v0, v1, v2, v3⟩ := HV4.out.cells
                simp only at v0 v1 v2 v3
                clear v0 v1 v2 v3
                go_wp2_with fail
                refine (H3.out _).mono ?_
                rintro e w5 ⟨rfl, hb5⟩
                have HB5 := hide (nextB HB4.out hb5)
                have HX5 := hide (HX4.out.below hb5)
                have HY5 := hide (HY4.out.below hb5)
                clear hb5 x0 x1 x2 x3 y0 y1 y2 y3
                obtain ⟨x0, x1, x2, x3⟩ := HX5.out.cells
                obtain ⟨y0, y1, y2, y3⟩ := HY5.out.cells
                simp only at x0 x1 x2 x3 y0 y1 y2 y3
                have HSB := hide (BoxS.new w5 ⟨a, b, c, false⟩ 24)
                have A3 := bel_alloc w5 (.cells #[.int .i64 a, .int .i64 b, .int .i64 c, .bool false] 24)
                have HBS := hide (nextB HB5.out A3)
                have HXS := hide (HX5.out.below A3)
                clear A3
                go_wp2_with fail
                clear x0 x1 x2 x3 y0 y1 y2 y3
                obtain ⟨wS, hwS⟩ : ∃ wS, w5.alloc (.cells #[.int .i64 a, .int .i64 b, .int .i64 c, .bool false] 24) = wS := ⟨_, rfl⟩
                obtain ⟨bs, hbs⟩ : ∃ bs, w5.heap.size = bs := ⟨_, rfl⟩
                simp only [hwS, hbs] at HSB HBS HXS ⊢
                clear hwS hbs
                have hsb := HSB.out
                have hxs := HXS.out
                refine wp_region_held_drew (S := fun wx => Below wS.heap.size wS wx) (by kernel_rfl) (below_drew0 wS) (fun hS => ?_)
                refine take_want 0 (some 77) (spV ⟨a, b, c, false⟩) rfl rfl rfl (by kernel_rfl) (by kernel_rfl) (by kernel_rfl) (fun _ _ _ h => h) (fun wx hx => exec_load rfl (load_span (hsb.below hx)) rfl) hS ?_
                simp only [Act.put, List.setIfInBounds_toArray, List.set_cons_zero, List.set_cons_succ]
                refine take_want 1 (some 78) (spV ⟨a, b, c, false⟩) rfl rfl rfl (by kernel_rfl) (by kernel_rfl) (by kernel_rfl) (fun _ _ _ h => h) (fun wx hx => exec_load rfl (load_span (hsb.below hx)) rfl) hS ?_
                simp only [Act.put, List.setIfInBounds_toArray, List.set_cons_zero, List.set_cons_succ]
                refine take_want 3 (some 80) (.pointer (some ⟨bx, 0 + 3, none⟩)) rfl rfl rfl (by kernel_rfl) (by kernel_rfl) (by kernel_rfl) (fun _ _ _ h => h) (fun wx hx => exec_field rfl (fldS3 _ _ wx) rfl) hS ?_
                simp only [Act.put, List.setIfInBounds_toArray, List.set_cons_zero, List.set_cons_succ]
                refine take_want 4 (some 81) (.bool false) rfl rfl rfl (by kernel_rfl) (by kernel_rfl) (by kernel_rfl) (fun _ _ _ h => h) (fun wx hx => exec_load rfl (load_boolV (by rw [Nat.zero_add]; exact (hxs.below hx).cells.2.2.2)) rfl) hS ?_
                simp only [Act.put, List.setIfInBounds_toArray, List.set_cons_zero, List.set_cons_succ]
                refine call_want 2 (some 79) rfl rfl rfl (by kernel_rfl) (exec_call2 rfl enterClash rfl rfl rfl) ((H4.out _).mono ?_)
                rintro e wA ⟨rfl, hbA⟩
                have hSA := nextB hS hbA
                refine ⟨_, rfl, hSA, ?_⟩
                clear hbA
                simp only [Act.put, List.setIfInBounds_toArray, List.set_cons_zero, List.set_cons_succ]
                refine take_want 5 (some 82) (.bool true) rfl rfl rfl (by kernel_rfl) (by kernel_rfl) (by kernel_rfl) (fun _ _ _ h => h) (fun wx hx => exec_eqlB (p := false) (q := false) rfl rfl rfl rfl) hSA ?_
                simp only [Act.put, List.setIfInBounds_toArray, List.set_cons_zero, List.set_cons_succ]
                refine take_want 6 (some 83) (.bool true) rfl rfl rfl (by kernel_rfl) (by kernel_rfl) (by kernel_rfl) (fun _ _ _ h => h) (fun wx hx => exec_move rfl rfl) hSA ?_
                simp only [Act.put, List.setIfInBounds_toArray, List.set_cons_zero, List.set_cons_succ]
                refine call_want 7 (some 84) rfl rfl rfl (by kernel_rfl) (exec_call0 rfl enterAwake rfl) ((awake_any _).mono ?_)
                rintro e wB ⟨rfl, hbB⟩
                have hSB := nextB hSA hbB
                refine ⟨_, rfl, hSB, ?_⟩
                clear hbB
                simp only [Act.put, List.setIfInBounds_toArray, List.set_cons_zero, List.set_cons_succ]
                refine take_want 8 (some 85) (.bool true) rfl rfl rfl (by kernel_rfl) (by kernel_rfl) (by kernel_rfl) (fun _ _ _ h => h) (fun wx hx => exec_pickT rfl rfl rfl) hSB ?_
                simp only [Act.put, List.setIfInBounds_toArray, List.set_cons_zero, List.set_cons_succ]
                refine take_want 9 (some 4) (.bool true) rfl rfl rfl (by kernel_rfl) (by kernel_rfl) (by kernel_rfl) (fun _ _ _ h => h) (fun wx hx => exec_assign rfl rfl) hSB ?_
                simp only [Act.put, List.setIfInBounds_toArray, List.set_cons_zero, List.set_cons_succ]
                refine wpAnyH_done (by kernel_rfl) ?_ _
                have HBF := hide (nextB HBS.out hSB)
                clear hSA hSB hS hsb hxs
                go_wp2_with fail
                go_ret
                exact ⟨rfl, HBF.out⟩
            · cases d2
              · go_wp2_with fail
                refine (H2.out _).mono ?_
                rintro e w4 ⟨rfl, hb4⟩
                have HB4 := hide (nextB HB3.out hb4)
                have HX4 := hide (HX3.out.below hb4)
                have HY4 := hide (HY3.out.below hb4)
                have HW4 := hide (HW.out.below hb4)
                have HV4 := hide (HV.out.below hb4)
                clear hb4 x0 x1 x2 x3 y0 y1 y2 y3 xa0 xa1 xa2 xa3 ya0 ya1 ya2 ya3 xb0 xb1 xb2 xb3 yb0 yb1 yb2 yb3
                obtain ⟨x0, x1, x2, x3⟩ := HX4.out.cells
                obtain ⟨y0, y1, y2, y3⟩ := HY4.out.cells
                simp only at x0 x1 x2 x3 y0 y1 y2 y3
                obtain ⟨v0, v1, v2, v3⟩ := HV4.out.cells
                simp only at v0 v1 v2 v3
                clear v0 v1 v2 v3
                go_wp2_with fail
                refine (H3.out _).mono ?_
                rintro e w5 ⟨rfl, hb5⟩
                have HB5 := hide (nextB HB4.out hb5)
                have HX5 := hide (HX4.out.below hb5)
                have HY5 := hide (HY4.out.below hb5)
                clear hb5 x0 x1 x2 x3 y0 y1 y2 y3
                obtain ⟨x0, x1, x2, x3⟩ := HX5.out.cells
                obtain ⟨y0, y1, y2, y3⟩ := HY5.out.cells
                simp only at x0 x1 x2 x3 y0 y1 y2 y3
                have HSB := hide (BoxS.new w5 ⟨a, b, c, true⟩ 24)
                have A3 := bel_alloc w5 (.cells #[.int .i64 a, .int .i64 b, .int .i64 c, .bool true] 24)
                have HBS := hide (nextB HB5.out A3)
                have HXS := hide (HX5.out.below A3)
                clear A3
                go_wp2_with fail
                clear x0 x1 x2 x3 y0 y1 y2 y3
                obtain ⟨wS, hwS⟩ : ∃ wS, w5.alloc (.cells #[.int .i64 a, .int .i64 b, .int .i64 c, .bool true] 24) = wS := ⟨_, rfl⟩
                obtain ⟨bs, hbs⟩ : ∃ bs, w5.heap.size = bs := ⟨_, rfl⟩
                simp only [hwS, hbs] at HSB HBS HXS ⊢
                clear hwS hbs
                have hsb := HSB.out
                have hxs := HXS.out
                refine wp_region_held_drew (S := fun wx => Below wS.heap.size wS wx) (by kernel_rfl) (below_drew0 wS) (fun hS => ?_)
                refine take_want 0 (some 77) (spV ⟨a, b, c, true⟩) rfl rfl rfl (by kernel_rfl) (by kernel_rfl) (by kernel_rfl) (fun _ _ _ h => h) (fun wx hx => exec_load rfl (load_span (hsb.below hx)) rfl) hS ?_
                simp only [Act.put, List.setIfInBounds_toArray, List.set_cons_zero, List.set_cons_succ]
                refine take_want 1 (some 78) (spV ⟨a, b, c, true⟩) rfl rfl rfl (by kernel_rfl) (by kernel_rfl) (by kernel_rfl) (fun _ _ _ h => h) (fun wx hx => exec_load rfl (load_span (hsb.below hx)) rfl) hS ?_
                simp only [Act.put, List.setIfInBounds_toArray, List.set_cons_zero, List.set_cons_succ]
                refine take_want 3 (some 80) (.pointer (some ⟨bx, 0 + 3, none⟩)) rfl rfl rfl (by kernel_rfl) (by kernel_rfl) (by kernel_rfl) (fun _ _ _ h => h) (fun wx hx => exec_field rfl (fldS3 _ _ wx) rfl) hS ?_
                simp only [Act.put, List.setIfInBounds_toArray, List.set_cons_zero, List.set_cons_succ]
                refine take_want 4 (some 81) (.bool true) rfl rfl rfl (by kernel_rfl) (by kernel_rfl) (by kernel_rfl) (fun _ _ _ h => h) (fun wx hx => exec_load rfl (load_boolV (by rw [Nat.zero_add]; exact (hxs.below hx).cells.2.2.2)) rfl) hS ?_
                simp only [Act.put, List.setIfInBounds_toArray, List.set_cons_zero, List.set_cons_succ]
                refine call_want 2 (some 79) rfl rfl rfl (by kernel_rfl) (exec_call2 rfl enterClash rfl rfl rfl) ((H4.out _).mono ?_)
                rintro e wA ⟨rfl, hbA⟩
                have hSA := nextB hS hbA
                refine ⟨_, rfl, hSA, ?_⟩
                clear hbA
                simp only [Act.put, List.setIfInBounds_toArray, List.set_cons_zero, List.set_cons_succ]
                refine take_want 5 (some 82) (.bool true) rfl rfl rfl (by kernel_rfl) (by kernel_rfl) (by kernel_rfl) (fun _ _ _ h => h) (fun wx hx => exec_eqlB (p := true) (q := true) rfl rfl rfl rfl) hSA ?_
                simp only [Act.put, List.setIfInBounds_toArray, List.set_cons_zero, List.set_cons_succ]
                refine take_want 6 (some 83) (.bool true) rfl rfl rfl (by kernel_rfl) (by kernel_rfl) (by kernel_rfl) (fun _ _ _ h => h) (fun wx hx => exec_move rfl rfl) hSA ?_
                simp only [Act.put, List.setIfInBounds_toArray, List.set_cons_zero, List.set_cons_succ]
                refine call_want 7 (some 84) rfl rfl rfl (by kernel_rfl) (exec_call0 rfl enterAwake rfl) ((awake_any _).mono ?_)
                rintro e wB ⟨rfl, hbB⟩
                have hSB := nextB hSA hbB
                refine ⟨_, rfl, hSB, ?_⟩
                clear hbB
                simp only [Act.put, List.setIfInBounds_toArray, List.set_cons_zero, List.set_cons_succ]
                refine take_want 8 (some 85) (.bool true) rfl rfl rfl (by kernel_rfl) (by kernel_rfl) (by kernel_rfl) (fun _ _ _ h => h) (fun wx hx => exec_pickT rfl rfl rfl) hSB ?_
                simp only [Act.put, List.setIfInBounds_toArray, List.set_cons_zero, List.set_cons_succ]
                refine take_want 9 (some 4) (.bool true) rfl rfl rfl (by kernel_rfl) (by kernel_rfl) (by kernel_rfl) (fun _ _ _ h => h) (fun wx hx => exec_assign rfl rfl) hSB ?_
                simp only [Act.put, List.setIfInBounds_toArray, List.set_cons_zero, List.set_cons_succ]
                refine wpAnyH_done (by kernel_rfl) ?_ _
                have HBF := hide (nextB HBS.out hSB)
                clear hSA hSB hS hsb hxs
                go_wp2_with fail
                go_ret
                exact ⟨rfl, HBF.out⟩
              · go_wp2_with fail
                refine (H2.out _).mono ?_
                rintro e w4 ⟨rfl, hb4⟩
                have HB4 := hide (nextB HB3.out hb4)
                have HX4 := hide (HX3.out.below hb4)
                have HY4 := hide (HY3.out.below hb4)
                have HW4 := hide (HW.out.below hb4)
                have HV4 := hide (HV.out.below hb4)
                clear hb4 x0 x1 x2 x3 y0 y1 y2 y3 xa0 xa1 xa2 xa3 ya0 ya1 ya2 ya3 xb0 xb1 xb2 xb3 yb0 yb1 yb2 yb3
                obtain ⟨x0, x1, x2, x3⟩ := HX4.out.cells
                obtain ⟨y0, y1, y2, y3⟩ := HY4.out.cells
                simp only at x0 x1 x2 x3 y0 y1 y2 y3
                obtain ⟨v0, v1, v2, v3⟩ := HV4.out.cells
                simp only at v0 v1 v2 v3
                clear v0 v1 v2 v3
                go_wp2_with fail
                refine (H3.out _).mono ?_
                rintro e w5 ⟨rfl, hb5⟩
                have HB5 := hide (nextB HB4.out hb5)
                have HX5 := hide (HX4.out.below hb5)
                have HY5 := hide (HY4.out.below hb5)
                clear hb5 x0 x1 x2 x3 y0 y1 y2 y3
                obtain ⟨x0, x1, x2, x3⟩ := HX5.out.cells
                obtain ⟨y0, y1, y2, y3⟩ := HY5.out.cells
                simp only at x0 x1 x2 x3 y0 y1 y2 y3
                have HSB := hide (BoxS.new w5 ⟨a, b, c, true⟩ 24)
                have A3 := bel_alloc w5 (.cells #[.int .i64 a, .int .i64 b, .int .i64 c, .bool true] 24)
                have HBS := hide (nextB HB5.out A3)
                have HXS := hide (HX5.out.below A3)
                clear A3
                go_wp2_with fail
                clear x0 x1 x2 x3 y0 y1 y2 y3
                obtain ⟨wS, hwS⟩ : ∃ wS, w5.alloc (.cells #[.int .i64 a, .int .i64 b, .int .i64 c, .bool true] 24) = wS := ⟨_, rfl⟩
                obtain ⟨bs, hbs⟩ : ∃ bs, w5.heap.size = bs := ⟨_, rfl⟩
                simp only [hwS, hbs] at HSB HBS HXS ⊢
                clear hwS hbs
                have hsb := HSB.out
                have hxs := HXS.out
                refine wp_region_held_drew (S := fun wx => Below wS.heap.size wS wx) (by kernel_rfl) (below_drew0 wS) (fun hS => ?_)
                refine take_want 0 (some 77) (spV ⟨a, b, c, true⟩) rfl rfl rfl (by kernel_rfl) (by kernel_rfl) (by kernel_rfl) (fun _ _ _ h => h) (fun wx hx => exec_load rfl (load_span (hsb.below hx)) rfl) hS ?_
                simp only [Act.put, List.setIfInBounds_toArray, List.set_cons_zero, List.set_cons_succ]
                refine take_want 1 (some 78) (spV ⟨a, b, c, true⟩) rfl rfl rfl (by kernel_rfl) (by kernel_rfl) (by kernel_rfl) (fun _ _ _ h => h) (fun wx hx => exec_load rfl (load_span (hsb.below hx)) rfl) hS ?_
                simp only [Act.put, List.setIfInBounds_toArray, List.set_cons_zero, List.set_cons_succ]
                refine take_want 3 (some 80) (.pointer (some ⟨bx, 0 + 3, none⟩)) rfl rfl rfl (by kernel_rfl) (by kernel_rfl) (by kernel_rfl) (fun _ _ _ h => h) (fun wx hx => exec_field rfl (fldS3 _ _ wx) rfl) hS ?_
                simp only [Act.put, List.setIfInBounds_toArray, List.set_cons_zero, List.set_cons_succ]
                refine take_want 4 (some 81) (.bool true) rfl rfl rfl (by kernel_rfl) (by kernel_rfl) (by kernel_rfl) (fun _ _ _ h => h) (fun wx hx => exec_load rfl (load_boolV (by rw [Nat.zero_add]; exact (hxs.below hx).cells.2.2.2)) rfl) hS ?_
                simp only [Act.put, List.setIfInBounds_toArray, List.set_cons_zero, List.set_cons_succ]
                refine call_want 2 (some 79) rfl rfl rfl (by kernel_rfl) (exec_call2 rfl enterClash rfl rfl rfl) ((H4.out _).mono ?_)
                rintro e wA ⟨rfl, hbA⟩
                have hSA := nextB hS hbA
                refine ⟨_, rfl, hSA, ?_⟩
                clear hbA
                simp only [Act.put, List.setIfInBounds_toArray, List.set_cons_zero, List.set_cons_succ]
                refine take_want 5 (some 82) (.bool true) rfl rfl rfl (by kernel_rfl) (by kernel_rfl) (by kernel_rfl) (fun _ _ _ h => h) (fun wx hx => exec_eqlB (p := true) (q := true) rfl rfl rfl rfl) hSA ?_
                simp only [Act.put, List.setIfInBounds_toArray, List.set_cons_zero, List.set_cons_succ]
                refine take_want 6 (some 83) (.bool true) rfl rfl rfl (by kernel_rfl) (by kernel_rfl) (by kernel_rfl) (fun _ _ _ h => h) (fun wx hx => exec_move rfl rfl) hSA ?_
                simp only [Act.put, List.setIfInBounds_toArray, List.set_cons_zero, List.set_cons_succ]
                refine call_want 7 (some 84) rfl rfl rfl (by kernel_rfl) (exec_call0 rfl enterAwake rfl) ((awake_any _).mono ?_)
                rintro e wB ⟨rfl, hbB⟩
                have hSB := nextB hSA hbB
                refine ⟨_, rfl, hSB, ?_⟩
                clear hbB
                simp only [Act.put, List.setIfInBounds_toArray, List.set_cons_zero, List.set_cons_succ]
                refine take_want 8 (some 85) (.bool true) rfl rfl rfl (by kernel_rfl) (by kernel_rfl) (by kernel_rfl) (fun _ _ _ h => h) (fun wx hx => exec_pickT rfl rfl rfl) hSB ?_
                simp only [Act.put, List.setIfInBounds_toArray, List.set_cons_zero, List.set_cons_succ]
                refine take_want 9 (some 4) (.bool true) rfl rfl rfl (by kernel_rfl) (by kernel_rfl) (by kernel_rfl) (fun _ _ _ h => h) (fun wx hx => exec_assign rfl rfl) hSB ?_
                simp only [Act.put, List.setIfInBounds_toArray, List.set_cons_zero, List.set_cons_succ]
                refine wpAnyH_done (by kernel_rfl) ?_ _
                have HBF := hide (nextB HBS.out hSB)
                clear hSA hSB hS hsb hxs
                go_wp2_with fail
                go_ret
                exact ⟨rfl, HBF.out⟩
          · clear he
            cases d
            · cases d2
              · go_wp2_with fail
                refine (H2.out _).mono ?_
                rintro e w4 ⟨rfl, hb4⟩
                have HB4 := hide (nextB HB3.out hb4)
                have HX4 := hide (HX3.out.below hb4)
                have HY4 := hide (HY3.out.below hb4)
                have HW4 := hide (HW.out.below hb4)
                have HV4 := hide (HV.out.below hb4)
                clear hb4 x0 x1 x2 x3 y0 y1 y2 y3 xa0 xa1 xa2 xa3 ya0 ya1 ya2 ya3 xb0 xb1 xb2 xb3 yb0 yb1 yb2 yb3
                obtain ⟨x0, x1, x2, x3⟩ := HX4.out.cells
                obtain ⟨y0, y1, y2, y3⟩ := HY4.out.cells
                simp only at x0 x1 x2 x3 y0 y1 y2 y3
                obtain ⟨v0, v1, v2, v3⟩ := HV4.out.cells
                simp only at v0 v1 v2 v3
                clear v0 v1 v2 v3
                have HSB := hide (BoxS.new w4 ⟨a, b, c, false⟩ 24)
                have A3 := bel_alloc w4 (.cells #[.int .i64 a, .int .i64 b, .int .i64 c, .bool false] 24)
                have HBS := hide (nextB HB4.out A3)
                have HXS := hide (HX4.out.below A3)
                clear A3
                go_wp2_with fail
                clear x0 x1 x2 x3 y0 y1 y2 y3
                obtain ⟨wS, hwS⟩ : ∃ wS, w4.alloc (.cells #[.int .i64 a, .int .i64 b, .int .i64 c, .bool false] 24) = wS := ⟨_, rfl⟩
                obtain ⟨bs, hbs⟩ : ∃ bs, w4.heap.size = bs := ⟨_, rfl⟩
                simp only [hwS, hbs] at HSB HBS HXS ⊢
                clear hwS hbs
                have hsb := HSB.out
                have hxs := HXS.out
                refine wp_region_held_drew (S := fun wx => Below wS.heap.size wS wx) (by kernel_rfl) (below_drew0 wS) (fun hS => ?_)
                refine take_want 0 (some 77) (spV ⟨a, b, c, false⟩) rfl rfl rfl (by kernel_rfl) (by kernel_rfl) (by kernel_rfl) (fun _ _ _ h => h) (fun wx hx => exec_load rfl (load_span (hsb.below hx)) rfl) hS ?_
                simp only [Act.put, List.setIfInBounds_toArray, List.set_cons_zero, List.set_cons_succ]
                refine take_want 1 (some 78) (spV ⟨a, b, c, false⟩) rfl rfl rfl (by kernel_rfl) (by kernel_rfl) (by kernel_rfl) (fun _ _ _ h => h) (fun wx hx => exec_load rfl (load_span (hsb.below hx)) rfl) hS ?_
                simp only [Act.put, List.setIfInBounds_toArray, List.set_cons_zero, List.set_cons_succ]
                refine take_want 3 (some 80) (.pointer (some ⟨bx, 0 + 3, none⟩)) rfl rfl rfl (by kernel_rfl) (by kernel_rfl) (by kernel_rfl) (fun _ _ _ h => h) (fun wx hx => exec_field rfl (fldS3 _ _ wx) rfl) hS ?_
                simp only [Act.put, List.setIfInBounds_toArray, List.set_cons_zero, List.set_cons_succ]
                refine take_want 4 (some 81) (.bool false) rfl rfl rfl (by kernel_rfl) (by kernel_rfl) (by kernel_rfl) (fun _ _ _ h => h) (fun wx hx => exec_load rfl (load_boolV (by rw [Nat.zero_add]; exact (hxs.below hx).cells.2.2.2)) rfl) hS ?_
                simp only [Act.put, List.setIfInBounds_toArray, List.set_cons_zero, List.set_cons_succ]
                refine call_want 2 (some 79) rfl rfl rfl (by kernel_rfl) (exec_call2 rfl enterClash rfl rfl rfl) ((H4.out _).mono ?_)
                rintro e wA ⟨rfl, hbA⟩
                have hSA := nextB hS hbA
                refine ⟨_, rfl, hSA, ?_⟩
                clear hbA
                simp only [Act.put, List.setIfInBounds_toArray, List.set_cons_zero, List.set_cons_succ]
                refine take_want 5 (some 82) (.bool true) rfl rfl rfl (by kernel_rfl) (by kernel_rfl) (by kernel_rfl) (fun _ _ _ h => h) (fun wx hx => exec_eqlB (p := false) (q := false) rfl rfl rfl rfl) hSA ?_
                simp only [Act.put, List.setIfInBounds_toArray, List.set_cons_zero, List.set_cons_succ]
                refine take_want 6 (some 83) (.bool true) rfl rfl rfl (by kernel_rfl) (by kernel_rfl) (by kernel_rfl) (fun _ _ _ h => h) (fun wx hx => exec_move rfl rfl) hSA ?_
                simp only [Act.put, List.setIfInBounds_toArray, List.set_cons_zero, List.set_cons_succ]
                refine call_want 7 (some 84) rfl rfl rfl (by kernel_rfl) (exec_call0 rfl enterAwake rfl) ((awake_any _).mono ?_)
                rintro e wB ⟨rfl, hbB⟩
                have hSB := nextB hSA hbB
                refine ⟨_, rfl, hSB, ?_⟩
                clear hbB
                simp only [Act.put, List.setIfInBounds_toArray, List.set_cons_zero, List.set_cons_succ]
                refine take_want 8 (some 85) (.bool true) rfl rfl rfl (by kernel_rfl) (by kernel_rfl) (by kernel_rfl) (fun _ _ _ h => h) (fun wx hx => exec_pickT rfl rfl rfl) hSB ?_
                simp only [Act.put, List.setIfInBounds_toArray, List.set_cons_zero, List.set_cons_succ]
                refine take_want 9 (some 4) (.bool true) rfl rfl rfl (by kernel_rfl) (by kernel_rfl) (by kernel_rfl) (fun _ _ _ h => h) (fun wx hx => exec_assign rfl rfl) hSB ?_
                simp only [Act.put, List.setIfInBounds_toArray, List.set_cons_zero, List.set_cons_succ]
                refine wpAnyH_done (by kernel_rfl) ?_ _
                have HBF := hide (nextB HBS.out hSB)
                clear hSA hSB hS hsb hxs
                go_wp2_with fail
                go_ret
                exact ⟨rfl, HBF.out⟩
              · go_wp2_with fail
                refine (H2.out _).mono ?_
                rintro e w4 ⟨rfl, hb4⟩
                have HB4 := hide (nextB HB3.out hb4)
                have HX4 := hide (HX3.out.below hb4)
                have HY4 := hide (HY3.out.below hb4)
                have HW4 := hide (HW.out.below hb4)
                have HV4 := hide (HV.out.below hb4)
                clear hb4 x0 x1 x2 x3 y0 y1 y2 y3 xa0 xa1 xa2 xa3 ya0 ya1 ya2 ya3 xb0 xb1 xb2 xb3 yb0 yb1 yb2 yb3
                obtain ⟨x0, x1, x2, x3⟩ := HX4.out.cells
                obtain ⟨y0, y1, y2, y3⟩ := HY4.out.cells
                simp only at x0 x1 x2 x3 y0 y1 y2 y3
                obtain ⟨v0, v1, v2, v3⟩ := HV4.out.cells
                simp only at v0 v1 v2 v3
                clear v0 v1 v2 v3
                have HSB := hide (BoxS.new w4 ⟨a, b, c, false⟩ 24)
                have A3 := bel_alloc w4 (.cells #[.int .i64 a, .int .i64 b, .int .i64 c, .bool false] 24)
                have HBS := hide (nextB HB4.out A3)
                have HXS := hide (HX4.out.below A3)
                clear A3
                go_wp2_with fail
                clear x0 x1 x2 x3 y0 y1 y2 y3
                obtain ⟨wS, hwS⟩ : ∃ wS, w4.alloc (.cells #[.int .i64 a, .int .i64 b, .int .i64 c, .bool false] 24) = wS := ⟨_, rfl⟩
                obtain ⟨bs, hbs⟩ : ∃ bs, w4.heap.size = bs := ⟨_, rfl⟩
                simp only [hwS, hbs] at HSB HBS HXS ⊢
                clear hwS hbs
                have hsb := HSB.out
                have hxs := HXS.out
                refine wp_region_held_drew (S := fun wx => Below wS.heap.size wS wx) (by kernel_rfl) (below_drew0 wS) (fun hS => ?_)
                refine take_want 0 (some 77) (spV ⟨a, b, c, false⟩) rfl rfl rfl (by kernel_rfl) (by kernel_rfl) (by kernel_rfl) (fun _ _ _ h => h) (fun wx hx => exec_load rfl (load_span (hsb.below hx)) rfl) hS ?_
                simp only [Act.put, List.setIfInBounds_toArray, List.set_cons_zero, List.set_cons_succ]
                refine take_want 1 (some 78) (spV ⟨a, b, c, false⟩) rfl rfl rfl (by kernel_rfl) (by kernel_rfl) (by kernel_rfl) (fun _ _ _ h => h) (fun wx hx => exec_load rfl (load_span (hsb.below hx)) rfl) hS ?_
                simp only [Act.put, List.setIfInBounds_toArray, List.set_cons_zero, List.set_cons_succ]
                refine take_want 3 (some 80) (.pointer (some ⟨bx, 0 + 3, none⟩)) rfl rfl rfl (by kernel_rfl) (by kernel_rfl) (by kernel_rfl) (fun _ _ _ h => h) (fun wx hx => exec_field rfl (fldS3 _ _ wx) rfl) hS ?_
                simp only [Act.put, List.setIfInBounds_toArray, List.set_cons_zero, List.set_cons_succ]
                refine take_want 4 (some 81) (.bool false) rfl rfl rfl (by kernel_rfl) (by kernel_rfl) (by kernel_rfl) (fun _ _ _ h => h) (fun wx hx => exec_load rfl (load_boolV (by rw [Nat.zero_add]; exact (hxs.below hx).cells.2.2.2)) rfl) hS ?_
                simp only [Act.put, List.setIfInBounds_toArray, List.set_cons_zero, List.set_cons_succ]
                refine call_want 2 (some 79) rfl rfl rfl (by kernel_rfl) (exec_call2 rfl enterClash rfl rfl rfl) ((H4.out _).mono ?_)
                rintro e wA ⟨rfl, hbA⟩
                have hSA := nextB hS hbA
                refine ⟨_, rfl, hSA, ?_⟩
                clear hbA
                simp only [Act.put, List.setIfInBounds_toArray, List.set_cons_zero, List.set_cons_succ]
                refine take_want 5 (some 82) (.bool true) rfl rfl rfl (by kernel_rfl) (by kernel_rfl) (by kernel_rfl) (fun _ _ _ h => h) (fun wx hx => exec_eqlB (p := false) (q := false) rfl rfl rfl rfl) hSA ?_
                simp only [Act.put, List.setIfInBounds_toArray, List.set_cons_zero, List.set_cons_succ]
                refine take_want 6 (some 83) (.bool true) rfl rfl rfl (by kernel_rfl) (by kernel_rfl) (by kernel_rfl) (fun _ _ _ h => h) (fun wx hx => exec_move rfl rfl) hSA ?_
                simp only [Act.put, List.setIfInBounds_toArray, List.set_cons_zero, List.set_cons_succ]
                refine call_want 7 (some 84) rfl rfl rfl (by kernel_rfl) (exec_call0 rfl enterAwake rfl) ((awake_any _).mono ?_)
                rintro e wB ⟨rfl, hbB⟩
                have hSB := nextB hSA hbB
                refine ⟨_, rfl, hSB, ?_⟩
                clear hbB
                simp only [Act.put, List.setIfInBounds_toArray, List.set_cons_zero, List.set_cons_succ]
                refine take_want 8 (some 85) (.bool true) rfl rfl rfl (by kernel_rfl) (by kernel_rfl) (by kernel_rfl) (fun _ _ _ h => h) (fun wx hx => exec_pickT rfl rfl rfl) hSB ?_
                simp only [Act.put, List.setIfInBounds_toArray, List.set_cons_zero, List.set_cons_succ]
                refine take_want 9 (some 4) (.bool true) rfl rfl rfl (by kernel_rfl) (by kernel_rfl) (by kernel_rfl) (fun _ _ _ h => h) (fun wx hx => exec_assign rfl rfl) hSB ?_
                simp only [Act.put, List.setIfInBounds_toArray, List.set_cons_zero, List.set_cons_succ]
                refine wpAnyH_done (by kernel_rfl) ?_ _
                have HBF := hide (nextB HBS.out hSB)
                clear hSA hSB hS hsb hxs
                go_wp2_with fail
                go_ret
                exact ⟨rfl, HBF.out⟩
            · cases d2
              · go_wp2_with fail
                refine (H2.out _).mono ?_
                rintro e w4 ⟨rfl, hb4⟩
                have HB4 := hide (nextB HB3.out hb4)
                have HX4 := hide (HX3.out.below hb4)
                have HY4 := hide (HY3.out.below hb4)
                have HW4 := hide (HW.out.below hb4)
                have HV4 := hide (HV.out.below hb4)
                clear hb4 x0 x1 x2 x3 y0 y1 y2 y3 xa0 xa1 xa2 xa3 ya0 ya1 ya2 ya3 xb0 xb1 xb2 xb3 yb0 yb1 yb2 yb3
                obtain ⟨x0, x1, x2, x3⟩ := HX4.out.cells
                obtain ⟨y0, y1, y2, y3⟩ := HY4.out.cells
                simp only at x0 x1 x2 x3 y0 y1 y2 y3
                obtain ⟨v0, v1, v2, v3⟩ := HV4.out.cells
                simp only at v0 v1 v2 v3
                clear v0 v1 v2 v3
                have HSB := hide (BoxS.new w4 ⟨a, b, c, true⟩ 24)
                have A3 := bel_alloc w4 (.cells #[.int .i64 a, .int .i64 b, .int .i64 c, .bool true] 24)
                have HBS := hide (nextB HB4.out A3)
                have HXS := hide (HX4.out.below A3)
                clear A3
                go_wp2_with fail
                clear x0 x1 x2 x3 y0 y1 y2 y3
                obtain ⟨wS, hwS⟩ : ∃ wS, w4.alloc (.cells #[.int .i64 a, .int .i64 b, .int .i64 c, .bool true] 24) = wS := ⟨_, rfl⟩
                obtain ⟨bs, hbs⟩ : ∃ bs, w4.heap.size = bs := ⟨_, rfl⟩
                simp only [hwS, hbs] at HSB HBS HXS ⊢
                clear hwS hbs
                have hsb := HSB.out
                have hxs := HXS.out
                refine wp_region_held_drew (S := fun wx => Below wS.heap.size wS wx) (by kernel_rfl) (below_drew0 wS) (fun hS => ?_)
                refine take_want 0 (some 77) (spV ⟨a, b, c, true⟩) rfl rfl rfl (by kernel_rfl) (by kernel_rfl) (by kernel_rfl) (fun _ _ _ h => h) (fun wx hx => exec_load rfl (load_span (hsb.below hx)) rfl) hS ?_
                simp only [Act.put, List.setIfInBounds_toArray, List.set_cons_zero, List.set_cons_succ]
                refine take_want 1 (some 78) (spV ⟨a, b, c, true⟩) rfl rfl rfl (by kernel_rfl) (by kernel_rfl) (by kernel_rfl) (fun _ _ _ h => h) (fun wx hx => exec_load rfl (load_span (hsb.below hx)) rfl) hS ?_
                simp only [Act.put, List.setIfInBounds_toArray, List.set_cons_zero, List.set_cons_succ]
                refine take_want 3 (some 80) (.pointer (some ⟨bx, 0 + 3, none⟩)) rfl rfl rfl (by kernel_rfl) (by kernel_rfl) (by kernel_rfl) (fun _ _ _ h => h) (fun wx hx => exec_field rfl (fldS3 _ _ wx) rfl) hS ?_
                simp only [Act.put, List.setIfInBounds_toArray, List.set_cons_zero, List.set_cons_succ]
                refine take_want 4 (some 81) (.bool true) rfl rfl rfl (by kernel_rfl) (by kernel_rfl) (by kernel_rfl) (fun _ _ _ h => h) (fun wx hx => exec_load rfl (load_boolV (by rw [Nat.zero_add]; exact (hxs.below hx).cells.2.2.2)) rfl) hS ?_
                simp only [Act.put, List.setIfInBounds_toArray, List.set_cons_zero, List.set_cons_succ]
                refine call_want 2 (some 79) rfl rfl rfl (by kernel_rfl) (exec_call2 rfl enterClash rfl rfl rfl) ((H4.out _).mono ?_)
                rintro e wA ⟨rfl, hbA⟩
                have hSA := nextB hS hbA
                refine ⟨_, rfl, hSA, ?_⟩
                clear hbA
                simp only [Act.put, List.setIfInBounds_toArray, List.set_cons_zero, List.set_cons_succ]
                refine take_want 5 (some 82) (.bool true) rfl rfl rfl (by kernel_rfl) (by kernel_rfl) (by kernel_rfl) (fun _ _ _ h => h) (fun wx hx => exec_eqlB (p := true) (q := true) rfl rfl rfl rfl) hSA ?_
                simp only [Act.put, List.setIfInBounds_toArray, List.set_cons_zero, List.set_cons_succ]
                refine take_want 6 (some 83) (.bool true) rfl rfl rfl (by kernel_rfl) (by kernel_rfl) (by kernel_rfl) (fun _ _ _ h => h) (fun wx hx => exec_move rfl rfl) hSA ?_
                simp only [Act.put, List.setIfInBounds_toArray, List.set_cons_zero, List.set_cons_succ]
                refine call_want 7 (some 84) rfl rfl rfl (by kernel_rfl) (exec_call0 rfl enterAwake rfl) ((awake_any _).mono ?_)
                rintro e wB ⟨rfl, hbB⟩
                have hSB := nextB hSA hbB
                refine ⟨_, rfl, hSB, ?_⟩
                clear hbB
                simp only [Act.put, List.setIfInBounds_toArray, List.set_cons_zero, List.set_cons_succ]
                refine take_want 8 (some 85) (.bool true) rfl rfl rfl (by kernel_rfl) (by kernel_rfl) (by kernel_rfl) (fun _ _ _ h => h) (fun wx hx => exec_pickT rfl rfl rfl) hSB ?_
                simp only [Act.put, List.setIfInBounds_toArray, List.set_cons_zero, List.set_cons_succ]
                refine take_want 9 (some 4) (.bool true) rfl rfl rfl (by kernel_rfl) (by kernel_rfl) (by kernel_rfl) (fun _ _ _ h => h) (fun wx hx => exec_assign rfl rfl) hSB ?_
                simp only [Act.put, List.setIfInBounds_toArray, List.set_cons_zero, List.set_cons_succ]
                refine wpAnyH_done (by kernel_rfl) ?_ _
                have HBF := hide (nextB HBS.out hSB)
                clear hSA hSB hS hsb hxs
                go_wp2_with fail
                go_ret
                exact ⟨rfl, HBF.out⟩
              · go_wp2_with fail
                refine (H2.out _).mono ?_
                rintro e w4 ⟨rfl, hb4⟩
                have HB4 := hide (nextB HB3.out hb4)
                have HX4 := hide (HX3.out.below hb4)
                have HY4 := hide (HY3.out.below hb4)
                have HW4 := hide (HW.out.below hb4)
                have HV4 := hide (HV.out.below hb4)
                clear hb4 x0 x1 x2 x3 y0 y1 y2 y3 xa0 xa1 xa2 xa3 ya0 ya1 ya2 ya3 xb0 xb1 xb2 xb3 yb0 yb1 yb2 yb3
                obtain ⟨x0, x1, x2, x3⟩ := HX4.out.cells
                obtain ⟨y0, y1, y2, y3⟩ := HY4.out.cells
                simp only at x0 x1 x2 x3 y0 y1 y2 y3
                obtain ⟨v0, v1, v2, v3⟩ := HV4.out.cells
                simp only at v0 v1 v2 v3
                clear v0 v1 v2 v3
                have HSB := hide (BoxS.new w4 ⟨a, b, c, true⟩ 24)
                have A3 := bel_alloc w4 (.cells #[.int .i64 a, .int .i64 b, .int .i64 c, .bool true] 24)
                have HBS := hide (nextB HB4.out A3)
                have HXS := hide (HX4.out.below A3)
                clear A3
                go_wp2_with fail
                clear x0 x1 x2 x3 y0 y1 y2 y3
                obtain ⟨wS, hwS⟩ : ∃ wS, w4.alloc (.cells #[.int .i64 a, .int .i64 b, .int .i64 c, .bool true] 24) = wS := ⟨_, rfl⟩
                obtain ⟨bs, hbs⟩ : ∃ bs, w4.heap.size = bs := ⟨_, rfl⟩
                simp only [hwS, hbs] at HSB HBS HXS ⊢
                clear hwS hbs
                have hsb := HSB.out
                have hxs := HXS.out
                refine wp_region_held_drew (S := fun wx => Below wS.heap.size wS wx) (by kernel_rfl) (below_drew0 wS) (fun hS => ?_)
                refine take_want 0 (some 77) (spV ⟨a, b, c, true⟩) rfl rfl rfl (by kernel_rfl) (by kernel_rfl) (by kernel_rfl) (fun _ _ _ h => h) (fun wx hx => exec_load rfl (load_span (hsb.below hx)) rfl) hS ?_
                simp only [Act.put, List.setIfInBounds_toArray, List.set_cons_zero, List.set_cons_succ]
                refine take_want 1 (some 78) (spV ⟨a, b, c, true⟩) rfl rfl rfl (by kernel_rfl) (by kernel_rfl) (by kernel_rfl) (fun _ _ _ h => h) (fun wx hx => exec_load rfl (load_span (hsb.below hx)) rfl) hS ?_
                simp only [Act.put, List.setIfInBounds_toArray, List.set_cons_zero, List.set_cons_succ]
                refine take_want 3 (some 80) (.pointer (some ⟨bx, 0 + 3, none⟩)) rfl rfl rfl (by kernel_rfl) (by kernel_rfl) (by kernel_rfl) (fun _ _ _ h => h) (fun wx hx => exec_field rfl (fldS3 _ _ wx) rfl) hS ?_
                simp only [Act.put, List.setIfInBounds_toArray, List.set_cons_zero, List.set_cons_succ]
                refine take_want 4 (some 81) (.bool true) rfl rfl rfl (by kernel_rfl) (by kernel_rfl) (by kernel_rfl) (fun _ _ _ h => h) (fun wx hx => exec_load rfl (load_boolV (by rw [Nat.zero_add]; exact (hxs.below hx).cells.2.2.2)) rfl) hS ?_
                simp only [Act.put, List.setIfInBounds_toArray, List.set_cons_zero, List.set_cons_succ]
                refine call_want 2 (some 79) rfl rfl rfl (by kernel_rfl) (exec_call2 rfl enterClash rfl rfl rfl) ((H4.out _).mono ?_)
                rintro e wA ⟨rfl, hbA⟩
                have hSA := nextB hS hbA
                refine ⟨_, rfl, hSA, ?_⟩
                clear hbA
                simp only [Act.put, List.setIfInBounds_toArray, List.set_cons_zero, List.set_cons_succ]
                refine take_want 5 (some 82) (.bool true) rfl rfl rfl (by kernel_rfl) (by kernel_rfl) (by kernel_rfl) (fun _ _ _ h => h) (fun wx hx => exec_eqlB (p := true) (q := true) rfl rfl rfl rfl) hSA ?_
                simp only [Act.put, List.setIfInBounds_toArray, List.set_cons_zero, List.set_cons_succ]
                refine take_want 6 (some 83) (.bool true) rfl rfl rfl (by kernel_rfl) (by kernel_rfl) (by kernel_rfl) (fun _ _ _ h => h) (fun wx hx => exec_move rfl rfl) hSA ?_
                simp only [Act.put, List.setIfInBounds_toArray, List.set_cons_zero, List.set_cons_succ]
                refine call_want 7 (some 84) rfl rfl rfl (by kernel_rfl) (exec_call0 rfl enterAwake rfl) ((awake_any _).mono ?_)
                rintro e wB ⟨rfl, hbB⟩
                have hSB := nextB hSA hbB
                refine ⟨_, rfl, hSB, ?_⟩
                clear hbB
                simp only [Act.put, List.setIfInBounds_toArray, List.set_cons_zero, List.set_cons_succ]
                refine take_want 8 (some 85) (.bool true) rfl rfl rfl (by kernel_rfl) (by kernel_rfl) (by kernel_rfl) (fun _ _ _ h => h) (fun wx hx => exec_pickT rfl rfl rfl) hSB ?_
                simp only [Act.put, List.setIfInBounds_toArray, List.set_cons_zero, List.set_cons_succ]
                refine take_want 9 (some 4) (.bool true) rfl rfl rfl (by kernel_rfl) (by kernel_rfl) (by kernel_rfl) (fun _ _ _ h => h) (fun wx hx => exec_assign rfl rfl) hSB ?_
                simp only [Act.put, List.setIfInBounds_toArray, List.set_cons_zero, List.set_cons_succ]
                refine wpAnyH_done (by kernel_rfl) ?_ _
                have HBF := hide (nextB HBS.out hSB)
                clear hSA hSB hS hsb hxs
                go_wp2_with fail
                go_ret
                exact ⟨rfl, HBF.out⟩
      · cases d
        · cases d2
          · go_wp2_with fail
            refine (H2.out _).mono ?_
            rintro e w4 ⟨rfl, hb4⟩
            have HB4 := hide (nextB HB3.out hb4)
            have HX4 := hide (HX3.out.below hb4)
            have HY4 := hide (HY3.out.below hb4)
            have HW4 := hide (HW.out.below hb4)
            have HV4 := hide (HV.out.below hb4)
            clear hb4 x0 x1 x2 x3 y0 y1 y2 y3 xa0 xa1 xa2 xa3 ya0 ya1 ya2 ya3 xb0 xb1 xb2 xb3 yb0 yb1 yb2 yb3
            obtain ⟨x0, x1, x2, x3⟩ := HX4.out.cells
            obtain ⟨y0, y1, y2, y3⟩ := HY4.out.cells
            simp only at x0 x1 x2 x3 y0 y1 y2 y3
            obtain ⟨v0, v1, v2, v3⟩ := HV4.out.cells
            simp only at v0 v1 v2 v3
            clear v0 v1 v2 v3
            have HSB := hide (BoxS.new w4 ⟨a, b, c, false⟩ 24)
            have A3 := bel_alloc w4 (.cells #[.int .i64 a, .int .i64 b, .int .i64 c, .bool false] 24)
            have HBS := hide (nextB HB4.out A3)
            have HXS := hide (HX4.out.below A3)
            clear A3
            go_wp2_with fail
            clear x0 x1 x2 x3 y0 y1 y2 y3
            obtain ⟨wS, hwS⟩ : ∃ wS, w4.alloc (.cells #[.int .i64 a, .int .i64 b, .int .i64 c, .bool false] 24) = wS := ⟨_, rfl⟩
            obtain ⟨bs, hbs⟩ : ∃ bs, w4.heap.size = bs := ⟨_, rfl⟩
            simp only [hwS, hbs] at HSB HBS HXS ⊢
            clear hwS hbs
            have hsb := HSB.out
            have hxs := HXS.out
            refine wp_region_held_drew (S := fun wx => Below wS.heap.size wS wx) (by kernel_rfl) (below_drew0 wS) (fun hS => ?_)
            refine take_want 0 (some 77) (spV ⟨a, b, c, false⟩) rfl rfl rfl (by kernel_rfl) (by kernel_rfl) (by kernel_rfl) (fun _ _ _ h => h) (fun wx hx => exec_load rfl (load_span (hsb.below hx)) rfl) hS ?_
            simp only [Act.put, List.setIfInBounds_toArray, List.set_cons_zero, List.set_cons_succ]
            refine take_want 1 (some 78) (spV ⟨a, b, c, false⟩) rfl rfl rfl (by kernel_rfl) (by kernel_rfl) (by kernel_rfl) (fun _ _ _ h => h) (fun wx hx => exec_load rfl (load_span (hsb.below hx)) rfl) hS ?_
            simp only [Act.put, List.setIfInBounds_toArray, List.set_cons_zero, List.set_cons_succ]
            refine take_want 3 (some 80) (.pointer (some ⟨bx, 0 + 3, none⟩)) rfl rfl rfl (by kernel_rfl) (by kernel_rfl) (by kernel_rfl) (fun _ _ _ h => h) (fun wx hx => exec_field rfl (fldS3 _ _ wx) rfl) hS ?_
            simp only [Act.put, List.setIfInBounds_toArray, List.set_cons_zero, List.set_cons_succ]
            refine take_want 4 (some 81) (.bool false) rfl rfl rfl (by kernel_rfl) (by kernel_rfl) (by kernel_rfl) (fun _ _ _ h => h) (fun wx hx => exec_load rfl (load_boolV (by rw [Nat.zero_add]; exact (hxs.below hx).cells.2.2.2)) rfl) hS ?_
            simp only [Act.put, List.setIfInBounds_toArray, List.set_cons_zero, List.set_cons_succ]
            refine call_want 2 (some 79) rfl rfl rfl (by kernel_rfl) (exec_call2 rfl enterClash rfl rfl rfl) ((H4.out _).mono ?_)
            rintro e wA ⟨rfl, hbA⟩
            have hSA := nextB hS hbA
            refine ⟨_, rfl, hSA, ?_⟩
            clear hbA
            simp only [Act.put, List.setIfInBounds_toArray, List.set_cons_zero, List.set_cons_succ]
            refine take_want 5 (some 82) (.bool true) rfl rfl rfl (by kernel_rfl) (by kernel_rfl) (by kernel_rfl) (fun _ _ _ h => h) (fun wx hx => exec_eqlB (p := false) (q := false) rfl rfl rfl rfl) hSA ?_
            simp only [Act.put, List.setIfInBounds_toArray, List.set_cons_zero, List.set_cons_succ]
            refine take_want 6 (some 83) (.bool true) rfl rfl rfl (by kernel_rfl) (by kernel_rfl) (by kernel_rfl) (fun _ _ _ h => h) (fun wx hx => exec_move rfl rfl) hSA ?_
            simp only [Act.put, List.setIfInBounds_toArray, List.set_cons_zero, List.set_cons_succ]
            refine call_want 7 (some 84) rfl rfl rfl (by kernel_rfl) (exec_call0 rfl enterAwake rfl) ((awake_any _).mono ?_)
            rintro e wB ⟨rfl, hbB⟩
            have hSB := nextB hSA hbB
            refine ⟨_, rfl, hSB, ?_⟩
            clear hbB
            simp only [Act.put, List.setIfInBounds_toArray, List.set_cons_zero, List.set_cons_succ]
            refine take_want 8 (some 85) (.bool true) rfl rfl rfl (by kernel_rfl) (by kernel_rfl) (by kernel_rfl) (fun _ _ _ h => h) (fun wx hx => exec_pickT rfl rfl rfl) hSB ?_
            simp only [Act.put, List.setIfInBounds_toArray, List.set_cons_zero, List.set_cons_succ]
            refine take_want 9 (some 4) (.bool true) rfl rfl rfl (by kernel_rfl) (by kernel_rfl) (by kernel_rfl) (fun _ _ _ h => h) (fun wx hx => exec_assign rfl rfl) hSB ?_
            simp only [Act.put, List.setIfInBounds_toArray, List.set_cons_zero, List.set_cons_succ]
            refine wpAnyH_done (by kernel_rfl) ?_ _
            have HBF := hide (nextB HBS.out hSB)
            clear hSA hSB hS hsb hxs
            go_wp2_with fail
            go_ret
            exact ⟨rfl, HBF.out⟩
          · go_wp2_with fail
            refine (H2.out _).mono ?_
            rintro e w4 ⟨rfl, hb4⟩
            have HB4 := hide (nextB HB3.out hb4)
            have HX4 := hide (HX3.out.below hb4)
            have HY4 := hide (HY3.out.below hb4)
            have HW4 := hide (HW.out.below hb4)
            have HV4 := hide (HV.out.below hb4)
            clear hb4 x0 x1 x2 x3 y0 y1 y2 y3 xa0 xa1 xa2 xa3 ya0 ya1 ya2 ya3 xb0 xb1 xb2 xb3 yb0 yb1 yb2 yb3
            obtain ⟨x0, x1, x2, x3⟩ := HX4.out.cells
            obtain ⟨y0, y1, y2, y3⟩ := HY4.out.cells
            simp only at x0 x1 x2 x3 y0 y1 y2 y3
            obtain ⟨v0, v1, v2, v3⟩ := HV4.out.cells
            simp only at v0 v1 v2 v3
            clear v0 v1 v2 v3
            have HSB := hide (BoxS.new w4 ⟨a, b, c, false⟩ 24)
            have A3 := bel_alloc w4 (.cells #[.int .i64 a, .int .i64 b, .int .i64 c, .bool false] 24)
            have HBS := hide (nextB HB4.out A3)
            have HXS := hide (HX4.out.below A3)
            clear A3
            go_wp2_with fail
            clear x0 x1 x2 x3 y0 y1 y2 y3
            obtain ⟨wS, hwS⟩ : ∃ wS, w4.alloc (.cells #[.int .i64 a, .int .i64 b, .int .i64 c, .bool false] 24) = wS := ⟨_, rfl⟩
            obtain ⟨bs, hbs⟩ : ∃ bs, w4.heap.size = bs := ⟨_, rfl⟩
            simp only [hwS, hbs] at HSB HBS HXS ⊢
            clear hwS hbs
            have hsb := HSB.out
            have hxs := HXS.out
            refine wp_region_held_drew (S := fun wx => Below wS.heap.size wS wx) (by kernel_rfl) (below_drew0 wS) (fun hS => ?_)
            refine take_want 0 (some 77) (spV ⟨a, b, c, false⟩) rfl rfl rfl (by kernel_rfl) (by kernel_rfl) (by kernel_rfl) (fun _ _ _ h => h) (fun wx hx => exec_load rfl (load_span (hsb.below hx)) rfl) hS ?_
            simp only [Act.put, List.setIfInBounds_toArray, List.set_cons_zero, List.set_cons_succ]
            refine take_want 1 (some 78) (spV ⟨a, b, c, false⟩) rfl rfl rfl (by kernel_rfl) (by kernel_rfl) (by kernel_rfl) (fun _ _ _ h => h) (fun wx hx => exec_load rfl (load_span (hsb.below hx)) rfl) hS ?_
            simp only [Act.put, List.setIfInBounds_toArray, List.set_cons_zero, List.set_cons_succ]
            refine take_want 3 (some 80) (.pointer (some ⟨bx, 0 + 3, none⟩)) rfl rfl rfl (by kernel_rfl) (by kernel_rfl) (by kernel_rfl) (fun _ _ _ h => h) (fun wx hx => exec_field rfl (fldS3 _ _ wx) rfl) hS ?_
            simp only [Act.put, List.setIfInBounds_toArray, List.set_cons_zero, List.set_cons_succ]
            refine take_want 4 (some 81) (.bool false) rfl rfl rfl (by kernel_rfl) (by kernel_rfl) (by kernel_rfl) (fun _ _ _ h => h) (fun wx hx => exec_load rfl (load_boolV (by rw [Nat.zero_add]; exact (hxs.below hx).cells.2.2.2)) rfl) hS ?_
            simp only [Act.put, List.setIfInBounds_toArray, List.set_cons_zero, List.set_cons_succ]
            refine call_want 2 (some 79) rfl rfl rfl (by kernel_rfl) (exec_call2 rfl enterClash rfl rfl rfl) ((H4.out _).mono ?_)
            rintro e wA ⟨rfl, hbA⟩
            have hSA := nextB hS hbA
            refine ⟨_, rfl, hSA, ?_⟩
            clear hbA
            simp only [Act.put, List.setIfInBounds_toArray, List.set_cons_zero, List.set_cons_succ]
            refine take_want 5 (some 82) (.bool true) rfl rfl rfl (by kernel_rfl) (by kernel_rfl) (by kernel_rfl) (fun _ _ _ h => h) (fun wx hx => exec_eqlB (p := false) (q := false) rfl rfl rfl rfl) hSA ?_
            simp only [Act.put, List.setIfInBounds_toArray, List.set_cons_zero, List.set_cons_succ]
            refine take_want 6 (some 83) (.bool true) rfl rfl rfl (by kernel_rfl) (by kernel_rfl) (by kernel_rfl) (fun _ _ _ h => h) (fun wx hx => exec_move rfl rfl) hSA ?_
            simp only [Act.put, List.setIfInBounds_toArray, List.set_cons_zero, List.set_cons_succ]
            refine call_want 7 (some 84) rfl rfl rfl (by kernel_rfl) (exec_call0 rfl enterAwake rfl) ((awake_any _).mono ?_)
            rintro e wB ⟨rfl, hbB⟩
            have hSB := nextB hSA hbB
            refine ⟨_, rfl, hSB, ?_⟩
            clear hbB
            simp only [Act.put, List.setIfInBounds_toArray, List.set_cons_zero, List.set_cons_succ]
            refine take_want 8 (some 85) (.bool true) rfl rfl rfl (by kernel_rfl) (by kernel_rfl) (by kernel_rfl) (fun _ _ _ h => h) (fun wx hx => exec_pickT rfl rfl rfl) hSB ?_
            simp only [Act.put, List.setIfInBounds_toArray, List.set_cons_zero, List.set_cons_succ]
            refine take_want 9 (some 4) (.bool true) rfl rfl rfl (by kernel_rfl) (by kernel_rfl) (by kernel_rfl) (fun _ _ _ h => h) (fun wx hx => exec_assign rfl rfl) hSB ?_
            simp only [Act.put, List.setIfInBounds_toArray, List.set_cons_zero, List.set_cons_succ]
            refine wpAnyH_done (by kernel_rfl) ?_ _
            have HBF := hide (nextB HBS.out hSB)
            clear hSA hSB hS hsb hxs
            go_wp2_with fail
            go_ret
            exact ⟨rfl, HBF.out⟩
        · cases d2
          · go_wp2_with fail
            refine (H2.out _).mono ?_
            rintro e w4 ⟨rfl, hb4⟩
            have HB4 := hide (nextB HB3.out hb4)
            have HX4 := hide (HX3.out.below hb4)
            have HY4 := hide (HY3.out.below hb4)
            have HW4 := hide (HW.out.below hb4)
            have HV4 := hide (HV.out.below hb4)
            clear hb4 x0 x1 x2 x3 y0 y1 y2 y3 xa0 xa1 xa2 xa3 ya0 ya1 ya2 ya3 xb0 xb1 xb2 xb3 yb0 yb1 yb2 yb3
            obtain ⟨x0, x1, x2, x3⟩ := HX4.out.cells
            obtain ⟨y0, y1, y2, y3⟩ := HY4.out.cells
            simp only at x0 x1 x2 x3 y0 y1 y2 y3
            obtain ⟨v0, v1, v2, v3⟩ := HV4.out.cells
            simp only at v0 v1 v2 v3
            clear v0 v1 v2 v3
            have HSB := hide (BoxS.new w4 ⟨a, b, c, true⟩ 24)
            have A3 := bel_alloc w4 (.cells #[.int .i64 a, .int .i64 b, .int .i64 c, .bool true] 24)
            have HBS := hide (nextB HB4.out A3)
            have HXS := hide (HX4.out.below A3)
            clear A3
            go_wp2_with fail
            clear x0 x1 x2 x3 y0 y1 y2 y3
            obtain ⟨wS, hwS⟩ : ∃ wS, w4.alloc (.cells #[.int .i64 a, .int .i64 b, .int .i64 c, .bool true] 24) = wS := ⟨_, rfl⟩
            obtain ⟨bs, hbs⟩ : ∃ bs, w4.heap.size = bs := ⟨_, rfl⟩
            simp only [hwS, hbs] at HSB HBS HXS ⊢
            clear hwS hbs
            have hsb := HSB.out
            have hxs := HXS.out
            refine wp_region_held_drew (S := fun wx => Below wS.heap.size wS wx) (by kernel_rfl) (below_drew0 wS) (fun hS => ?_)
            refine take_want 0 (some 77) (spV ⟨a, b, c, true⟩) rfl rfl rfl (by kernel_rfl) (by kernel_rfl) (by kernel_rfl) (fun _ _ _ h => h) (fun wx hx => exec_load rfl (load_span (hsb.below hx)) rfl) hS ?_
            simp only [Act.put, List.setIfInBounds_toArray, List.set_cons_zero, List.set_cons_succ]
            refine take_want 1 (some 78) (spV ⟨a, b, c, true⟩) rfl rfl rfl (by kernel_rfl) (by kernel_rfl) (by kernel_rfl) (fun _ _ _ h => h) (fun wx hx => exec_load rfl (load_span (hsb.below hx)) rfl) hS ?_
            simp only [Act.put, List.setIfInBounds_toArray, List.set_cons_zero, List.set_cons_succ]
            refine take_want 3 (some 80) (.pointer (some ⟨bx, 0 + 3, none⟩)) rfl rfl rfl (by kernel_rfl) (by kernel_rfl) (by kernel_rfl) (fun _ _ _ h => h) (fun wx hx => exec_field rfl (fldS3 _ _ wx) rfl) hS ?_
            simp only [Act.put, List.setIfInBounds_toArray, List.set_cons_zero, List.set_cons_succ]
            refine take_want 4 (some 81) (.bool true) rfl rfl rfl (by kernel_rfl) (by kernel_rfl) (by kernel_rfl) (fun _ _ _ h => h) (fun wx hx => exec_load rfl (load_boolV (by rw [Nat.zero_add]; exact (hxs.below hx).cells.2.2.2)) rfl) hS ?_
            simp only [Act.put, List.setIfInBounds_toArray, List.set_cons_zero, List.set_cons_succ]
            refine call_want 2 (some 79) rfl rfl rfl (by kernel_rfl) (exec_call2 rfl enterClash rfl rfl rfl) ((H4.out _).mono ?_)
            rintro e wA ⟨rfl, hbA⟩
            have hSA := nextB hS hbA
            refine ⟨_, rfl, hSA, ?_⟩
            clear hbA
            simp only [Act.put, List.setIfInBounds_toArray, List.set_cons_zero, List.set_cons_succ]
            refine take_want 5 (some 82) (.bool true) rfl rfl rfl (by kernel_rfl) (by kernel_rfl) (by kernel_rfl) (fun _ _ _ h => h) (fun wx hx => exec_eqlB (p := true) (q := true) rfl rfl rfl rfl) hSA ?_
            simp only [Act.put, List.setIfInBounds_toArray, List.set_cons_zero, List.set_cons_succ]
            refine take_want 6 (some 83) (.bool true) rfl rfl rfl (by kernel_rfl) (by kernel_rfl) (by kernel_rfl) (fun _ _ _ h => h) (fun wx hx => exec_move rfl rfl) hSA ?_
            simp only [Act.put, List.setIfInBounds_toArray, List.set_cons_zero, List.set_cons_succ]
            refine call_want 7 (some 84) rfl rfl rfl (by kernel_rfl) (exec_call0 rfl enterAwake rfl) ((awake_any _).mono ?_)
            rintro e wB ⟨rfl, hbB⟩
            have hSB := nextB hSA hbB
            refine ⟨_, rfl, hSB, ?_⟩
            clear hbB
            simp only [Act.put, List.setIfInBounds_toArray, List.set_cons_zero, List.set_cons_succ]
            refine take_want 8 (some 85) (.bool true) rfl rfl rfl (by kernel_rfl) (by kernel_rfl) (by kernel_rfl) (fun _ _ _ h => h) (fun wx hx => exec_pickT rfl rfl rfl) hSB ?_
            simp only [Act.put, List.setIfInBounds_toArray, List.set_cons_zero, List.set_cons_succ]
            refine take_want 9 (some 4) (.bool true) rfl rfl rfl (by kernel_rfl) (by kernel_rfl) (by kernel_rfl) (fun _ _ _ h => h) (fun wx hx => exec_assign rfl rfl) hSB ?_
            simp only [Act.put, List.setIfInBounds_toArray, List.set_cons_zero, List.set_cons_succ]
            refine wpAnyH_done (by kernel_rfl) ?_ _
            have HBF := hide (nextB HBS.out hSB)
            clear hSA hSB hS hsb hxs
            go_wp2_with fail
            go_ret
            exact ⟨rfl, HBF.out⟩
          · go_wp2_with fail
            refine (H2.out _).mono ?_
            rintro e w4 ⟨rfl, hb4⟩
            have HB4 := hide (nextB HB3.out hb4)
            have HX4 := hide (HX3.out.below hb4)
            have HY4 := hide (HY3.out.below hb4)
            have HW4 := hide (HW.out.below hb4)
            have HV4 := hide (HV.out.below hb4)
            clear hb4 x0 x1 x2 x3 y0 y1 y2 y3 xa0 xa1 xa2 xa3 ya0 ya1 ya2 ya3 xb0 xb1 xb2 xb3 yb0 yb1 yb2 yb3
            obtain ⟨x0, x1, x2, x3⟩ := HX4.out.cells
            obtain ⟨y0, y1, y2, y3⟩ := HY4.out.cells
            simp only at x0 x1 x2 x3 y0 y1 y2 y3
            obtain ⟨v0, v1, v2, v3⟩ := HV4.out.cells
            simp only at v0 v1 v2 v3
            clear v0 v1 v2 v3
            have HSB := hide (BoxS.new w4 ⟨a, b, c, true⟩ 24)
            have A3 := bel_alloc w4 (.cells #[.int .i64 a, .int .i64 b, .int .i64 c, .bool true] 24)
            have HBS := hide (nextB HB4.out A3)
            have HXS := hide (HX4.out.below A3)
            clear A3
            go_wp2_with fail
            clear x0 x1 x2 x3 y0 y1 y2 y3
            obtain ⟨wS, hwS⟩ : ∃ wS, w4.alloc (.cells #[.int .i64 a, .int .i64 b, .int .i64 c, .bool true] 24) = wS := ⟨_, rfl⟩
            obtain ⟨bs, hbs⟩ : ∃ bs, w4.heap.size = bs := ⟨_, rfl⟩
            simp only [hwS, hbs] at HSB HBS HXS ⊢
            clear hwS hbs
            have hsb := HSB.out
            have hxs := HXS.out
            refine wp_region_held_drew (S := fun wx => Below wS.heap.size wS wx) (by kernel_rfl) (below_drew0 wS) (fun hS => ?_)
            refine take_want 0 (some 77) (spV ⟨a, b, c, true⟩) rfl rfl rfl (by kernel_rfl) (by kernel_rfl) (by kernel_rfl) (fun _ _ _ h => h) (fun wx hx => exec_load rfl (load_span (hsb.below hx)) rfl) hS ?_
            simp only [Act.put, List.setIfInBounds_toArray, List.set_cons_zero, List.set_cons_succ]
            refine take_want 1 (some 78) (spV ⟨a, b, c, true⟩) rfl rfl rfl (by kernel_rfl) (by kernel_rfl) (by kernel_rfl) (fun _ _ _ h => h) (fun wx hx => exec_load rfl (load_span (hsb.below hx)) rfl) hS ?_
            simp only [Act.put, List.setIfInBounds_toArray, List.set_cons_zero, List.set_cons_succ]
            refine take_want 3 (some 80) (.pointer (some ⟨bx, 0 + 3, none⟩)) rfl rfl rfl (by kernel_rfl) (by kernel_rfl) (by kernel_rfl) (fun _ _ _ h => h) (fun wx hx => exec_field rfl (fldS3 _ _ wx) rfl) hS ?_
            simp only [Act.put, List.setIfInBounds_toArray, List.set_cons_zero, List.set_cons_succ]
            refine take_want 4 (some 81) (.bool true) rfl rfl rfl (by kernel_rfl) (by kernel_rfl) (by kernel_rfl) (fun _ _ _ h => h) (fun wx hx => exec_load rfl (load_boolV (by rw [Nat.zero_add]; exact (hxs.below hx).cells.2.2.2)) rfl) hS ?_
            simp only [Act.put, List.setIfInBounds_toArray, List.set_cons_zero, List.set_cons_succ]
            refine call_want 2 (some 79) rfl rfl rfl (by kernel_rfl) (exec_call2 rfl enterClash rfl rfl rfl) ((H4.out _).mono ?_)
            rintro e wA ⟨rfl, hbA⟩
            have hSA := nextB hS hbA
            refine ⟨_, rfl, hSA, ?_⟩
            clear hbA
            simp only [Act.put, List.setIfInBounds_toArray, List.set_cons_zero, List.set_cons_succ]
            refine take_want 5 (some 82) (.bool true) rfl rfl rfl (by kernel_rfl) (by kernel_rfl) (by kernel_rfl) (fun _ _ _ h => h) (fun wx hx => exec_eqlB (p := true) (q := true) rfl rfl rfl rfl) hSA ?_
            simp only [Act.put, List.setIfInBounds_toArray, List.set_cons_zero, List.set_cons_succ]
            refine take_want 6 (some 83) (.bool true) rfl rfl rfl (by kernel_rfl) (by kernel_rfl) (by kernel_rfl) (fun _ _ _ h => h) (fun wx hx => exec_move rfl rfl) hSA ?_
            simp only [Act.put, List.setIfInBounds_toArray, List.set_cons_zero, List.set_cons_succ]
            refine call_want 7 (some 84) rfl rfl rfl (by kernel_rfl) (exec_call0 rfl enterAwake rfl) ((awake_any _).mono ?_)
            rintro e wB ⟨rfl, hbB⟩
            have hSB := nextB hSA hbB
            refine ⟨_, rfl, hSB, ?_⟩
            clear hbB
            simp only [Act.put, List.setIfInBounds_toArray, List.set_cons_zero, List.set_cons_succ]
            refine take_want 8 (some 85) (.bool true) rfl rfl rfl (by kernel_rfl) (by kernel_rfl) (by kernel_rfl) (fun _ _ _ h => h) (fun wx hx => exec_pickT rfl rfl rfl) hSB ?_
            simp only [Act.put, List.setIfInBounds_toArray, List.set_cons_zero, List.set_cons_succ]
            refine take_want 9 (some 4) (.bool true) rfl rfl rfl (by kernel_rfl) (by kernel_rfl) (by kernel_rfl) (fun _ _ _ h => h) (fun wx hx => exec_assign rfl rfl) hSB ?_
            simp only [Act.put, List.setIfInBounds_toArray, List.set_cons_zero, List.set_cons_succ]
            refine wpAnyH_done (by kernel_rfl) ?_ _
            have HBF := hide (nextB HBS.out hSB)
            clear hSA hSB hS hsb hxs
            go_wp2_with fail
            go_ret
            exact ⟨rfl, HBF.out⟩
end Go.Proofs.Ytjofbehmhdjohaa
