/- holds. -/
import Derived.Test.YtkkklobjfoehnaaDoorRp
namespace Go.Proofs.YtkkklobjfoehnaaDoor
open Go.RowKit Go.Extern

set_option maxRecDepth 100000 in
set_option maxHeartbeats 2000000 in
theorem holds_any {w : World} {F : Nat → Prop} {b base : Nat} {v : Value} {l : List Bool} (hm : Bm w F b l) (hv : OwnB w base v l) (hT : Tab w) :
    Calls Tryd.prog 15 #[.pointer (some ⟨b, 0, none⟩), v] w fun e w' => e = .returned (.bool true) ∧ Below w.heap.size w w' := by
  have HM := hide hm
  have HV := hide hv
  have HT := hide hT
  have HL4 := hide hm.len
  obtain ⟨aov, capv, rfl⟩ := hv.form
  clear hm hv hT
  go_enter Tryd.func15, Tryd.ntmps15
  go_wp2_with fail
  refine (len_any HM.out).mono ?_
  rintro e w1 ⟨rfl, rfl⟩
  go_wp2_with fail
  refine (count_any HM.out).mono ?_
  rintro e w2 ⟨rfl, rfl⟩
  go_wp2_with fail
  refine (rcount_any HV.out HL4.out).mono ?_
  rintro e w3 ⟨rfl, rfl⟩
  go_wp2_with fail
  refine (runs_any HM.out HT.out).mono ?_
  rintro e w4 ⟨u, rs, rfl, hto⟩
  have HM4 := hide (HM.out.below hto.bel)
  have HV4 := hide (HV.out.below hto.bel)
  have HB4 := hide hto.bel
  have HO4 := hide hto.own
  obtain ⟨ee, hrf, hfe⟩ := hto.runs
  have HRF := hide hrf
  have HFE := hide hfe
  have HLE := hide (hrf.le (Nat.zero_le _))
  obtain ⟨aor, capr, hur⟩ := ownsRow_form hto.own.1
  rw [enR_length] at hur
  subst hur
  clear hto hrf hfe
  go_wp2_with fail
  go_loopg [5, 23] rs.length (fun c av iv wx => ∃ (j : Nat) (t : List (Nat × Nat)) (at_ : Nat), c = t.length ∧ iv = .int .i64 (j : Int) ∧ av = .int .i64 (at_ : Int) ∧ Hid (rs.drop j = t) ∧ Hid (RunsFrom l at_ t ee) ∧ Hid (at_ = 0 ∨ hasS l (at_ : Int) = false) ∧ Hid (OwnE 50 wx w3.heap.size (.slice aor rs.length capr) (enR rs)) ∧ Hid (OwnB wx base (.slice aov l.length capv) l) ∧ Hid (Bm wx F b l) ∧ Hid (Below w3.heap.size w3 wx))
  case atStart => exact ⟨0, rs, 0, rfl, rfl, rfl, hide rfl, HRF, hide (.inl rfl), HO4, HV4, HM4, HB4⟩
  case round =>
    obtain ⟨j, t, at_, hc, rfl, rfl, HD, HRT, HAT, HO, HVX, HBX, HBE⟩ := hrel
    cases t with
    | nil =>
      have hjl : rs.length ≤ j := List.drop_eq_nil_iff.1 HD.out
      have hnl2 : ¬ (j : Int) < (rs.length : Int) := by omega
      have hae : at_ = ee := HRT.out
      have HNO : Hid (∀ q, at_ ≤ q → q < l.length → l.getD q false ≠ true) := hide (by rw [hae]; exact firstS_none.1 HFE.out)
      have HAL : Hid (at_ ≤ l.length) := hide (by rw [hae]; exact HLE.out)
      clear hjl hae
      go_wp2_with fail
      go_loopg [5] (l.length - at_) (fun c av wy => ∃ q : Nat, c = l.length - q ∧ at_ ≤ q ∧ q ≤ l.length ∧ av = .int .i64 (q : Int) ∧ wy = wr)
      case atStart => exact ⟨at_, rfl, Nat.le_refl _, HAL.out, rfl, rfl⟩
      case round =>
        obtain ⟨q, hc2, hq1, hq2, rfl, rfl⟩ := hrel
        by_cases hq : q < l.length
        · have hqi : (q : Int) < (l.length : Int) := by omega
          have hq0 : (0 : Int) ≤ (q : Int) := by omega
          obtain ⟨x, hx⟩ : ∃ x, l[q]? = some x := ⟨l[q], by simp [hq]⟩
          have hxf : x = false := by
            have := HNO.out q hq1 hq
            simp only [List.getD, hx, Option.getD_some] at this
            simpa using this
          subst hxf
          obtain ⟨g, cap2, hv, cx⟩ := HVX.out.at hx
          obtain ⟨rfl, rfl⟩ : aov = some ⟨g, 0, none⟩ ∧ capv = cap2 := by simpa using hv
          have e2 : IntKind.i64.wrap ((q : Int) + 1) = (q : Int) + 1 := IntWalk.i64_in _ ⟨by omega, by have := HL4.out; omega⟩
          have HQ := hide hq
          have HC := hide hc2
          clear hx hv hq hc2
          go_wp2
          go_roundg (l.length - (q + 1))
          case measure => have := HQ.out; have := HC.out; omega
          case rel => exact ⟨q + 1, rfl, by omega, HQ.out, by go_num, rfl⟩
        · have hqi : ¬ (q : Int) < (l.length : Int) := by omega
          clear hq
          go_wp2
          go_ret
          exact ⟨rfl, HBE.out⟩
    | cons r t =>
      obtain ⟨f, kk⟩ := r
      obtain ⟨q1, q2, q3, q4⟩ := HRT.out
      obtain ⟨z, hz⟩ : ∃ z, z = f + kk := ⟨_, rfl⟩
      rw [← hz] at q3 q4
      have R := run1 q1 q3
      have haf := (firstS_some.1 q1).1
      have hne : ¬ (0 < at_ ∧ f = at_) := fun ⟨h1, h2⟩ => by
        rcases HAT.out with h | h
        · omega
        · rw [← h2, hasS_nat, R.on f (Nat.le_refl _) R.lt] at h; cases h
      have hjr : rs[j]? = some (f, kk) := by
        have := congrArg (fun x => x[0]?) HD.out
        simpa [List.getElem?_drop] using this
      have hjl : j < rs.length := (List.getElem?_eq_some_iff.1 hjr).1
      have HD2 : Hid (rs.drop (j + 1) = t) := hide (by
        have := congrArg (List.drop 1) HD.out
        simpa [List.drop_drop, Nat.add_comm] using this)
      have hnl2 : (j : Int) < (rs.length : Int) := by omega
      have hge : (0 : Int) ≤ (j : Int) := by omega
      obtain ⟨g, offr, capr2, hur, cf, ck⟩ := run_at HO.out hjr
      obtain ⟨rfl, rfl⟩ : aor = some ⟨g, offr, none⟩ ∧ capr = capr2 := by simpa using hur
      have hl4 := HL4.out
      have hrl := R.le
      have hfz := R.lt
      have hrlen : rs.length ≤ 4096 := by have := HRF.out.len; have := HLE.out; omega
      have e2 : IntKind.i64.wrap ((j : Int) + 1) = (j : Int) + 1 := IntWalk.i64_in _ ⟨by omega, by omega⟩
      have e4 : IntKind.i64.wrap ((f : Int) + (kk : Int)) = (z : Int) := by rw [IntWalk.i64_in _ ⟨by omega, by omega⟩]; omega
      have d1 : decide ((f : Int) < (at_ : Int)) = false := by simp; omega
      have d1' : decide (f < at_) = false := by simp; omega
      have d2 : decide ((kk : Int) < 1) = false := by simp; omega
      have HB2 := hide (bel_alloc wr (.cells #[.int .i64 (f : Int), .int .i64 (kk : Int)] 50))
      have HS1 := hide (RuS.start f kk HO.out HBX.out HBE.out)
      have HV1 := hide (HVX.out.below HB2.out)
      have HQ4 := hide q4
      have HR := hide R
      have HC := hide hc
      have HAF := hide haf
      have HNE := hide hne
      have r0 := HS1.out.r0
      have r1 := HS1.out.r1
      clear q1 q2 q3 q4 R hjr hjl hur hl4 hrl hfz hrlen hc haf hz hne HO HVX HBX HBE
      by_cases ha : 0 < at_
      · have d3 : ((f : Int) == (at_ : Int)) = false := by
          have := HNE.out
          simp; omega
        go_wp2_with fail
        go_loopg [5] (f - at_) (fun c av wy => ∃ q : Nat, c = f - q ∧ at_ ≤ q ∧ q ≤ f ∧ av = .int .i64 (q : Int) ∧ wy = wr.alloc (.cells #[.int .i64 (f : Int), .int .i64 (kk : Int)] 50))
        case atStart => exact ⟨at_, rfl, Nat.le_refl _, HAF.out, rfl, rfl⟩
        case round =>
          obtain ⟨q, hc2, hq1, hq2, rfl, rfl⟩ := hrel
          by_cases hq : q < f
          · have hqi : (q : Int) < (f : Int) := by omega
            have hq0 : (0 : Int) ≤ (q : Int) := by omega
            have hql : q < l.length := by have := HR.out.le; have := HR.out.lt; omega
            have hqli : (q : Int) < (l.length : Int) := by omega
            have d5 : decide ((l.length : Int) ≤ (q : Int)) = false := by simp; omega
            have d5' : decide (l.length ≤ q) = false := by simp; omega
            obtain ⟨x, hx⟩ : ∃ x, l[q]? = some x := ⟨l[q], by simp [hql]⟩
            have hxf : x = false := by
              have := HR.out.off q hq1 hq
              simpa [List.getD, hx] using this
            subst hxf
            obtain ⟨gv, cap2, hv, cx⟩ := HV1.out.at hx
            obtain ⟨rfl, rfl⟩ : aov = some ⟨gv, 0, none⟩ ∧ capv = cap2 := by simpa using hv
            have e5 : IntKind.i64.wrap ((q : Int) + 1) = (q : Int) + 1 := IntWalk.i64_in _ ⟨by omega, by have := HL4.out; omega⟩
            have HQ := hide hq
            have HC2 := hide hc2
            clear hx hv hq hc2 hql
            go_wp2
            go_roundg (f - (q + 1))
            case measure => have := HQ.out; have := HC2.out; omega
            case rel => exact ⟨q + 1, rfl, by omega, HQ.out, by go_num, rfl⟩
          · have hqf : q = f := by omega
            subst hqf
            clear hq hc2 hq1 hq2
            go_wp2_with fail
            go_loopg [5] (z - q) (fun c av wy => ∃ y : Nat, c = z - y ∧ q ≤ y ∧ y ≤ z ∧ av = .int .i64 (y : Int) ∧ wy = wr.alloc (.cells #[.int .i64 (q : Int), .int .i64 (kk : Int)] 50))
            case atStart => exact ⟨q, rfl, Nat.le_refl _, Nat.le_of_lt HR.out.lt, rfl, rfl⟩
            case round =>
              obtain ⟨y, hc3, hy1, hy2, rfl, rfl⟩ := hrel
              by_cases hy : y < z
              · have hyi : (y : Int) < (z : Int) := by omega
                have hy0 : (0 : Int) ≤ (y : Int) := by omega
                have hyl : y < l.length := by have := HR.out.le; omega
                have hyli : (y : Int) < (l.length : Int) := by omega
                have d5 : decide ((l.length : Int) ≤ (y : Int)) = false := by simp; omega
                have d5' : decide (l.length ≤ y) = false := by simp; omega
                obtain ⟨x, hx⟩ : ∃ x, l[y]? = some x := ⟨l[y], by simp [hyl]⟩
                have hxf : x = true := by
                  have := HR.out.on y hy1 hy
                  simpa [List.getD, hx] using this
                subst hxf
                obtain ⟨gv, cap2, hv, cx⟩ := HV1.out.at hx
                obtain ⟨rfl, rfl⟩ : aov = some ⟨gv, 0, none⟩ ∧ capv = cap2 := by simpa using hv
                have e5 : IntKind.i64.wrap ((y : Int) + 1) = (y : Int) + 1 := IntWalk.i64_in _ ⟨by omega, by have := HL4.out; omega⟩
                have HY := hide hy
                have HC3 := hide hc3
                clear hx hv hy hc3 hyl
                go_wp2
                go_roundg (z - (y + 1))
                case measure => have := HY.out; have := HC3.out; omega
                case rel => exact ⟨y + 1, rfl, by omega, HY.out, by go_num, rfl⟩
              · have hyz : y = z := by omega
                have hyi : ¬ (y : Int) < (z : Int) := by omega
                have HYZ := hide hyz
                clear hy hyz hc3 hy1 hy2
                go_wp2
                go_roundg t.length
                case measure => have := HC.out; simp at this; omega
                case rel => exact ⟨j + 1, t, z, rfl, by go_num, by rw [HYZ.out], HD2, HQ4, hide (.inr HR.out.stop), hide HS1.out.own, HV1, hide HS1.out.bm, hide HS1.out.bel⟩
      · go_wp2_with fail
        go_loopg [5] (f - at_) (fun c av wy => ∃ q : Nat, c = f - q ∧ at_ ≤ q ∧ q ≤ f ∧ av = .int .i64 (q : Int) ∧ wy = wr.alloc (.cells #[.int .i64 (f : Int), .int .i64 (kk : Int)] 50))
        case atStart => exact ⟨at_, rfl, Nat.le_refl _, HAF.out, rfl, rfl⟩
        case round =>
          obtain ⟨q, hc2, hq1, hq2, rfl, rfl⟩ := hrel
          by_cases hq : q < f
          · have hqi : (q : Int) < (f : Int) := by omega
            have hq0 : (0 : Int) ≤ (q : Int) := by omega
            have hql : q < l.length := by have := HR.out.le; have := HR.out.lt; omega
            have hqli : (q : Int) < (l.length : Int) := by omega
            have d5 : decide ((l.length : Int) ≤ (q : Int)) = false := by simp; omega
            have d5' : decide (l.length ≤ q) = false := by simp; omega
            obtain ⟨x, hx⟩ : ∃ x, l[q]? = some x := ⟨l[q], by simp [hql]⟩
            have hxf : x = false := by
              have := HR.out.off q hq1 hq
              simpa [List.getD, hx] using this
            subst hxf
            obtain ⟨gv, cap2, hv, cx⟩ := HV1.out.at hx
            obtain ⟨rfl, rfl⟩ : aov = some ⟨gv, 0, none⟩ ∧ capv = cap2 := by simpa using hv
            have e5 : IntKind.i64.wrap ((q : Int) + 1) = (q : Int) + 1 := IntWalk.i64_in _ ⟨by omega, by have := HL4.out; omega⟩
            have HQ := hide hq
            have HC2 := hide hc2
            clear hx hv hq hc2 hql
            go_wp2
            go_roundg (f - (q + 1))
            case measure => have := HQ.out; have := HC2.out; omega
            case rel => exact ⟨q + 1, rfl, by omega, HQ.out, by go_num, rfl⟩
          · have hqf : q = f := by omega
            subst hqf
            clear hq hc2 hq1 hq2
            go_wp2_with fail
            go_loopg [5] (z - q) (fun c av wy => ∃ y : Nat, c = z - y ∧ q ≤ y ∧ y ≤ z ∧ av = .int .i64 (y : Int) ∧ wy = wr.alloc (.cells #[.int .i64 (q : Int), .int .i64 (kk : Int)] 50))
            case atStart => exact ⟨q, rfl, Nat.le_refl _, Nat.le_of_lt HR.out.lt, rfl, rfl⟩
            case round =>
              obtain ⟨y, hc3, hy1, hy2, rfl, rfl⟩ := hrel
              by_cases hy : y < z
              · have hyi : (y : Int) < (z : Int) := by omega
                have hy0 : (0 : Int) ≤ (y : Int) := by omega
                have hyl : y < l.length := by have := HR.out.le; omega
                have hyli : (y : Int) < (l.length : Int) := by omega
                have d5 : decide ((l.length : Int) ≤ (y : Int)) = false := by simp; omega
                have d5' : decide (l.length ≤ y) = false := by simp; omega
                obtain ⟨x, hx⟩ : ∃ x, l[y]? = some x := ⟨l[y], by simp [hyl]⟩
                have hxf : x = true := by
                  have := HR.out.on y hy1 hy
                  simpa [List.getD, hx] using this
                subst hxf
                obtain ⟨gv, cap2, hv, cx⟩ := HV1.out.at hx
                obtain ⟨rfl, rfl⟩ : aov = some ⟨gv, 0, none⟩ ∧ capv = cap2 := by simpa using hv
                have e5 : IntKind.i64.wrap ((y : Int) + 1) = (y : Int) + 1 := IntWalk.i64_in _ ⟨by omega, by have := HL4.out; omega⟩
                have HY := hide hy
                have HC3 := hide hc3
                clear hx hv hy hc3 hyl
                go_wp2
                go_roundg (z - (y + 1))
                case measure => have := HY.out; have := HC3.out; omega
                case rel => exact ⟨y + 1, rfl, by omega, HY.out, by go_num, rfl⟩
              · have hyz : y = z := by omega
                have hyi : ¬ (y : Int) < (z : Int) := by omega
                have HYZ := hide hyz
                clear hy hyz hc3 hy1 hy2
                go_wp2
                go_roundg t.length
                case measure => have := HC.out; simp at this; omega
                case rel => exact ⟨j + 1, t, z, rfl, by go_num, by rw [HYZ.out], HD2, HQ4, hide (.inr HR.out.stop), hide HS1.out.own, HV1, hide HS1.out.bm, hide HS1.out.bel⟩
end Go.Proofs.YtkkklobjfoehnaaDoor
