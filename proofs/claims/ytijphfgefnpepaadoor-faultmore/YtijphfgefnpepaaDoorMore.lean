/- The statement FaultMore, walked: it returns true, and nothing that was there has turned. -/
import Derived.Test.YtijphfgefnpepaaDoorWraps
namespace Go.Proofs.YtijphfgefnpepaaDoor
open Go.RowKit Go.Extern.Stop Go.Stop Go.Extern

/-- What the two calls of Depth in one statement leave: the cells that it reads besides. -/
theorem depthF {x : Lk} {pg X fb : Nat} {T : TypeId} {y : Value} {c : Int} {ls : List Lk} {w6 : World} (hF : Chain w6 (x :: ls) c (.iface 48 (.pointer (some ⟨fb, 0, none⟩)))) (hE : Chain w6 ls c (.iface T y)) (hL : Laid w6) (hl : ls.length ≤ 200)
    (Y0 : w6.cell? ⟨X, 0, none⟩ = some (.string x.op)) (Y1 : w6.cell? ⟨X, 1, none⟩ = some (.int .i64 x.dev)) (Y2 : w6.cell? ⟨X, 2, none⟩ = some (.int .i64 x.pl)) (P0 : w6.cell? ⟨pg, 0, none⟩ = some (.string x.op)) :
    (∀ w', (Below w6.heap.size w6 w' ∧ w'.cell? ⟨X, 0, none⟩ = some (.string x.op) ∧ w'.cell? ⟨X, 1, none⟩ = some (.int .i64 x.dev) ∧ w'.cell? ⟨X, 2, none⟩ = some (.int .i64 x.pl) ∧ w'.cell? ⟨pg, 0, none⟩ = some (.string x.op)) →
      Calls Tryd.prog 12 #[.iface 48 (.pointer (some ⟨fb, 0, none⟩))] w' fun ev w2 => ev = .returned (.int .i64 ((ls.length : Int) + 1)) ∧ (Below w6.heap.size w6 w2 ∧ w2.cell? ⟨X, 0, none⟩ = some (.string x.op) ∧ w2.cell? ⟨X, 1, none⟩ = some (.int .i64 x.dev) ∧ w2.cell? ⟨X, 2, none⟩ = some (.int .i64 x.pl) ∧ w2.cell? ⟨pg, 0, none⟩ = some (.string x.op))) ∧
    (∀ w', (Below w6.heap.size w6 w' ∧ w'.cell? ⟨X, 0, none⟩ = some (.string x.op) ∧ w'.cell? ⟨X, 1, none⟩ = some (.int .i64 x.dev) ∧ w'.cell? ⟨X, 2, none⟩ = some (.int .i64 x.pl) ∧ w'.cell? ⟨pg, 0, none⟩ = some (.string x.op)) →
      Calls Tryd.prog 12 #[.iface T y] w' fun ev w2 => ev = .returned (.int .i64 (ls.length : Int)) ∧ (Below w6.heap.size w6 w2 ∧ w2.cell? ⟨X, 0, none⟩ = some (.string x.op) ∧ w2.cell? ⟨X, 1, none⟩ = some (.int .i64 x.dev) ∧ w2.cell? ⟨X, 2, none⟩ = some (.int .i64 x.pl) ∧ w2.cell? ⟨pg, 0, none⟩ = some (.string x.op))) := by
  have fin : ∀ w', Below w6.heap.size w6 w' → (Below w6.heap.size w6 w' ∧ w'.cell? ⟨X, 0, none⟩ = some (.string x.op) ∧ w'.cell? ⟨X, 1, none⟩ = some (.int .i64 x.dev) ∧ w'.cell? ⟨X, 2, none⟩ = some (.int .i64 x.pl) ∧ w'.cell? ⟨pg, 0, none⟩ = some (.string x.op)) := fun w' hb =>
    ⟨hb, by rw [hb.cell (cell_lt Y0)]; exact Y0, by rw [hb.cell (cell_lt Y1)]; exact Y1, by rw [hb.cell (cell_lt Y2)]; exact Y2, by rw [hb.cell (cell_lt P0)]; exact P0⟩
  refine ⟨fun w' hS => ?_, fun w' hS => ?_⟩
  · refine (depth_any _ (codeEnd c) (x :: ls) _ w' (Chain.ch _ _ (Chain.below hS.1 _ _ _ hF)) (hL.below hS.1) (by simp; omega)).mono ?_
    rintro ev w2 ⟨rfl, hb⟩
    exact ⟨by simp, fin _ (hS.1.trans (hb.mono hS.1.size))⟩
  · refine (depth_any _ (codeEnd c) ls _ w' (Chain.ch _ _ (Chain.below hS.1 _ _ _ hE)) (hL.below hS.1) (by omega)).mono ?_
    rintro ev w2 ⟨rfl, hb⟩
    exact ⟨rfl, fin _ (hS.1.trans (hb.mono hS.1.size))⟩

set_option maxRecDepth 100000 in
set_option maxHeartbeats 2000000 in
theorem more_any (ls : List Lk) (v : Value) (c : Int) (x : Lk) (w : World) (hv : Links w v ls) (hL : Laid w) :
    Calls Tryd.prog 6 #[v, .int .i64 c, .agg #[.string x.op, .int .i64 x.dev, .int .i64 x.pl]] w fun ev w' => ev = .returned (.bool true) ∧ Below w.heap.size w w' := by
  have hb0 : Below w.heap.size w (w.alloc (.cells #[.string x.op, .int .i64 x.dev, .int .i64 x.pl] 34)) := (Below.refl _ _).alloc (Nat.le_refl _) _
  by_cases hl : ls.length ≤ 200
  · have HCh := hide (chain_any ls v c _ (Links.below hb0 hv) (by omega))
    have HL := hide (hL.below hb0)
    have HB0 := hide hb0
    obtain ⟨ao, cap, b, off, rfl, -, -⟩ := hv
    clear hL hb0
    have hl2 : ¬ (200 : Int) < (ls.length : Int) := by omega
    go_enter Tryd.func6, Tryd.ntmps6
    go_wp2_with fail
    refine HCh.out.mono ?_
    rintro ev w1 ⟨e, rfl, hc, hb⟩
    have HC := hide hc
    have HB := hide hb
    have X0 : w1.cell? ⟨w.heap.size, 0, none⟩ = some (.string x.op) := by rw [hb.cell (by simp)]; simp
    have X1 : w1.cell? ⟨w.heap.size, 1, none⟩ = some (.int .i64 x.dev) := by rw [hb.cell (by simp)]; simp
    have X2 : w1.cell? ⟨w.heap.size, 2, none⟩ = some (.int .i64 x.pl) := by rw [hb.cell (by simp)]; simp
    have HL1 := hide (HL.out.below hb)
    clear hc hb HL
    go_wp2_with fail
    refine (wrap_chain x ls c e w1 HC.out).mono ?_
    rintro ev w2 ⟨f, rfl, hf, hb2⟩
    have HF := hide hf
    have HB2 := hide hb2
    have HC2 := hide (Chain.below hb2 _ _ _ HC.out)
    have HL2 := hide (HL1.out.below hb2)
    obtain ⟨T, y, he⟩ := HC.out.form
    subst he
    obtain ⟨fb, fe, hfe, -⟩ := hf
    subst hfe
    clear hb2 HC
    go_wp2_with fail
    refine (codeOf_chain ls c _ _ HC2.out HL2.out).mono ?_
    rintro ev w3 ⟨rfl, hb3⟩
    have HB3 := hide hb3
    clear hb3
    go_wp2_with fail
    refine (codeOf_chain (x :: ls) c _ _ (Chain.below HB3.out _ _ _ HF.out) (HL2.out.below HB3.out)).mono ?_
    rintro ev w4 ⟨rfl, hb4⟩
    have HB4 := hide (HB3.out.trans (hb4.mono HB3.out.size))
    clear hb4 HB3
    go_wp2_with fail
    refine (where_any _ (codeEnd c) (x :: ls) _ _ (Chain.ch _ _ (Chain.below HB4.out _ _ _ HF.out)) (HL2.out.below HB4.out)).mono ?_
    rintro ev w5 ⟨rfl, hb5⟩
    have HB5 := hide (HB4.out.trans (hb5.mono HB4.out.size))
    clear hb5 HB4
    rw [show whereOf (x :: ls) = .tuple #[.int .i64 x.dev, .int .i64 x.pl, .bool true] from rfl]
    go_wp2_with fail
    refine (path_any _ (codeEnd c) (x :: ls) _ _ (Chain.ch _ _ (Chain.below HB5.out _ _ _ HF.out)) (HL2.out.below HB5.out) (by simp; omega)).mono ?_
    rintro ev w6 ⟨pv, rfl, hown, hb6⟩
    obtain ⟨pa, pcap, pg, rfl, hp1, hp2⟩ := path_form hown
    have hpa : pa = some ⟨pg, 0, none⟩ := hp1 (by simp)
    subst hpa
    have P0 : w6.cell? ⟨pg, 0, none⟩ = some (.string x.op) := hp2 0 x (by simp)
    have HB6 := hide (HB5.out.trans (hb6.mono HB5.out.size))
    have x2 := HB2.out.trans (HB6.out.mono HB2.out.size)
    have Y0 : w6.cell? ⟨w.heap.size, 0, none⟩ = some (.string x.op) := by rw [x2.cell (cell_lt X0)]; exact X0
    have Y1 : w6.cell? ⟨w.heap.size, 1, none⟩ = some (.int .i64 x.dev) := by rw [x2.cell (cell_lt X1)]; exact X1
    have Y2 : w6.cell? ⟨w.heap.size, 2, none⟩ = some (.int .i64 x.pl) := by rw [x2.cell (cell_lt X2)]; exact X2
    have HX2 := hide x2
    clear x2 hb6 HB5 hown hp1 hp2 X0 X1 X2
    rw [show (x :: ls).length = ls.length + 1 from rfl]
    have pB : Below w6.heap.size w6 w6.drew := (Below.refl _ _).drew
    have DF := hide (depthF (x := x) (pg := pg) (X := w.heap.size) (fb := fb) (T := T) (y := y) (c := c) (ls := ls) (w6 := w6) (Chain.below HB6.out _ _ _ HF.out) (Chain.below HB6.out _ _ _ HC2.out) (HL2.out.below HB6.out) hl Y0 Y1 Y2 P0)
    have hl3 : (0 : Int) < (ls.length : Int) + 1 := by omega
    have hw1 : IntKind.i64.wrap ((ls.length : Int) + 1) = (ls.length : Int) + 1 := IntWalk.i64_in _ ⟨by omega, by omega⟩
    go_wp2
    go_region_held3 (fun w' => Below w6.heap.size w6 w' ∧ w'.cell? ⟨w.heap.size, 0, none⟩ = some (.string x.op) ∧ w'.cell? ⟨w.heap.size, 1, none⟩ = some (.int .i64 x.dev) ∧ w'.cell? ⟨w.heap.size, 2, none⟩ = some (.int .i64 x.pl) ∧ w'.cell? ⟨pg, 0, none⟩ = some (.string x.op)) ((first | assumption | go_keep))
      (first
        | (go_at_call_of 12 (Value.iface T y); refine (DF.out.2 _ ?_).mono ?_; (assumption); rintro e w' ⟨rfl, hS⟩)
        | (go_at_call_of 12 (Value.pointer (some ⟨fb, 0, none⟩)); refine (DF.out.1 _ ?_).mono ?_; (assumption); rintro e w' ⟨rfl, hS⟩))
    have HS := hide hS
    have HB7 := hide (HB6.out.trans (hS.1.mono HB6.out.size))
    clear hS DF pB
    go_wp2_with fail
    refine (deepest_any _ (codeEnd c) ls _ _ (Chain.ch _ _ (Chain.below HB7.out _ _ _ HC2.out)) (HL2.out.below HB7.out)).mono ?_
    rintro ev w8 ⟨rfl, hb8⟩
    have Z1 : w8.cell? ⟨w.heap.size, 1, none⟩ = some (.int .i64 x.dev) := by rw [hb8.cell (cell_lt HS.out.2.2.1)]; exact HS.out.2.2.1
    have Z2 : w8.cell? ⟨w.heap.size, 2, none⟩ = some (.int .i64 x.pl) := by rw [hb8.cell (cell_lt HS.out.2.2.2.1)]; exact HS.out.2.2.2.1
    have HB8 := hide (HB7.out.trans (hb8.mono HB7.out.size))
    clear hb8 HS HB7
    by_cases hl0 : ls = []
    · have hd1 : deepOf ls = .tuple #[.int .i64 0, .int .i64 0, .bool false] := by rw [hl0]; rfl
      have hd2 : deepOf (x :: ls) = .tuple #[.int .i64 x.dev, .int .i64 x.pl, .bool true] := by rw [hl0]; rfl
      rw [hd1]
      have HD2 := hide hd2
      clear hd1 hd2 hl0
      go_wp2_with fail
      refine (deepest_any _ (codeEnd c) (x :: ls) _ _ (Chain.ch _ _ (Chain.below HB8.out _ _ _ HF.out)) (HL2.out.below HB8.out)).mono ?_
      rintro ev w9 ⟨rfl, hb9⟩
      have V1 : w9.cell? ⟨w.heap.size, 1, none⟩ = some (.int .i64 x.dev) := by rw [hb9.cell (cell_lt Z1)]; exact Z1
      have V2 : w9.cell? ⟨w.heap.size, 2, none⟩ = some (.int .i64 x.pl) := by rw [hb9.cell (cell_lt Z2)]; exact Z2
      have HB9 := hide (HB8.out.trans (hb9.mono HB8.out.size))
      clear hb9 HB8 Z1 Z2
      rw [HD2.out]
      go_wp2_with fail
      refine (awake_any _ (HL2.out.below HB9.out)).mono ?_
      rintro ev w10 ⟨rfl, hb10⟩
      have HB10 := hide (HB9.out.trans (hb10.mono HB9.out.size))
      clear hb10
      go_wp2
      go_ret
      exact ⟨rfl, HB0.out.trans ((HB.out.trans ((HB2.out.trans (HB10.out.mono HB2.out.size)).mono HB.out.size)).mono HB0.out.size)⟩
    · obtain ⟨kn, hkn⟩ : ∃ k, ls.getLast? = some k := by
        cases h : ls.getLast? with
        | none => exact absurd (List.getLast?_eq_none_iff.1 h) hl0
        | some k => exact ⟨k, rfl⟩
      have hd1 : deepOf ls = .tuple #[.int .i64 kn.dev, .int .i64 kn.pl, .bool true] := by unfold deepOf; rw [hkn]; rfl
      have hd2 : deepOf (x :: ls) = .tuple #[.int .i64 kn.dev, .int .i64 kn.pl, .bool true] := by
        have : (x :: ls).getLast? = some kn := by
          cases ls with
          | nil => exact absurd rfl hl0
          | cons a r => rw [List.getLast?_cons_cons]; exact hkn
        unfold deepOf; rw [this]; rfl
      rw [hd1]
      have HD2 := hide hd2
      clear hd1 hd2 hl0 hkn
      go_wp2_with fail
      refine (deepest_any _ (codeEnd c) (x :: ls) _ _ (Chain.ch _ _ (Chain.below HB8.out _ _ _ HF.out)) (HL2.out.below HB8.out)).mono ?_
      rintro ev w9 ⟨rfl, hb9⟩
      have HB9 := hide (HB8.out.trans (hb9.mono HB8.out.size))
      clear hb9 HB8 Z1 Z2
      rw [HD2.out]
      go_wp2_with fail
      refine (awake_any _ (HL2.out.below HB9.out)).mono ?_
      rintro ev w10 ⟨rfl, hb10⟩
      have HB10 := hide (HB9.out.trans (hb10.mono HB9.out.size))
      clear hb10
      go_wp2
      go_ret
      exact ⟨rfl, HB0.out.trans ((HB.out.trans ((HB2.out.trans (HB10.out.mono HB2.out.size)).mono HB.out.size)).mono HB0.out.size)⟩
  · obtain ⟨ao, cap, b, off, rfl, h2, h3⟩ := hv
    have hl2 : (200 : Int) < (ls.length : Int) := by omega
    have H1 := hide (awake_any _ (hL.below hb0))
    have HB0 := hide hb0
    clear h2 h3 hl hL hb0
    go_enter Tryd.func6, Tryd.ntmps6
    go_wp2_with (go_at_call 9; refine H1.out.mono ?_; rintro e w' ⟨rfl, hb⟩)
    go_ret
    exact ⟨rfl, HB0.out.trans (hb.mono HB0.out.size)⟩
end Go.Proofs.YtijphfgefnpepaaDoor
