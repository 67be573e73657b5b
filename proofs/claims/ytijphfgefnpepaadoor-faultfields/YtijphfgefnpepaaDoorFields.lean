/- The statement FaultFields, walked: it returns true, and nothing that was there has turned. -/
import Derived.Test.YtijphfgefnpepaaDoorText
namespace Go.Proofs.YtijphfgefnpepaaDoor
open Go.RowKit Go.Extern.Stop Go.Stop Go.Extern

theorem codeEnd2 (c : Int) : EndOk (.iface 27 (.int .i64 c)) := Or.inr ⟨c, rfl⟩

/-- The cells of a link at a block. -/
def LkAt (w : World) (b : Nat) (x : Lk) : Prop := w.cell? ⟨b, 0, none⟩ = some (.string x.op) ∧ w.cell? ⟨b, 1, none⟩ = some (.int .i64 x.dev) ∧ w.cell? ⟨b, 2, none⟩ = some (.int .i64 x.pl)
theorem LkAt.below {w w' : World} {b : Nat} {x : Lk} (h : LkAt w b x) (hb : Below w.heap.size w w') : LkAt w' b x :=
  ⟨by rw [hb.cell (cell_lt h.1)]; exact h.1, by rw [hb.cell (cell_lt h.2.1)]; exact h.2.1, by rw [hb.cell (cell_lt h.2.2)]; exact h.2.2⟩

/-- What the three calls of one statement leave: a link's cells. -/
theorem asS {x : Lk} {X fb : Nat} {T : TypeId} {y : Value} {c : Int} {ls : List Lk} {w6 : World} (hF : Chain w6 (x :: ls) c (.iface 48 (.pointer (some ⟨fb, 0, none⟩)))) (hE : Chain w6 ls c (.iface T y)) (h3 : w6.cell? ⟨fb, 3, none⟩ = some (.iface T y)) (hL : Laid w6) (hl : ls.length ≤ 200)
    (hX : LkAt w6 X x) (hA : LkAt w6 fb x) :
    let S : World → Prop := fun w' => Below w6.heap.size w6 w' ∧ w'.cell? ⟨X, 0, none⟩ = some (.string x.op) ∧ w'.cell? ⟨X, 1, none⟩ = some (.int .i64 x.dev) ∧ w'.cell? ⟨X, 2, none⟩ = some (.int .i64 x.pl) ∧ w'.cell? ⟨fb, 0, none⟩ = some (.string x.op) ∧ w'.cell? ⟨fb, 1, none⟩ = some (.int .i64 x.dev) ∧ w'.cell? ⟨fb, 2, none⟩ = some (.int .i64 x.pl)
    (∀ w', S w' → Calls Tryd.prog 12 #[.iface 48 (.pointer (some ⟨fb, 0, none⟩))] w' fun ev w2 => ev = .returned (.int .i64 ((ls.length : Int) + 1)) ∧ S w2) ∧
    (∀ w', S w' → Calls Tryd.prog 12 #[.iface T y] w' fun ev w2 => ev = .returned (.int .i64 (ls.length : Int)) ∧ S w2) ∧
    (∀ w', S w' → Calls Tryd.prog 19 #[.pointer (some ⟨fb, 0, none⟩)] w' fun ev w2 => ev = .returned (.iface T y) ∧ S w2) := by
  intro S
  have fin : ∀ w', Below w6.heap.size w6 w' → S w' := fun w' hb =>
    ⟨hb, (hX.below hb).1, (hX.below hb).2.1, (hX.below hb).2.2, (hA.below hb).1, (hA.below hb).2.1, (hA.below hb).2.2⟩
  refine ⟨fun w' hS => ?_, fun w' hS => ?_, fun w' hS => ?_⟩
  · refine (depth_any _ (codeEnd2 c) (x :: ls) _ w' (Chain.ch _ _ (Chain.below hS.1 _ _ _ hF)) (hL.below hS.1) (by simp; omega)).mono ?_
    rintro ev w2 ⟨rfl, hb⟩
    exact ⟨by simp, fin _ (hS.1.trans (hb.mono hS.1.size))⟩
  · refine (depth_any _ (codeEnd2 c) ls _ w' (Chain.ch _ _ (Chain.below hS.1 _ _ _ hE)) (hL.below hS.1) (by omega)).mono ?_
    rintro ev w2 ⟨rfl, hb⟩
    exact ⟨rfl, fin _ (hS.1.trans (hb.mono hS.1.size))⟩
  · refine (unwrap_any fb (.iface T y) w' (by rw [hS.1.cell (cell_lt h3)]; exact h3) ⟨_, _, rfl⟩).mono ?_
    rintro ev w2 ⟨rfl, rfl⟩
    exact ⟨rfl, hS⟩

/-- What the three calls of the last statement leave. -/
theorem lastS {x : Lk} {X ab : Nat} {w4 : World} (hX : LkAt w4 X x) (hA : LkAt w4 ab x) (hA3 : w4.cell? ⟨ab, 3, none⟩ = some .nilIface) (hL : Laid w4) (hT : Tab w4) (h0 : x.op.size ≤ 10000) (h1 : InR x.dev) (h2 : InR x.pl) :
    (∀ W, Below w4.heap.size w4 W → Calls Tryd.prog 20 #[.pointer (some ⟨ab, 0, none⟩)] W fun ev w2 => ev = .returned (.string (headOf x)) ∧ Below W.heap.size W w2 ∧ Below w4.heap.size w4 w2 ∧ w2.cell? ⟨X, 0, none⟩ = some (.string x.op) ∧ w2.cell? ⟨X, 1, none⟩ = some (.int .i64 x.dev) ∧ w2.cell? ⟨X, 2, none⟩ = some (.int .i64 x.pl) ∧ w2.heap.size ≠ X) ∧
    (∀ W g, Below w4.heap.size w4 W → W.cell? ⟨g, 0, none⟩ = some (.string x.op) → W.cell? ⟨g, 1, none⟩ = some (.int .i64 x.dev) → W.cell? ⟨g, 2, none⟩ = some (.int .i64 x.pl) →
      Calls Tryd.prog 21 #[.slice (some ⟨g, 0, none⟩) 1 1, .int .i64 0, .bool false] W fun ev w2 => ev = .returned (.string (headOf x)) ∧ Below w4.heap.size w4 w2 ∧ w2.cell? ⟨X, 0, none⟩ = some (.string x.op) ∧ w2.cell? ⟨X, 1, none⟩ = some (.int .i64 x.dev) ∧ w2.cell? ⟨X, 2, none⟩ = some (.int .i64 x.pl) ∧ w2.heap.size ≠ X) ∧
    (∀ W, Below w4.heap.size w4 W → Calls Tryd.prog 9 #[] W fun ev w2 => ev = .returned (.bool true) ∧ Below w4.heap.size w4 w2 ∧ w2.cell? ⟨X, 0, none⟩ = some (.string x.op) ∧ w2.cell? ⟨X, 1, none⟩ = some (.int .i64 x.dev) ∧ w2.cell? ⟨X, 2, none⟩ = some (.int .i64 x.pl) ∧ w2.heap.size ≠ X) := by
  have fin : ∀ w2, Below w4.heap.size w4 w2 → (Below w4.heap.size w4 w2 ∧ w2.cell? ⟨X, 0, none⟩ = some (.string x.op) ∧ w2.cell? ⟨X, 1, none⟩ = some (.int .i64 x.dev) ∧ w2.cell? ⟨X, 2, none⟩ = some (.int .i64 x.pl) ∧ w2.heap.size ≠ X) := fun w2 hb => by
    have h := hX.below hb
    have hlt : X < w2.heap.size := cell_lt h.1
    exact ⟨hb, h.1, h.2.1, h.2.2, by omega⟩
  refine ⟨fun W hb => ?_, fun W g hb c0 c1 c2 => ?_, fun W hb => ?_⟩
  · have h := hA.below hb
    refine (error_nil x ab W (hT.below hb) h0 h1 h2 h.1 h.2.1 h.2.2 (by rw [hb.cell (cell_lt hA3)]; exact hA3)).mono ?_
    rintro ev w2 ⟨rfl, hb2⟩
    exact ⟨rfl, hb2, fin _ (hb.trans (hb2.mono hb.size))⟩
  · refine (text_one x g 0 1 W h0 h1 h2 c0 c1 c2).mono ?_
    rintro ev w2 ⟨rfl, hb2⟩
    exact ⟨rfl, fin _ (hb.trans (hb2.mono hb.size))⟩
  · refine (awake_any W (hL.below hb)).mono ?_
    rintro ev w2 ⟨rfl, hb2⟩
    exact ⟨rfl, fin _ (hb.trans (hb2.mono hb.size))⟩

theorem cell_new0 (w : World) (x : Lk) : (w.alloc (.cells #[.string x.op, .int .i64 x.dev, .int .i64 x.pl] 34)).cell? ⟨w.heap.size, 0, none⟩ = some (.string x.op) := by simp
theorem cell_new1 (w : World) (x : Lk) : (w.alloc (.cells #[.string x.op, .int .i64 x.dev, .int .i64 x.pl] 34)).cell? ⟨w.heap.size, 1, none⟩ = some (.int .i64 x.dev) := by simp
theorem cell_new2 (w : World) (x : Lk) : (w.alloc (.cells #[.string x.op, .int .i64 x.dev, .int .i64 x.pl] 34)).cell? ⟨w.heap.size, 2, none⟩ = some (.int .i64 x.pl) := by simp

theorem below_up {w4 W : World} (h : Below w4.heap.size w4 W) (o : Obj) : Below w4.heap.size w4 (W.alloc o) := h.alloc h.size o

/-- The cells of a slice of one link that was laid ahead of a call. -/
theorem laid_ahead {w4 w2 : World} {x : Lk} (hb : Below (w4.alloc (.cells #[.string x.op, .int .i64 x.dev, .int .i64 x.pl] 34)).drew.heap.size (w4.alloc (.cells #[.string x.op, .int .i64 x.dev, .int .i64 x.pl] 34)).drew w2) :
    w2.cell? ⟨w4.heap.size, 0, none⟩ = some (.string x.op) ∧ w2.cell? ⟨w4.heap.size, 1, none⟩ = some (.int .i64 x.dev) ∧ w2.cell? ⟨w4.heap.size, 2, none⟩ = some (.int .i64 x.pl) := by
  refine ⟨?_, ?_, ?_⟩
  · rw [hb.cell (p := ⟨w4.heap.size, 0, none⟩) (by simp)]; simp
  · rw [hb.cell (p := ⟨w4.heap.size, 1, none⟩) (by simp)]; simp
  · rw [hb.cell (p := ⟨w4.heap.size, 2, none⟩) (by simp)]; simp

theorem noAssert (v : Value) (w : World) : (Instr.typeAssert (.iface 48 v) 25 48 true).run Tryd.prog w = .ok (.tuple #[v, .bool true]) w := by kernel_rfl

set_option maxRecDepth 100000 in
set_option maxHeartbeats 2000000 in
theorem fields_any (ls : List Lk) (v : Value) (c : Int) (x : Lk) (w : World) (hv : Links w v ls) (hL : Laid w) (hT : Tab w) (h1 : InR x.dev) (h2 : InR x.pl) :
    Calls Tryd.prog 7 #[v, .int .i64 c, .agg #[.string x.op, .int .i64 x.dev, .int .i64 x.pl]] w fun ev w' => ev = .returned (.bool true) ∧ Below w.heap.size w w' := by
  have hb0 : Below w.heap.size w (w.alloc (.cells #[.string x.op, .int .i64 x.dev, .int .i64 x.pl] 34)) := (Below.refl _ _).alloc (Nat.le_refl _) _
  by_cases hl : ls.length ≤ 200
  · by_cases ho : x.op.size ≤ 10000
    · have HCh := hide (chain_any ls v c _ (Links.below hb0 hv) (by omega))
      have HL := hide (hL.below hb0)
      have HT := hide (hT.below hb0)
      have HB0 := hide hb0
      obtain ⟨ao, cap, b, off, rfl, -, -⟩ := hv
      clear hL hb0 hT
      have d1 : decide ((200 : Int) < (ls.length : Int)) = false := by simp; omega
      have d2 : decide ((10000 : Int) < (x.op.size : Int)) = false := by simp; omega
      go_enter Tryd.func7, Tryd.ntmps7
      go_wp2_with fail
      refine HCh.out.mono ?_
      rintro ev w1 ⟨e, rfl, hc, hb⟩
      have HC := hide hc
      have HB := hide hb
      have X0 : w1.cell? ⟨w.heap.size, 0, none⟩ = some (.string x.op) := by rw [hb.cell (by simp)]; simp
      have X1 : w1.cell? ⟨w.heap.size, 1, none⟩ = some (.int .i64 x.dev) := by rw [hb.cell (by simp)]; simp
      have X2 : w1.cell? ⟨w.heap.size, 2, none⟩ = some (.int .i64 x.pl) := by rw [hb.cell (by simp)]; simp
      have HL1 := hide (HL.out.below hb)
      have HT1 := hide (HT.out.below hb)
      have na := noAssert
      obtain ⟨T, y, he⟩ := hc.form
      subst he
      clear hc hb HL HT
      go_wp2_with fail
      refine (wrap_any x.op x.dev x.pl T y w1).mono ?_
      rintro ev w2 ⟨rfl, rfl⟩
      have hb2 : Below w1.heap.size w1 (w1.alloc (.cells #[.string x.op, .int .i64 x.dev, .int .i64 x.pl, .iface T y] 50)) := (Below.refl _ _).alloc (Nat.le_refl _) _
      have hA : LkAt (w1.alloc (.cells #[.string x.op, .int .i64 x.dev, .int .i64 x.pl, .iface T y] 50)) w1.heap.size x := ⟨by simp, by simp, by simp⟩
      have hA3 : (w1.alloc (.cells #[.string x.op, .int .i64 x.dev, .int .i64 x.pl, .iface T y] 50)).cell? ⟨w1.heap.size, 3, none⟩ = some (.iface T y) := by simp
      have hXa := LkAt.below (b := w.heap.size) (x := x) ⟨X0, X1, X2⟩ hb2
      have hE := Chain.below hb2 _ _ _ HC.out
      have hF : Chain (w1.alloc (.cells #[.string x.op, .int .i64 x.dev, .int .i64 x.pl, .iface T y] 50)) (x :: ls) c (.iface 48 (.pointer (some ⟨w1.heap.size, 0, none⟩))) := ⟨w1.heap.size, .iface T y, rfl, hA.1, hA.2.1, hA.2.2, hA3, hE⟩
      generalize hfb : w1.heap.size = fb at *
      generalize hw2 : w1.alloc (.cells #[.string x.op, .int .i64 x.dev, .int .i64 x.pl, .iface T y] 50) = w2 at *
      have AS := hide (asS hF hE hA3 (HL1.out.below (by rw [hfb]; exact hb2)) hl hXa hA)
      have HB2 := hide hb2
      have HE := hide hE
      have HXA := hide hXa
      have HA := hide hA
      have HA3 := hide hA3
      have HL2 := hide (HL1.out.below (by rw [hfb]; exact hb2))
      have HT2 := hide (HT1.out.below (by rw [hfb]; exact hb2))
      have HFB := hide hfb
      have y0 := hXa.1
      have y1 := hXa.2.1
      have y2 := hXa.2.2
      have z0 := hA.1
      have z1 := hA.2.1
      have z2 := hA.2.2
      have pB : Below w2.heap.size w2 w2.drew := (Below.refl _ _).drew
      have hw1 : IntKind.i64.wrap ((ls.length : Int) + 1) = (ls.length : Int) + 1 := IntWalk.i64_in _ ⟨by omega, by omega⟩
      clear hF hE hA hA3 hXa hb2 hw2 hfb X0 X1 X2 HL1 HT1
      go_wp2
      go_region_held3 (fun w' => Below w2.heap.size w2 w' ∧ w'.cell? ⟨w.heap.size, 0, none⟩ = some (.string x.op) ∧ w'.cell? ⟨w.heap.size, 1, none⟩ = some (.int .i64 x.dev) ∧ w'.cell? ⟨w.heap.size, 2, none⟩ = some (.int .i64 x.pl) ∧ w'.cell? ⟨fb, 0, none⟩ = some (.string x.op) ∧ w'.cell? ⟨fb, 1, none⟩ = some (.int .i64 x.dev) ∧ w'.cell? ⟨fb, 2, none⟩ = some (.int .i64 x.pl)) ((first | assumption | go_keep))
        (first
          | (go_at_call 19; refine (AS.out.2.2 _ ?_).mono ?_; (assumption); rintro e w' ⟨rfl, hS⟩)
          | (go_at_call_of 12 (Value.iface T y); refine (AS.out.2.1 _ ?_).mono ?_; (assumption); rintro e w' ⟨rfl, hS⟩)
          | (go_at_call_of 12 (Value.pointer (some ⟨fb, 0, none⟩)); refine (AS.out.1 _ ?_).mono ?_; (assumption); rintro e w' ⟨rfl, hS⟩))
      have HS := hide hS
      have q0 := HS.out.2.1
      have q1 := HS.out.2.2.1
      have q2 := HS.out.2.2.2.1
      clear hS AS pB y0 y1 y2 z0 z1 z2
      have hb3 : Below w'.heap.size w' (w'.alloc (.cells #[.string x.op, .int .i64 x.dev, .int .i64 x.pl, .nilIface] 50)) := (Below.refl _ _).alloc (Nat.le_refl _) _
      have hA2 : LkAt (w'.alloc (.cells #[.string x.op, .int .i64 x.dev, .int .i64 x.pl, .nilIface] 50)) w'.heap.size x := ⟨by simp, by simp, by simp⟩
      have hA23 : (w'.alloc (.cells #[.string x.op, .int .i64 x.dev, .int .i64 x.pl, .nilIface] 50)).cell? ⟨w'.heap.size, 3, none⟩ = some .nilIface := by simp
      have HB3 := hide (HS.out.1.trans (hb3.mono HS.out.1.size))
      have HAN := hide hA2
      have HAN3 := hide hA23
      clear hb3 hA2 hA23
      go_wp2_with fail
      refine (unwrap_any fb (.iface T y) _ (by rw [HB3.out.cell (cell_lt HA3.out)]; exact HA3.out) ⟨_, _, rfl⟩).mono ?_
      rintro ev w3 ⟨rfl, rfl⟩
      go_wp2_with fail
      refine (codeOf_chain ls c _ _ (Chain.below HB3.out _ _ _ HE.out) (HL2.out.below HB3.out)).mono ?_
      rintro ev w4 ⟨rfl, hb4⟩
      have hB4 := HB3.out.trans (hb4.mono HB3.out.size)
      have hX4 := HXA.out.below hB4
      have LS := hide (lastS (X := w.heap.size) hX4 (HAN.out.below hb4) (by rw [hb4.cell (cell_lt HAN3.out)]; exact HAN3.out) (HL2.out.below hB4) (HT2.out.below hB4) ho h1 h2)
      have HB4 := hide hB4
      have t1 := HB0.out.trans (HB.out.mono HB0.out.size)
      have t2 := t1.trans (HB2.out.mono (by have := t1.size; have := HFB.out; omega))
      have HALL := hide (t2.trans (HB4.out.mono t2.size))
      clear t1 t2
      have L20 := hide LS.out.1
      have L21 := hide LS.out.2.1
      have L9 := hide LS.out.2.2
      clear LS
      have y0 := hX4.1
      have y1 := hX4.2.1
      have y2 := hX4.2.2
      have n0 := World.new_ne w4 _ y0
      have pB0 : Below w4.heap.size w4 w4.drew := (Below.refl _ _).drew
      have PB1 := hide (fun o : Obj => ((Below.refl w4.heap.size w4).alloc (Nat.le_refl _) o).drew)
      clear hb4 hB4 hX4 q0 q1 q2
      go_wp2
      go_region_held3 (fun w' => w'.cell? ⟨w.heap.size, 0, none⟩ = some (.string x.op) ∧ w'.cell? ⟨w.heap.size, 1, none⟩ = some (.int .i64 x.dev) ∧ w'.cell? ⟨w.heap.size, 2, none⟩ = some (.int .i64 x.pl)) (go_keep)
        (first
          | (go_at_call 20; refine (L20.out _ ?_).mono ?_; (first | assumption | exact PB1.out _); rintro e w5 ⟨rfl, hbw, hb5, x0, x1, x2, n5⟩; try (have hg := laid_ahead hbw; obtain ⟨g0, g1, g2⟩ := hg))
          | (go_at_call 21; refine Calls.mono (L21.out _ _ ?_ ?_ ?_ ?_) ?_; (first | exact below_up hb5 _ | exact hb5); (first | exact cell_new0 _ _ | exact g0); (first | exact cell_new1 _ _ | exact g1); (first | exact cell_new2 _ _ | exact g2); rintro e w6 ⟨rfl, hb6, x0, x1, x2, n6⟩)
          | (go_at_call 9; refine (L9.out _ ?_).mono ?_; (assumption); rintro e w7 ⟨rfl, hb7, x0, x1, x2, n7⟩))
      all_goals
        go_wp2
        go_ret
        exact ⟨rfl, HALL.out.trans (hb7.mono HALL.out.size)⟩
    · obtain ⟨ao, cap, b, off, rfl, -, -⟩ := hv
      have d1 : decide ((200 : Int) < (ls.length : Int)) = false := by simp; omega
      have d2 : decide ((10000 : Int) < (x.op.size : Int)) = true := by simp; omega
      have H1 := hide (awake_any _ (hL.below hb0))
      have HB0 := hide hb0
      clear hl ho hL hT hb0 h1 h2
      go_enter Tryd.func7, Tryd.ntmps7
      go_wp2_with (go_at_call 9; refine H1.out.mono ?_; rintro e w' ⟨rfl, hb⟩)
      go_ret
      exact ⟨rfl, HB0.out.trans (hb.mono HB0.out.size)⟩
  · obtain ⟨ao, cap, b, off, rfl, -, -⟩ := hv
    have d1 : decide ((200 : Int) < (ls.length : Int)) = true := by simp; omega
    have H1 := hide (awake_any _ (hL.below hb0))
    have HB0 := hide hb0
    clear hl hL hT hb0 h1 h2
    go_enter Tryd.func7, Tryd.ntmps7
    go_wp2_with (go_at_call 9; refine H1.out.mono ?_; rintro e w' ⟨rfl, hb⟩)
    go_ret
    exact ⟨rfl, HB0.out.trans (hb.mono HB0.out.size)⟩
end Go.Proofs.YtijphfgefnpepaaDoor
