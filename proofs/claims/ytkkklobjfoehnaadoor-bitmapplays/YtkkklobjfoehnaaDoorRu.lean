/- Runs. -/
import Derived.Test.YtkkklobjfoehnaaDoorEn
namespace Go.Proofs.YtkkklobjfoehnaaDoor
open Go.RowKit Go.Extern

/-- Stretches of numbers that are set, from 'a' on to 'e'. -/
def RunsFrom (l : List Bool) : Nat → List (Nat × Nat) → Nat → Prop
  | a, [], e => a = e
  | a, (f, k) :: t, e => firstS l a true = some f ∧ 0 < k ∧ endS l f = f + k ∧ RunsFrom l (f + k) t e
/-- All stretches. -/
def IsRuns (l : List Bool) (rs : List (Nat × Nat)) : Prop := ∃ e, RunsFrom l 0 rs e ∧ firstS l e true = none
theorem endS_gt {l : List Bool} {a f : Nat} (h : firstS l a true = some f) : f < endS l f ∧ endS l f ≤ l.length := by
  obtain ⟨-, h1, h2, -⟩ := firstS_some.1 h
  unfold endS
  cases hq : firstS l f false with
  | none => exact ⟨h1, Nat.le_refl _⟩
  | some z =>
    obtain ⟨g1, g2, g3, -⟩ := firstS_some.1 hq
    refine ⟨?_, Nat.le_of_lt g2⟩
    show f < z
    rcases Nat.lt_or_ge f z with q | q
    · exact q
    · obtain rfl : z = f := by omega
      rw [h2] at g3; cases g3
theorem RunsFrom.snoc {l : List Bool} : ∀ {a : Nat} {rs : List (Nat × Nat)} {e f k : Nat}, RunsFrom l a rs e → firstS l e true = some f → 0 < k → endS l f = f + k → RunsFrom l a (rs ++ [(f, k)]) (f + k)
  | a, [], e, f, k, h, h1, h2, h3 => by
    obtain rfl : a = e := h
    exact ⟨h1, h2, h3, rfl⟩
  | a, (g, m) :: t, e, f, k, h, h1, h2, h3 => by
    obtain ⟨g1, g2, g3, g4⟩ := h
    exact ⟨g1, g2, g3, RunsFrom.snoc g4 h1 h2 h3⟩
theorem RunsFrom.len {l : List Bool} : ∀ {a : Nat} {rs : List (Nat × Nat)} {e : Nat}, RunsFrom l a rs e → a + rs.length ≤ e
  | a, [], e, h => by
    obtain rfl : a = e := h
    simp
  | a, (g, m) :: t, e, h => by
    obtain ⟨g1, g2, g3, g4⟩ := h
    have := RunsFrom.len g4
    have := (firstS_some.1 g1).1
    simp; omega
theorem RunsFrom.le {l : List Bool} : ∀ {a : Nat} {rs : List (Nat × Nat)} {e : Nat}, RunsFrom l a rs e → a ≤ l.length → e ≤ l.length
  | a, [], e, h, ha => by
    obtain rfl : a = e := h
    exact ha
  | a, (g, m) :: t, e, h, ha => by
    obtain ⟨g1, g2, g3, g4⟩ := h
    exact RunsFrom.le g4 (by have := (endS_gt g1).2; omega)
/-- Stretches as cells. -/
def enR (rs : List (Nat × Nat)) : List En := rs.map fun r => ((r.1 : Int), (r.2 : Int))
theorem enR_length (rs : List (Nat × Nat)) : (enR rs).length = rs.length := by simp [enR]
theorem infoRun : (Tryd.prog.info? 50).map (fun i => (i.zero, i.size, i.bytes)) = some (some (.agg #[.int .i64 0, .int .i64 0]), 2, 16) := by kernel_rfl
theorem append_run (w : World) (base : Nat) (v : Value) (l : List En) (e : En) (he : enOk e) (hown : OwnE 50 w base v l) (hn : l.length < 100000) (hbase : base ≤ w.heap.size) :
    ∃ v' w', (Builtin.append_ #[47, 47] 47 #[v, .slice (some ⟨w.heap.size, 0, none⟩) 1 1]).run Tryd.prog (w.alloc (.cells #[.int .i64 e.1, .int .i64 e.2] 50)) = .ok v' w' ∧ OwnE 50 w' base v' (l ++ [e]) ∧ Below base w w' := by
  obtain ⟨i0, hi, hz0, hz1, hz2⟩ := info3 infoRun
  have hb := bel_alloc w (.cells #[.int .i64 e.1, .int .i64 e.2] 50)
  obtain ⟨v', w', h1, h2⟩ := append_ents Tryd.underlying47 hi hz0 hz1 hz2 (ty := 47) (w.alloc (.cells #[.int .i64 e.1, .int .i64 e.2] 50)) base v _ l [e] (hown.below hb) (ents_lit w 50 e he) (by simp; omega) (by simp; omega)
  exact ⟨v', w', h1, h2.own, (hb.mono hbase).trans (h2.below (by simp; omega) (fun k hk => (hown.lt k hk).1))⟩
/-- The form of what Next tells. -/
def okOf (o : Option Nat) : Bool := o.isSome
theorem foundV_eq (o : Option Nat) : foundV o = .tuple #[.int .i64 ((o.getD 0 : Nat) : Int), .bool (okOf o)] := by cases o <;> rfl

/-- What Runs tells. -/
structure Told (l : List Bool) (w : World) (u : Value) (rs : List (Nat × Nat)) (w' : World) : Prop where
  own : OwnE 50 w' w.heap.size u (enR rs)
  runs : IsRuns l rs
  bel : Below w.heap.size w w'
set_option maxRecDepth 100000 in
set_option maxHeartbeats 1000000 in
theorem runs_any {w : World} {F : Nat → Prop} {b : Nat} {l : List Bool} (h : Bm w F b l) (hT : Tab w) :
    Calls Tryd.prog 21 #[.pointer (some ⟨b, 0, none⟩)] w fun e w' => ∃ u rs, e = .returned u ∧ Told l w u rs w' := by
  have HH := hide h
  have HT := hide hT
  have HN := hide (next_any h 0 hT)
  rw [foundV_eq] at HN
  have HLEN := hide h.len
  clear h hT
  go_enter Tryd.func21, Tryd.ntmps21
  go_wp2_with fail
  refine HN.out.mono ?_
  rintro e w2 ⟨rfl, rfl⟩
  go_wp2_with fail
  go_loopg [3, 4, 5] l.length (fun c rv fv ov wr => ∃ (rs : List (Nat × Nat)) (e : Nat), c = l.length - e ∧ fv = .int .i64 (((firstS l e true).getD 0 : Nat) : Int) ∧ ov = .bool (okOf (firstS l e true)) ∧ Hid (RunsFrom l 0 rs e) ∧ Hid (OwnE 50 wr w2.heap.size rv (enR rs)) ∧ Hid (Below w2.heap.size w2 wr))
  case atStart => exact ⟨[], 0, by simp, rfl, rfl, hide rfl, hide (OwnE.nil _ _ _), hide (Below.refl _ _)⟩
  case round =>
    obtain ⟨rs, e, hc, rfl, rfl, HR, HO, HB⟩ := hrel
    cases hq : firstS l e true with
    | none =>
      obtain ⟨ao, n, cap, rfl, -⟩ := HO.out.form
      have HFIN : Hid (IsRuns l rs) := hide ⟨e, HR.out, hq⟩
      rw [show okOf (none : Option Nat) = false from rfl]
      clear hq hc
      go_wp2
      go_ret
      exact ⟨_, rs, rfl, HO.out, HFIN.out, HB.out⟩
    | some f =>
      obtain ⟨hgt, hle⟩ := endS_gt hq
      obtain ⟨k, hk⟩ : ∃ k, endS l f = f + k := ⟨endS l f - f, by omega⟩
      obtain ⟨z, hz⟩ : ∃ z, z = f + k := ⟨_, rfl⟩
      have hek := (firstS_some.1 hq).1
      have hfl := (firstS_some.1 hq).2.1
      have HS := hide (HR.out.snoc hq (by omega) hk)
      have hlen := HR.out.len
      have hT2 := HT.out.next HB.out
      have HBM := hide (HH.out.below HB.out)
      have HEND := hide (end_any HBM.out f hT2)
      rw [hk, ← hz] at HEND
      rw [← hz] at HS
      have e1 : IntKind.i64.wrap ((z : Int) - (f : Int)) = (k : Int) := by rw [IntWalk.i64_in _ ⟨by omega, by have := HLEN.out; omega⟩]; omega
      obtain ⟨v', w3, hrun, ho3, hb3⟩ := append_run wr w2.heap.size _ (enR rs) ((f : Int), (k : Int)) ⟨i64_small ⟨by omega, by have := HLEN.out; omega⟩, i64_small ⟨by omega, by have := HLEN.out; omega⟩⟩ HO.out (by rw [enR_length]; have := HLEN.out; omega) HB.out.size
      have HO3 : Hid (OwnE 50 w3 w2.heap.size v' (enR (rs ++ [(f, k)]))) := hide (by simpa [enR] using ho3)
      have HB3 := hide (HB.out.trans hb3)
      have HT3 := hide (HT.out.next HB3.out)
      have HNX := hide (next_any (HH.out.below HB3.out) (z : Int) HT3.out)
      rw [foundV_eq, Int.toNat_natCast] at HNX
      obtain ⟨ao3, n3, cap3, e3, -⟩ := ho3.form
      subst e3
      obtain ⟨ao, n, cap, e4, -⟩ := HO.out.form
      subst e4
      have HM : Hid (l.length - z < l.length - e) := hide (by omega)
      rw [show okOf (some f) = true from rfl, show (some f).getD 0 = f from rfl]
      have HC := hide hc
      clear hgt hle hk hek hfl hlen hT2 ho3 hb3 hq hc hz
      go_wp2_with fail
      refine HEND.out.mono ?_
      rintro e' w4 ⟨rfl, rfl⟩
      go_wp2_with (at_builtin; (with_reducible refine wpList_appendT rfl rfl hrun ?_ ?_ ?_ ?_); rfl; rfl; rfl)
      refine HNX.out.mono ?_
      rintro e' w5 ⟨rfl, rfl⟩
      go_wp2
      go_roundg (l.length - z)
      case measure => have := HC.out; have := HM.out; omega
      case rel => exact ⟨rs ++ [(f, k)], z, rfl, rfl, rfl, HS, HO3, HB3⟩
end Go.Proofs.YtkkklobjfoehnaaDoor
