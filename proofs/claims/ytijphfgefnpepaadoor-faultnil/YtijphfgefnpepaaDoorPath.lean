/- Path by its contract: the words of a chain's faults, in their order, in new memory. -/
import Derived.Test.YtijphfgefnpepaaDoorChain
import Derived.Deep.AppendLies
namespace Go.Proofs.YtijphfgefnpepaaDoor
open Go.RowKit Go.Extern.Stop Go.Stop Go.Extern

/-- The pointer that 'first' tells of an error. -/
def fstOf : Value → Value
  | .iface 48 x => x
  | _ => .pointer none

theorem Ch.fst {w : World} {z : Value} (hz : EndOk z) {l : List Lk} {e : Value} (h : Ch w z l e) : Fst w z l (fstOf e) := by
  cases l with
  | nil =>
    have he : e = z := h
    subst he
    rcases hz with rfl | ⟨c, rfl⟩
    · rfl
    · rfl
  | cons k r =>
    obtain ⟨b, e', rfl, h2⟩ := h
    exact ⟨b, e', rfl, h2⟩

theorem Fst.det {w : World} {z : Value} (hz : EndOk z) {l : List Lk} {e p : Value} (h : Ch w z l e) (hf : Fst w z l p) (hp : l = [] ∨ p = fstOf e) : p = fstOf e := by
  rcases hp with rfl | hp
  · have he : e = z := h
    have hq : p = .pointer none := hf
    subst he hq
    rcases hz with rfl | ⟨c, rfl⟩
    · rfl
    · rfl
  · exact hp

theorem first_val (z : Value) (hz : EndOk z) (l : List Lk) (e : Value) (w : World) (hc : Ch w z l e) (hL : Laid w) :
    Calls Tryd.prog 24 #[e] w fun ev w' => ev = .returned (fstOf e) ∧ Below w.heap.size w w' := by
  cases l with
  | nil =>
    have he : e = z := hc
    subst he
    rcases hz with rfl | ⟨c, rfl⟩
    · exact first_nil w
    · exact first_code c w hL
  | cons k r =>
    obtain ⟨b, e', rfl, -⟩ := hc
    exact first_fault ⟨b, 0, none⟩ w hL

theorem fstOf_form (e : Value) (hf : ∀ x, e = .iface 48 x → ∃ a, x = .pointer a) : ∃ a, fstOf e = .pointer a := by
  unfold fstOf
  split
  · exact hf _ rfl
  · exact ⟨_, rfl⟩

theorem Fst.form {w : World} {z : Value} {l : List Lk} {p : Value} (h : Fst w z l p) : ∃ a, p = .pointer a := by
  cases l with
  | nil => exact ⟨_, h⟩
  | cons k r => obtain ⟨b, e', rfl, -⟩ := h; exact ⟨_, rfl⟩

theorem ownsRow_below {w w' : World} {base : Nat} {e : TypeId} {size : Nat} {v : Value} {n : Nat} {xs : List Value} (h : w.ownsRow base e size v n xs) (hb : Below w.heap.size w w') : w'.ownsRow base e size v n xs := by
  obtain ⟨h1, h2⟩ := h
  refine ⟨h1, ?_⟩
  rcases h2 with h2 | ⟨g, cap, cur, hv, hg, hh, r⟩
  · exact Or.inl h2
  · refine Or.inr ⟨g, cap, cur, hv, hg, ?_, r⟩
    rw [hb.block g ?_]; exact hh
    rcases Nat.lt_or_ge g w.heap.size with q | q
    · exact q
    · rw [Array.getElem?_eq_none q] at hh; cases hh

theorem info9 : (Tryd.prog.info? 9).map (fun i => (i.zero, i.size, i.bytes)) = some (some (.string ⟨#[]⟩), 1, 16) := by kernel_rfl

/-- The words of the faults, as cells. -/
def words (l : List Lk) : List Value := l.map fun k => .string k.op

set_option maxHeartbeats 1000000 in
theorem path_any (z : Value) (hz : EndOk z) (l : List Lk) (e : Value) (w : World) (hc : Ch w z l e) (hL : Laid w) (hl : l.length ≤ 1000) :
    Calls Tryd.prog 13 #[e] w fun ev w' => ∃ v, ev = .returned v ∧ w'.ownsRow w.heap.size 9 1 v l.length (words l) ∧ Below w.heap.size w w' := by
  obtain ⟨i0, hi, hi2⟩ := Option.map_eq_some_iff.1 info9
  simp only [Prod.mk.injEq] at hi2
  obtain ⟨hz0, hz1, hz2⟩ := hi2
  have HI := hide (And.intro hi (And.intro hz0 (And.intro hz1 hz2)))
  clear hi hz0 hz1 hz2
  have HA := hide (first_val z hz l e w hc hL)
  have HF := hide (hc.fst hz)
  have HL := hide hL
  clear hc hL
  generalize fstOf e = p0 at HA HF
  go_enter Tryd.func13, Tryd.ntmps13
  go_wp2_with fail
  refine HA.out.mono ?_
  rintro ev w1 ⟨rfl, hb1⟩
  have HB := hide hb1
  clear hb1
  go_wp2
  go_loopg [3, 4] l.length (fun k n p wr => ∃ pre l' : List Lk, l = pre ++ l' ∧ Fst w z l' p ∧ l'.length = k ∧ wr.ownsRow w.heap.size 9 1 n pre.length (words pre) ∧ Below w.heap.size w wr)
  case atStart => exact ⟨[], l, rfl, HF.out, rfl, World.ownsRow_nil _ _ _ _, HB.out⟩
  case round =>
    clear HA HF HB
    obtain ⟨pre, l', hpl, hf, rfl, hown, hb⟩ := hrel
    have HBr := hide hb
    have HP := hide hpl
    have HO := hide hown
    clear hb hpl hown
    cases l' with
    | nil =>
      have hp : u4 = .pointer none := hf
      subst hp
      go_wp2
      go_ret
      refine ⟨_, rfl, ?_, HBr.out⟩
      rw [HP.out, List.append_nil]; exact HO.out
    | cons k r =>
      obtain ⟨b, e', rfl, h2, h3, h4, h5, h6⟩ := hf
      have H6 := hide h6
      have hlt := cell_lt h2
      have g2 : wr.cell? ⟨b, 0, none⟩ = some (.string k.op) := by rw [HBr.out.cell hlt]; exact h2
      have H5 := hide h5
      clear h6 h2 h3 h4 h5
      go_wp2_with (at_builtin; refine wpList_append_lies _ rfl _ _ 31 rfl w.heap.size 9 i0 (.string ⟨#[]⟩) 1 16 Tryd.underlying31 HI.out.1 HI.out.2.1 HI.out.2.2.1 HI.out.2.2.2 rfl (by decide) _ _ _ rfl (HO.out.alloc _) ⟨wr.heap.size, 0, none⟩ 1 1 [.string k.op] rfl rfl ?c1 ?c2 (by decide) ?c3 ?c4 ?c5 (wr.heap.size + 1) (by simp) ?_)
      case c2 => rfl
      case c3 => have := congrArg List.length HP.out; simp at this; unfold maxLen; omega
      case c4 => have := congrArg List.length HP.out; simp at this; omega
      case c5 => have := HBr.out.size; omega
      intro g cap w2 hown2 hgrow hat hlt2
      have hb2 : Below w.heap.size w w2 := (HBr.out.alloc HBr.out.size _).grown hgrow (by have := HBr.out.size; simp; omega) (fun q hq => (HO.out.lt q hq).1)
      have HB2 := hide hb2
      have HO2 := hide hown2
      have g5 : w2.cell? ⟨b, 3, none⟩ = some e' := by rw [hb2.cell hlt]; exact H5.out
      clear hb2 hown2 hgrow hat hlt2 g2
      go_wp2_with fail
      refine (first_val z hz r e' _ (Ch.below HB2.out _ _ H6.out) (HL.out.below HB2.out)).mono ?_
      rintro ev w3 ⟨rfl, hb3⟩
      have HB3 := hide hb3
      clear hb3
      obtain ⟨ap, hap⟩ := (H6.out.fst hz).form
      have HAP := hide hap
      rw [hap]
      clear hap
      go_wp2
      go_roundg r.length
      case measure => simp
      case rel =>
        refine ⟨pre ++ [k], r, by rw [HP.out]; simp, by rw [← HAP.out]; exact H6.out.fst hz, rfl, ?_, HB2.out.trans (HB3.out.mono HB2.out.size)⟩
        have := ownsRow_below HO2.out HB3.out
        simpa [words] using this
end Go.Proofs.YtijphfgefnpepaaDoor
