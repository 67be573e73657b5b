/- The document's own Put. -/
import Derived.Test.YtkkklobjfoehnaaDoorRf
namespace Go.Proofs.YtkkklobjfoehnaaDoor
open Go.RowKit Go.Extern

theorem OwnB.turn {w w' : World} {base : Nat} {F : Nat → Prop} {v : Value} {l : List Bool} (h : OwnB w base v l) (ht : Turn F w w') (hF : ∀ k, v.ownBlock = some k → ¬ F k) : OwnB w' base v l :=
  ownsRow_of_block h fun k o hk ho => by rw [ht.block k (heap_lt ho) (hF k hk)]; exact ho
theorem copy_bools (w : World) (base : Nat) (x : Value) (l : List Bool) (hx : OwnB w base x l) (hl : l.length ≤ 1000000) :
    ∃ v' w', (Builtin.append_ #[30, 30] 30 #[.slice none 0 0, x]).run Tryd.prog w = .ok v' w' ∧ OwnB w' w.heap.size v' l ∧ Below w.heap.size w w' := by
  obtain ⟨i0, hi, hz0, hz1, hz2⟩ := info3 infoBool
  obtain ⟨v', w', hrun, hg⟩ := append_row (P := Tryd.prog) (ty := 30) Tryd.underlying30 hi hz0 hz1 hz2 rfl (by decide) w w.heap.size (.slice none 0 0) x [] (boolsC l) (World.ownsRow_nil _ _ _ _) (ownsRow_row hx (by rw [boolsC_length]; omega)) (boolsC_one l) (by rw [boolsC_length]; simp; omega) (Nat.le_refl _)
  exact ⟨v', w', hrun, by have := hg.own; rw [List.nil_append] at this; exact this, hg.below (Nat.le_refl _) (fun k hk => by cases hk)⟩
theorem OwnB.store {w : World} {base : Nat} {g n cap : Nat} {l : List Bool} (h : OwnB w base (.slice (some ⟨g, 0, none⟩) n cap) l) {i : Nat} (hi : i < l.length) (q : Bool) :
    OwnB (w.setCell ⟨g, i, none⟩ (.bool q)) base (.slice (some ⟨g, 0, none⟩) n cap) (l.set i q) := by
  obtain ⟨g2, cap2, hv2, -, ho, -⟩ := ownsRow_store h (i := i) (by rw [boolsC_length]; exact hi) (.bool q)
  obtain ⟨rfl, -⟩ : g = g2 ∧ _ := by simpa using hv2
  rw [boolsC_set, boolsC_length] at ho
  unfold OwnB
  rw [boolsC_length, List.length_set]
  exact ho
set_option maxRecDepth 100000 in
set_option maxHeartbeats 1000000 in
theorem rput_any {w : World} {base : Nat} {v : Value} {l : List Bool} (hl : OwnB w base v l) (hlen : l.length ≤ 4096) {u : Value} {ns : List Int} (hu : Ints w u ns) (on : Bool) (hall : ns.all (inB l) = true) :
    Calls Tryd.prog 14 #[v, u, .bool on] w fun e w' => ∃ x, e = .returned x ∧ OwnB w' w.heap.size x (putS l ns on) ∧ Below w.heap.size w w' := by
  have HA := hide hall
  have HNL := hide hu.len
  obtain ⟨ao, cap, g, off, rfl, h2, h3⟩ := hu.at
  have H2 := hide h2
  have H3 := hide h3
  obtain ⟨v', w1, hrun, ho1, hb1⟩ := copy_bools w base v l hl (by omega)
  have HO1 := hide ho1
  have HB1 := hide hb1
  obtain ⟨ao2, cap2, rfl⟩ := ho1.form
  obtain ⟨ao1, cap1, rfl⟩ := hl.form
  clear h2 h3 hu hl hall ho1 hb1
  go_enter Tryd.func14, Tryd.ntmps14
  go_wp2_with (at_builtin; (with_reducible refine wpList_appendT rfl rfl hrun ?_ ?_ ?_ ?_); rfl; rfl; rfl)
  go_loopg [8] ns.length (fun c i wr => ∃ j : Nat, j + c = ns.length ∧ i = .int .i64 (j : Int) ∧ Hid (OwnB wr w.heap.size (.slice ao2 l.length cap2) (putS l (ns.take j) on)) ∧ Hid (Below w.heap.size w wr))
  case atStart => exact ⟨0, by omega, rfl, HO1, HB1⟩
  case round =>
    obtain ⟨j, hj, rfl, HO, HB⟩ := hrel
    cases gk with
    | zero =>
      have hnl : ¬ (j : Int) < (ns.length : Int) := by omega
      have hend : j = ns.length := by omega
      have HE : Hid (OwnB wr w.heap.size (.slice ao2 l.length cap2) (putS l ns on)) := hide (by have := HO.out; rw [hend, List.take_length] at this; exact this)
      clear hend
      go_wp2
      go_ret
      exact ⟨_, rfl, HE.out, HB.out⟩
    | succ c =>
      have hlt : j < ns.length := by omega
      have hnl : (j : Int) < (ns.length : Int) := by omega
      obtain ⟨n, hn⟩ : ∃ n, ns[j]? = some n := ⟨ns[j], by simp [hlt]⟩
      obtain rfl := H2.out (by omega)
      have cx : wr.cell? ⟨g, off + j, none⟩ = some (.int .i64 n) := by
        have := H3.out j n hn
        rw [HB.out.cell (cell_lt this)]; exact this
      obtain ⟨k, rfl, hk⟩ := inB_true (l := l) (List.all_eq_true.1 HA.out n (List.mem_of_getElem? hn))
      have e2 : IntKind.i64.wrap ((j : Int) + 1) = (j : Int) + 1 := IntWalk.i64_in _ ⟨by omega, by have := HNL.out; omega⟩
      have hge : (0 : Int) ≤ (j : Int) := by omega
      have hk2 : k < (putS l (ns.take j) on).length := by rw [putS_length]; exact hk
      obtain ⟨q, hq⟩ : ∃ q, (putS l (ns.take j) on)[k]? = some q := ⟨(putS l (ns.take j) on)[k], by simp [hk2]⟩
      obtain ⟨g2, cap3, hv, co⟩ := HO.out.at hq
      obtain ⟨rfl, rfl⟩ : ao2 = some ⟨g2, 0, none⟩ ∧ cap2 = cap3 := by
        simp only [Value.slice.injEq] at hv; exact ⟨hv.1, hv.2.2⟩
      have fz : wr.frozen? ⟨g2, k, none⟩ = false := by
        obtain ⟨g3, cap4, cur, hv3, hh, -⟩ := ownsRow_pos HO.out (by rw [boolsC_length]; omega)
        obtain ⟨rfl, -⟩ : g2 = g3 ∧ _ := by simpa using hv3
        exact row_frozen hh _
      have hki : (k : Int) < (l.length : Int) := by omega
      have hk0 : (0 : Int) ≤ (k : Int) := by omega
      have HS := hide (HO.out.store hk2 on)
      rw [show (putS l (ns.take j) on).set k on = putS l (ns.take (j + 1)) on from (putS_snoc on hn).symm] at HS
      have hg2 := (HO.out.lt g2 rfl).1
      have HBS : Hid (Below w.heap.size w (wr.setCell ⟨g2, k, none⟩ (.bool on))) := hide (HB.out.setCell hg2 _)
      clear hlt hn hk hk2 hq hv hg2
      go_wp2
      go_roundg c
      case measure => omega
      case rel => exact ⟨j + 1, by omega, by go_num, HS, HBS⟩
end Go.Proofs.YtkkklobjfoehnaaDoor
