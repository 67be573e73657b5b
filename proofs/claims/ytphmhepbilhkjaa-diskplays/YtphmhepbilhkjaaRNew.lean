/- The document's own disk: made, grown, asked. -/
import Derived.Test.YtphmhepbilhkjaaRCore
namespace Go.Proofs.Ytphmhepbilhkjaa
open Go.RowKit Go.Extern

theorem infoRS : (Try.prog.info? 51).map (·.size) = some 2 := by kernel_rfl
def Zeroed (w : World) (e : Ending) (w' : World) : Prop := ∃ u, e = .returned (.agg #[u, .bool false]) ∧ HadG (fun k => w.heap.size ≤ k ∧ k < w'.heap.size) w' u [zeros] ∧ Below w.heap.size w w' ∧ ∃ g, u = .slice (some ⟨g, 0, none⟩) 1 1

set_option maxRecDepth 100000 in
set_option maxHeartbeats 2000000 in
theorem zero_any (w : World) : Calls Try.prog 43 #[] w (Zeroed w) := by
  obtain ⟨w2, m1, m2, m3, m4⟩ := made (w.alloc (.cells #[.slice none 0 0, .bool false] 51))
  have e1 : (w.alloc (.cells #[.slice none 0 0, .bool false] 51)).heap.size = w.heap.size + 1 := by simp
  rw [e1] at m1 m2 m4
  have hb0 : w2.heap[w.heap.size]? = some (.cells #[.slice none 0 0, .bool false] 51 (0, 0)) := by rw [m3.block _ (by rw [e1]; omega)]; exact heap_alloc_new w _
  have hb3 : Below w2.heap.size w2 (w2.alloc (.cells #[.slice (some ⟨w.heap.size + 1, 0, none⟩) 128 128] 32)) := (Below.refl _ _).alloc (Nat.le_refl _) _
  have hb4 : (w2.alloc (.cells #[.slice (some ⟨w.heap.size + 1, 0, none⟩) 128 128] 32)).heap[w.heap.size]? = some (.cells #[.slice none 0 0, .bool false] 51 (0, 0)) := by rw [hb3.block _ (heap_lt hb0)]; exact hb0
  have c0 := two_cell0 hb4
  have c1 := two_cell1 hb4
  have f0 := row_frozen hb4 0
  have f1 := row_frozen hb4 1
  have HM2 := hide m2
  have HM3 := hide m3
  have HM4 := hide m4
  have HB4 := hide hb4
  clear m2 m3 m4 hb0 hb3 hb4
  go_enter Try.func43, Try.ntmps43
  go_wp2_with fail
  have h6 : (((w2.alloc (.cells #[.slice (some ⟨w.heap.size + 1, 0, none⟩) 128 128] 32)).setCell ⟨w.heap.size, 0, none⟩ (.slice (some ⟨w2.heap.size, 0, none⟩) 1 1)).setCell ⟨w.heap.size, 1, none⟩ (.bool false)).heap[w.heap.size]? = some (.cells #[.slice (some ⟨w2.heap.size, 0, none⟩) 1 1, .bool false] 51 (0, 0)) := two_set1 _ (two_set0 _ HB4.out)
  have HK : Hid (∀ k, k ≠ w.heap.size → (((w2.alloc (.cells #[.slice (some ⟨w.heap.size + 1, 0, none⟩) 128 128] 32)).setCell ⟨w.heap.size, 0, none⟩ (.slice (some ⟨w2.heap.size, 0, none⟩) 1 1)).setCell ⟨w.heap.size, 1, none⟩ (.bool false)).heap[k]? = (w2.alloc (.cells #[.slice (some ⟨w.heap.size + 1, 0, none⟩) 128 128] 32)).heap[k]?) := fun k hk => by
    rw [Below.heap_setCell _ _ _ _ hk, Below.heap_setCell _ _ _ _ hk]
  have HOS : Hid (Below w.heap.size w (((w2.alloc (.cells #[.slice (some ⟨w.heap.size + 1, 0, none⟩) 128 128] 32)).setCell ⟨w.heap.size, 0, none⟩ (.slice (some ⟨w2.heap.size, 0, none⟩) 1 1)).setCell ⟨w.heap.size, 1, none⟩ (.bool false))) := by
    have hx : Below w.heap.size w (w2.alloc (.cells #[.slice (some ⟨w.heap.size + 1, 0, none⟩) 128 128] 32)) := ((Below.refl _ _).alloc (Nat.le_refl _) _).trans ((HM3.out.mono (by rw [e1]; omega)).trans ((Below.refl _ _).alloc (by rw [HM4.out]; omega) _))
    exact ⟨hx.os, hx.tape, hx.output, by have := hx.size; simpa [World.setCell] using this, fun k hk => by rw [HK.out k (by omega)]; exact hx.block k hk⟩
  have HZZ : Hid ((((w2.alloc (.cells #[.slice (some ⟨w.heap.size + 1, 0, none⟩) 128 128] 32)).setCell ⟨w.heap.size, 0, none⟩ (.slice (some ⟨w2.heap.size, 0, none⟩) 1 1)).setCell ⟨w.heap.size, 1, none⟩ (.bool false)).heap.size = w2.heap.size + 1) := by show _ = _; simp [World.setCell]
  generalize ((w2.alloc (.cells #[.slice (some ⟨w.heap.size + 1, 0, none⟩) 128 128] 32)).setCell ⟨w.heap.size, 0, none⟩ (.slice (some ⟨w2.heap.size, 0, none⟩) 1 1)).setCell ⟨w.heap.size, 1, none⟩ (.bool false) = w6 at h6 HK HOS HZZ ⊢
  have k0 := two_cell0 h6
  have k1 := two_cell1 h6
  clear c0 c1 f0 f1 m1
  refine bodyPost_ret (v := .agg #[.slice (some ⟨w2.heap.size, 0, none⟩) 1 1, .bool false]) (results_cell_row (p := 0) (by kernel_rfl) _ _ w.heap.size 51 #[.slice (some ⟨w2.heap.size, 0, none⟩) 1 1, .bool false] (0, 0) _ rfl h6 Try.underlying51 rfl infoRS) rfl ?_
  refine ⟨_, rfl, ?_, HOS.out, _, rfl⟩
  have ho : Own w2 0 (.slice (some ⟨w.heap.size + 1, 0, none⟩) 128 128) zeros := by
    have hz := zeros_con
    refine ⟨⟨by rw [cellsB_length]; simp, .inr ⟨w.heap.size + 1, 128, _, by rw [hz.1], Nat.zero_le _, HM2.out, by rw [hz.1]; exact Nat.le_refl _, by unfold maxLen; decide, by simp [cellsB], ?_⟩⟩, hz.2, by rw [hz.1]; decide⟩
    rw [hz.1, List.take_of_length_le (by simp [cellsB])]
    rfl
  have hone : HadG (fun k => w.heap.size ≤ k ∧ k < w6.heap.size) _ _ [zeros] := HadG.one (G := fun k => w.heap.size ≤ k ∧ k < w6.heap.size) ho (fun k hk => by simp only [Value.ownBlock, Option.some.injEq] at hk; have := HZZ.out; have := HM4.out; omega) ⟨by have := HM4.out; omega, by have := HZZ.out; omega⟩
  exact hone.keep (fun k _ hk => HK.out k (hk.ne HB4.out (by decide) (by decide))) (fun k hk _ => hk)
end Go.Proofs.Ytphmhepbilhkjaa
