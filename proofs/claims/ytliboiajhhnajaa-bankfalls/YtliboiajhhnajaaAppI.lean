/- A number more behind numbers of one's own. -/
import Derived.Test.YtliboiajhhnajaaPicks
namespace Go.Proofs.Ytliboiajhhnajaa
open Go.RowKit Go.Extern

theorem append_int {B : Nat} {w : World} {v : Value} {ns : List Int} (h : w.ownsRow B 3 1 v ns.length (ns.map (Value.int .i64))) (hB : B ≤ w.heap.size) (n : Int) (hl : ns.length < 1000000) :
    ∃ v' w', (Builtin.append_ #[34, 34] 34 #[v, .slice (some ⟨w.heap.size, 0, none⟩) 1 1]).run Try.prog (w.alloc (.cells #[.int .i64 n] 3)) = .ok v' w' ∧ w'.ownsRow B 3 1 v' (ns ++ [n]).length ((ns ++ [n]).map (Value.int .i64)) ∧ Below B w w' ∧ ∃ ao n c, v' = .slice ao n c := by
  obtain ⟨i0, hi, hz0, hz1, hz2⟩ := info_parts infoInt
  have hb1 : Below w.heap.size w (w.alloc (.cells #[.int .i64 n] 3)) := (Below.refl _ _).alloc (Nat.le_refl _) _
  have h1 : (w.alloc (.cells #[.int .i64 n] 3)).ownsRow B 3 1 v ns.length (ns.map (Value.int .i64)) := ownsRow_of_block h (fun k o _ ho => by rw [hb1.block k (heap_lt ho)]; exact ho)
  obtain ⟨v', w', hr, ho, hg, -, hat⟩ := run_append_own_at (P := Try.prog) (w.alloc (.cells #[.int .i64 n] 3)) B 34 34 3 i0 (.int .i64 0) 1 8 Try.underlying34 hi hz0 hz1 hz2 rfl (by decide) v ns.length (ns.map (Value.int .i64)) h1 ⟨w.heap.size, 0, none⟩ 1 1 [.int .i64 n] (by simp)
    (fun j u hj => by
      match j, hj with
      | 0, hj =>
        obtain rfl : Value.int .i64 n = u := by simpa using hj
        rw [Addr.add_mid, cell_of_row _ _ _ _ _ _ (heap_alloc_new w _)]; rfl) (by simp [Value.oneCell']) (by unfold maxLen; omega) (by omega) (by simp; omega)
  obtain ⟨ao', cap', hf⟩ := ownsRow_form ho
  refine ⟨v', w', hr, by rw [List.length_append, List.map_append]; exact ho, ((Below.refl B w).alloc hB _).grown hg (by simp; omega) (fun k hk => (h.lt k hk).1), ⟨_, _, _, hf⟩⟩

end Go.Proofs.Ytliboiajhhnajaa
