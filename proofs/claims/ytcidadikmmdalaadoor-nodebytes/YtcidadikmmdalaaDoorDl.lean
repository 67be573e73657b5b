/- Delete. -/
import Derived.Test.YtcidadikmmdalaaDoorIs
namespace Go.Proofs.YtcidadikmmdalaaDoor
open Go.RowKit Go.Extern

theorem cut_back {w : World} {g n j : Nat} {l : List En} (hr : RowE w g l) (hl : l.length = n) (hj : j ≤ n) : ∃ a c, (∀ w2, (Instr.slice 53 (.slice (some ⟨g, 0, none⟩) n n) (some (.int .i64 (j : Int))) none none).run Tryd.prog w2 = .ok (.slice (some a) (n - j) c) w2) ∧ SrcE w a (l.drop j) := by
  by_cases h : j = n
  · subst h
    refine ⟨⟨g, 0, none⟩, 0, fun w2 => ?_, ?_⟩
    · rw [Nat.sub_self]; exact slice_end rfl w2
    · rw [List.drop_of_length_le (by omega)]; exact SrcE.nil _ _
  · refine ⟨⟨g, j * 2, none⟩, n - j, fun w2 => slice_from0 hj (by omega) w2, ?_⟩
    have := hr.src j (n - j)
    rwa [List.take_of_length_le (by simp; omega)] at this
theorem SrcE.drew {w : World} {a : Addr} {ms : List En} (h : SrcE w a ms) : SrcE w.drew a ms := h
theorem SrcE.below {w w' : World} {a : Addr} {ms : List En} (h : SrcE w a ms) (hb : Below w.heap.size w w') : SrcE w' a ms := fun j v hv => cell_bel hb (h j v hv)
theorem ok_join {l ms : List En} {i j : Nat} (hok : ∀ p ∈ l, enOk p) (hm : ∀ p ∈ ms, enOk p) : ∀ p ∈ l.take i ++ ms ++ l.drop j, enOk p := fun q hq => by
  rcases List.mem_append.1 hq with h | h
  · rcases List.mem_append.1 h with h | h
    · exact hok q (List.mem_of_mem_take h)
    · exact hm q h
  · exact hok q (List.mem_of_mem_drop h)

end Go.Proofs.YtcidadikmmdalaaDoor
