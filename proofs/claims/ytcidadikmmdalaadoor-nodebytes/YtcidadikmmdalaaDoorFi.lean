/- isRight; the document's Fits. -/
import Derived.Test.YtcidadikmmdalaaDoorSp
namespace Go.Proofs.YtcidadikmmdalaaDoor
open Go.RowKit Go.Extern

set_option maxRecDepth 100000 in
theorem isRight_any (k v : Int) (w : World) :
    Calls Tryd.prog 38 #[.agg #[.int .i64 k, .int .i64 v]] w fun e w' => e = .returned (.bool (fitB k v)) ∧ Below w.heap.size w w' := by
  go_enter Tryd.func38, Tryd.ntmps38
  go_wp2
  all_goals go_ret
  all_goals refine ⟨?_, (Below.refl _ _).alloc (Nat.le_refl _) _⟩
  all_goals first | rfl | (simp_all [fitB] <;> omega)
set_option maxRecDepth 100000 in
theorem fits_any (k v : Int) (w : World) :
    Calls Tryd.prog 46 #[.int .i64 k, .int .i64 v] w fun e w' => e = .returned (.bool (fitB k v)) ∧ w' = w := by
  go_enter Tryd.func46, Tryd.ntmps46
  go_wp2
  all_goals go_ret
  all_goals refine ⟨?_, rfl⟩
  all_goals first | rfl | (simp_all [fitB] <;> omega)
end Go.Proofs.YtcidadikmmdalaaDoor
