/- Read by its contract. -/
import Derived.Test.YtliboiajhhnajaaDoorChoose
import Derived.Test.YtliboiajhhnajaaDoorErr
namespace Go.Proofs.YtliboiajhhnajaaDoor
open Go.RowKit Go.Extern

/-- What is read last: what was written last, or what lasts. -/
def Sec.top (s : Sec) : List Nat := s.pick (s.wait.length : Int)
theorem Sec.top_con {s : Sec} (h : GoodSec s) : Con s.top := s.pick_con h _

theorem bytes_of_con {w : World} {g : Nat} {c : List Nat} {t : TypeId} {fr : Nat × Nat} (hc : Con c) (h : w.heap[g]? = some (.cells (conC c) t fr)) : Bytes w (.slice (some ⟨g, 0, none⟩) 128 128) c := by
  refine ⟨some ⟨g, 0, none⟩, 128, g, 0, by rw [hc.1], fun _ => rfl, fun i b hb => ?_, hc.2, by rw [hc.1]; decide, by simp, by rw [hc.1]; exact Nat.le_refl _, by unfold maxLen; decide⟩
  rw [cell_of_row w g _ _ _ _ h, Nat.zero_add]
  unfold conC
  rw [List.getElem?_toArray]
  exact cellsB_get hb

def rErr (S : List Sec) (i : Int) : Int := if hasB S i then (match S[i.toNat]? with | some s => if s.bad then 21 else 0 | none => 0) else 20
def rDat (S : List Sec) (i : Int) : List Nat := if hasB S i then (match S[i.toNat]? with | some s => if s.bad then [] else s.top | none => []) else []
/-- What Read leaves. -/
def Readed (S : List Sec) (i : Int) (w : World) (e : Ending) (w' : World) : Prop := ∃ u, e = .returned (.tuple #[u, errV (rErr S i)]) ∧ Own w' w.heap.size u (rDat S i) ∧ Below w.heap.size w w'

end Go.Proofs.YtliboiajhhnajaaDoor
