/- Write by its contract. -/
import Derived.Test.YtliboiajhhnajaaDoorWCore
import Derived.Test.YtliboiajhhnajaaDoorTake
import Derived.Laws.CopyOwn
import Derived.Deep.RegionHeld3
namespace Go.Proofs.YtliboiajhhnajaaDoor
open Go.RowKit Go.Extern

def wErr (S : List Sec) (i : Int) (d : List Nat) : Int := if hasB S i then (if d.length = 128 then 0 else 11) else 20
def wSet (S : List Sec) (i : Int) (d : List Nat) : List Sec := if hasB S i ∧ d.length = 128 then (match S[i.toNat]? with | some s => S.set i.toNat { s with wait := s.wait ++ [d] } | none => S) else S

theorem wSet_no {S : List Sec} {i : Int} {d : List Nat} (h : ¬ (hasB S i = true ∧ d.length = 128)) : wSet S i d = S := by unfold wSet; rw [if_neg h]

end Go.Proofs.YtliboiajhhnajaaDoor
