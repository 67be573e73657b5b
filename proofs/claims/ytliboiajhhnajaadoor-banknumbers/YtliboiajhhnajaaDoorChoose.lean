/- choose by its contract. -/
import Derived.Test.YtliboiajhhnajaaDoorMid
namespace Go.Proofs.YtliboiajhhnajaaDoor
open Go.RowKit Go.Extern

theorem len_pos {S : List Sec} {i : Nat} {s : Sec} (h : S[i]? = some s) : 0 < S.length := by
  have := (List.getElem?_eq_some_iff.1 h).1; omega
end Go.Proofs.YtliboiajhhnajaaDoor
