/-
  DERIVED. GIVEN WITH THE SEED: THE CARDS: each row of YtliboiajhhnajaaDoorRows.lean that lists a variable, with what it lists TIED to the program's text (the seventh form; the later family's looks); each row that meets fmt, with fmt's text TOLD by the authors' own Lean function (tested against real Go, not proved from fmt's source: count such statements apart). THE CARD IS WHAT COUNTS. Prove the row's statement (the work); the ties are given (YtliboiajhhnajaaDoorTie.lean); close each card by the builder's one call (the guide's Derived/Test/ToyasCard.lean, 'card_holds'). Laid BY PROGRAM, IN A SANDBOX (cutbox-door.mjs). By AI agents, Wed Nov 11 2026. No macro, syntax, notation, axiom, sorry.
-/
import Derived.Test.YtliboiajhhnajaaDoorRows
import GoSem.ClaimSeven
namespace Go.Proofs.YtliboiajhhnajaaDoor
namespace Rows

/-- THE TIED CARD OF 'portagelaw04.BankNumbers'. -/
def bankNumbersCard : Claim7 := { stood := { row := bankNumbersRow, standIns := [], harness := (true, "a84e8ada71473fe97013874cd89d6598a784d31477e2fb55bc66d6de648db164"), looks := true }, kinds := [], alts := [], laidByText := true, laidKinds := [.handle], laidTests := true, laidLooks := .later }
def BankNumbersCardSaid : Prop := Claim7.holds Tryd.pinned (.plain (OpenSpec.ofChange bankNumbersSpec)) bankNumbersCard

/-- THE SECOND FORM's CARD OF 'portagelaw04.BankNumbers'. -/
def bankNumbersUptoCard : Claim7 := { stood := { row := bankNumbersUptoRow, standIns := [], harness := (true, "a84e8ada71473fe97013874cd89d6598a784d31477e2fb55bc66d6de648db164"), looks := true }, kinds := [], alts := [], laidByText := true, laidKinds := [.handle], laidTests := true, laidLooks := .later }
def BankNumbersUptoCardSaid : Prop := Claim7.holds Tryd.pinned (.plain (OpenSpec.upto bankNumbersSpec)) bankNumbersUptoCard
end Rows
end Go.Proofs.YtliboiajhhnajaaDoor
