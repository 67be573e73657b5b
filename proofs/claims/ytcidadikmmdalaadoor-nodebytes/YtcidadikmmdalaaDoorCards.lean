/-
  DERIVED. GIVEN WITH THE SEED: THE CARDS: each row of YtcidadikmmdalaaDoorRows.lean that lists a variable, with what it lists TIED to the program's text (the seventh form; the later family's looks); each row that meets fmt, with fmt's text TOLD by the authors' own Lean function (tested against real Go, not proved from fmt's source: count such statements apart). THE CARD IS WHAT COUNTS. Prove the row's statement (the work); the ties are given (YtcidadikmmdalaaDoorTie.lean); close each card by the builder's one call (the guide's Derived/Test/ToyasCard.lean, 'card_holds'). Laid BY PROGRAM, IN A SANDBOX (cutbox-door.mjs). By AI agents, Wed Nov 11 2026. No macro, syntax, notation, axiom, sorry.
-/
import Derived.Test.YtcidadikmmdalaaDoorRows
import GoSem.ClaimSeven
namespace Go.Proofs.YtcidadikmmdalaaDoor
namespace Rows

/-- THE TIED CARD OF 'portagelaw10.NodeBytes'. -/
def nodeBytesCard : Claim7 := { stood := { row := nodeBytesRow, standIns := [], harness := (true, "5c4c06e05d3098236d5d435223028f2b26ae7bbfed85d46ff735107aa70f3a42"), looks := true }, kinds := [], alts := [], laidByText := true, laidKinds := [.data], laidTests := true, laidLooks := .later }
def NodeBytesCardSaid : Prop := Claim7.holds Tryd.pinned (.plain (OpenSpec.ofChange nodeBytesSpec)) nodeBytesCard

/-- THE SECOND FORM's CARD OF 'portagelaw10.NodeBytes'. -/
def nodeBytesUptoCard : Claim7 := { stood := { row := nodeBytesUptoRow, standIns := [], harness := (true, "5c4c06e05d3098236d5d435223028f2b26ae7bbfed85d46ff735107aa70f3a42"), looks := true }, kinds := [], alts := [], laidByText := true, laidKinds := [.data], laidTests := true, laidLooks := .later }
def NodeBytesUptoCardSaid : Prop := Claim7.holds Tryd.pinned (.plain (OpenSpec.upto nodeBytesSpec)) nodeBytesUptoCard
end Rows
end Go.Proofs.YtcidadikmmdalaaDoor
