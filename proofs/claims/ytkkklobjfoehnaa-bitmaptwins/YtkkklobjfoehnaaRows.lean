/-
  No cell of these rows narrows 'for every input' (looked for: loops, veiled, ifaces, maps, wideKeys, modest, calm, conditions, laid).
  DERIVED. THE GIVEN ROWS OF THIS SEAT. 2 by the template 'for every input the law returns true; each argument reads behind the call as it read before'; 0 by the template 'total and deterministic' (their statements: YtkkklobjfoehnaaTotals.lean).
  GIVEN WITH THE SEED: the statements are not yours to turn. If you find one false, say at which input.
  Laid BY PROGRAM, IN A SANDBOX (cutbox-rows.mjs): the forced cells as the released guide's own fill.sh prints them over the translation f6fdc5ef46fa69f3… (all of the seat's roots in one cut). By AI agents, Wed Nov 11 2026. No macro, syntax, notation, axiom, sorry.
-/
import Derived.Test.YtkkklobjfoehnaaChecked
import GoSem.Claim
import GoSem.ClaimJoined
import GoSem.ClaimMapViews
import Derived.JoinedTies
import Derived.KernelRfl
namespace Go.Proofs.Ytkkklobjfoehnaa
/- THE CELL 'sum', in the pinned program and in every row, IS THE sha256 OF THE DUMP (.gsa) THAT YtkkklobjfoehnaaProg.lean LOADS. Nothing in Lean hashes anything: it is a label: what it is worth is what the hold of that sum in a sandbox is worth. -/
noncomputable def Try.pinned : Pinned := { name := "ytkkklobjfoehnaa", sum := "f6fdc5ef46fa69f33640df9a470ba500f1751f85f58e4e04c4b47537c1fb618e", checked := Try.checked }
namespace Rows
def none {H : Type} : Left H := { results := [], args := [] }

/-- 'portagelaw07.BitmapTwins': WHATEVER THE INPUT: true; the input reads as it did. -/
def bitmapTwinsSpec : ChangeSpec := { name := "bitmapTwins", fn := fun _ => fun
  | [d1, d2, d3] => { results := [.lit (.bool true)], args := [d1, d2, d3] }
  | _ => none }
def bitmapTwinsRow : OpenClaim := { program := "ytkkklobjfoehnaa", sum := "f6fdc5ef46fa69f33640df9a470ba500f1751f85f58e4e04c4b47537c1fb618e", func := "portage/portagelaw07.BitmapTwins", spec := "bitmapTwins", unfollowed := true, recurses := true, apart := false }
def BitmapTwinsSaid : Prop := bitmapTwinsRow.holds Try.pinned (OpenSpec.ofChange bitmapTwinsSpec)

/-- ITS FALSE NEIGHBOUR: 'it returns false'. Refute it at one input. -/
def bitmapTwinsWrong : ChangeSpec := { name := "bitmapTwins", fn := fun _ => fun
  | [d1, d2, d3] => { results := [.lit (.bool false)], args := [d1, d2, d3] }
  | _ => none }
def BitmapTwinsWrongFalsely : Prop := bitmapTwinsRow.holds Try.pinned (OpenSpec.ofChange bitmapTwinsWrong)

/-- 'portagelaw07.BitmapGrows': WHATEVER THE INPUT: true; the input reads as it did. -/
def bitmapGrowsSpec : ChangeSpec := { name := "bitmapGrows", fn := fun _ => fun
  | [d1, d2, d3] => { results := [.lit (.bool true)], args := [d1, d2, d3] }
  | _ => none }
def bitmapGrowsRow : OpenClaim := { program := "ytkkklobjfoehnaa", sum := "f6fdc5ef46fa69f33640df9a470ba500f1751f85f58e4e04c4b47537c1fb618e", func := "portage/portagelaw07.BitmapGrows", spec := "bitmapGrows", inPlace := ["internal/reflectlite.TypeOf"], unfollowed := true, recurses := true, apart := false }
def BitmapGrowsSaid : Prop := bitmapGrowsRow.holds Try.pinned (OpenSpec.ofChange bitmapGrowsSpec)

/-- ITS FALSE NEIGHBOUR: 'it returns false'. Refute it at one input. -/
def bitmapGrowsWrong : ChangeSpec := { name := "bitmapGrows", fn := fun _ => fun
  | [d1, d2, d3] => { results := [.lit (.bool false)], args := [d1, d2, d3] }
  | _ => none }
def BitmapGrowsWrongFalsely : Prop := bitmapGrowsRow.holds Try.pinned (OpenSpec.ofChange bitmapGrowsWrong)

/- THE SECOND FORM. 'bulk': how many values and letters a reading holds, each counted each time it is reached (what is shared counts as often as it is met; a slice's spare places count too). A statement '..UptoSaid' is the law's where the arguments, and the package variables that the reading takes, are together of bulk at most 1048576: NARROWER than '..Said'. Prove '..Said' where nothing that the law and all that it calls make is longer than what came in: it says more and counts as full. Else prove '..UptoSaid'. A law counts once. -/
mutual
def uptoBulk {H : Type} : DataW H → Nat
  | .lit (.string bytes) => bytes.length + 1
  | .lit _ => 1
  | .nil => 1
  | .ptr d => uptoBulk d + 1
  | .slice elems spare => uptoBulkAll elems + uptoBulkAll spare + 1
  | .agg parts => uptoBulkAll parts + 1
  | .iface _ d => uptoBulk d + 1
  | .map entries => uptoBulkEntries entries + 1
  | .held _ => 1
def uptoBulkAll {H : Type} : List (DataW H) → Nat
  | [] => 0
  | d :: r => uptoBulk d + uptoBulkAll r
def uptoBulkEntries {H : Type} : List (Lit × DataW H) → Nat
  | [] => 0
  | x :: r => uptoBulkEntry x + uptoBulkEntries r
def uptoBulkEntry {H : Type} : Lit × DataW H → Nat
  | (.string bytes, d) => bytes.length + uptoBulk d + 1
  | (_, d) => uptoBulk d + 1
 end
def uptoSmall : (H : Type) → List (DataW H) → Bool := fun _ ds => decide (uptoBulkAll ds ≤ 1048576)
def OpenSpec.upto (s : _root_.Go.ChangeSpec) : _root_.Go.OpenSpec := { _root_.Go.OpenSpec.ofChange s with cond := some uptoSmall }

/-- 'portagelaw07.BitmapTwins', WHERE WHAT IT READS IS OF BULK AT MOST 1048576: true; the input reads as it did. -/
def bitmapTwinsUptoRow : OpenClaim := { program := "ytkkklobjfoehnaa", sum := "f6fdc5ef46fa69f33640df9a470ba500f1751f85f58e4e04c4b47537c1fb618e", func := "portage/portagelaw07.BitmapTwins", spec := "bitmapTwins", unfollowed := true, recurses := true, apart := false, narrowed := true }
def BitmapTwinsUptoSaid : Prop := bitmapTwinsUptoRow.holds Try.pinned (OpenSpec.upto bitmapTwinsSpec)

/-- 'portagelaw07.BitmapGrows', WHERE WHAT IT READS IS OF BULK AT MOST 1048576: true; the input reads as it did. -/
def bitmapGrowsUptoRow : OpenClaim := { program := "ytkkklobjfoehnaa", sum := "f6fdc5ef46fa69f33640df9a470ba500f1751f85f58e4e04c4b47537c1fb618e", func := "portage/portagelaw07.BitmapGrows", spec := "bitmapGrows", inPlace := ["internal/reflectlite.TypeOf"], unfollowed := true, recurses := true, apart := false, narrowed := true }
def BitmapGrowsUptoSaid : Prop := bitmapGrowsUptoRow.holds Try.pinned (OpenSpec.upto bitmapGrowsSpec)

end Rows
end Go.Proofs.Ytkkklobjfoehnaa
