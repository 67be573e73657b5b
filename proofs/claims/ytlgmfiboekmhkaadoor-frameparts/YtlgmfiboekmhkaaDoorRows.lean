/-
  NARROWER THAN 'FOR EVERY INPUT', by the rows' own cells (each row's printed sentence says how): FrameSums: laid · FramePuts: laid · FrameBack: laid · FramePacks: laid · FrameReads: laid · FrameParts: laid.
  DERIVED. THE GIVEN ROWS OF THIS SEAT. 6 by the template 'for every input the law returns true; each argument reads behind the call as it read before'; 0 by the template 'total and deterministic' (their statements: YtlgmfiboekmhkaaDoorTotals.lean).
  GIVEN WITH THE SEED: the statements are not yours to turn. If you find one false, say at which input.
  Laid BY PROGRAM, IN A SANDBOX (cutbox-rows.mjs): the forced cells as the released guide's own fill.sh prints them over the translation 9f5d292033b6ca3f… (all of the seat's roots in one cut). By AI agents, Wed Nov 11 2026. No macro, syntax, notation, axiom, sorry.
-/
import Derived.Test.YtlgmfiboekmhkaaDoorChecked
import GoSem.Claim
import GoSem.ClaimJoined
import GoSem.ClaimMapViews
import Derived.JoinedTies
import Derived.KernelRfl
namespace Go.Proofs.YtlgmfiboekmhkaaDoor
/- THE CELL 'sum', in the pinned program and in every row, IS THE sha256 OF THE DUMP (.gsa) THAT YtlgmfiboekmhkaaDoorProg.lean LOADS. Nothing in Lean hashes anything: it is a label: what it is worth is what the hold of that sum in a sandbox is worth. -/
noncomputable def Tryd.pinned : Pinned := { name := "ytlgmfiboekmhkaadoor", sum := "9f5d292033b6ca3fbc827ddc49ddd0097f84472fee6f9e07e8285f698c5066e1", checked := Tryd.checked }
namespace Rows
def none {H : Type} : Left H := { results := [], args := [] }

/- WHAT THE LISTED PACKAGE-LEVEL VARIABLES READ AS WHEN THE CALL BEGINS. Each datum BY PROGRAM (the guide's laid-datum.mjs) off the statement by which the dump's own 'gosem.cut.vars' lays the variable. In a bare row this is a premise. The card (YtlgmfiboekmhkaaDoorCards.lean) ties it to the program's text. -/
def laid_portage_frame_nibbles {H : Type} : DataW H := .agg [.lit (.int .u32 0), .lit (.int .u32 498536548), .lit (.int .u32 997073096), .lit (.int .u32 651767980), .lit (.int .u32 1994146192), .lit (.int .u32 1802195444), .lit (.int .u32 1303535960), .lit (.int .u32 1342533948), .lit (.int .u32 3988292384), .lit (.int .u32 4027552580), .lit (.int .u32 3604390888), .lit (.int .u32 3412177804), .lit (.int .u32 2607071920), .lit (.int .u32 2262029012), .lit (.int .u32 2685067896), .lit (.int .u32 3183342108)]

/-- 'portagelaw02.FrameSums': WHATEVER THE INPUT: true; the input reads as it did. -/
def frameSumsSpec : ChangeSpec := { name := "frameSums", fn := fun _ => fun
  | [d] => { results := [.lit (.bool true)], args := [d] }
  | _ => none }
def frameSumsRow : OpenClaim := { program := "ytlgmfiboekmhkaadoor", sum := "9f5d292033b6ca3fbc827ddc49ddd0097f84472fee6f9e07e8285f698c5066e1", func := "portage/portagelaw02.FrameSums", spec := "frameSums", named := ["portage/frame.nibbles"], apart := false, laid := [("portage/frame.nibbles", laid_portage_frame_nibbles)] }
def FrameSumsSaid : Prop := frameSumsRow.holds Tryd.pinned (OpenSpec.ofChange frameSumsSpec)

/-- ITS FALSE NEIGHBOUR: 'it returns false'. Refute it at one input. -/
def frameSumsWrong : ChangeSpec := { name := "frameSums", fn := fun _ => fun
  | [d] => { results := [.lit (.bool false)], args := [d] }
  | _ => none }
def FrameSumsWrongFalsely : Prop := frameSumsRow.holds Tryd.pinned (OpenSpec.ofChange frameSumsWrong)

/-- 'portagelaw02.FramePuts': WHATEVER THE INPUT: true; the input reads as it did. -/
def framePutsSpec : ChangeSpec := { name := "framePuts", fn := fun _ => fun
  | [d] => { results := [.lit (.bool true)], args := [d] }
  | _ => none }
def framePutsRow : OpenClaim := { program := "ytlgmfiboekmhkaadoor", sum := "9f5d292033b6ca3fbc827ddc49ddd0097f84472fee6f9e07e8285f698c5066e1", func := "portage/portagelaw02.FramePuts", spec := "framePuts", inPlace := ["internal/reflectlite.TypeOf"], unfollowed := true, recurses := true, named := ["portage/frame.nibbles"], apart := false, laid := [("portage/frame.nibbles", laid_portage_frame_nibbles)] }
def FramePutsSaid : Prop := framePutsRow.holds Tryd.pinned (OpenSpec.ofChange framePutsSpec)

/-- ITS FALSE NEIGHBOUR: 'it returns false'. Refute it at one input. -/
def framePutsWrong : ChangeSpec := { name := "framePuts", fn := fun _ => fun
  | [d] => { results := [.lit (.bool false)], args := [d] }
  | _ => none }
def FramePutsWrongFalsely : Prop := framePutsRow.holds Tryd.pinned (OpenSpec.ofChange framePutsWrong)

/-- 'portagelaw02.FrameBack': WHATEVER THE INPUT: true; the input reads as it did. -/
def frameBackSpec : ChangeSpec := { name := "frameBack", fn := fun _ => fun
  | [d] => { results := [.lit (.bool true)], args := [d] }
  | _ => none }
def frameBackRow : OpenClaim := { program := "ytlgmfiboekmhkaadoor", sum := "9f5d292033b6ca3fbc827ddc49ddd0097f84472fee6f9e07e8285f698c5066e1", func := "portage/portagelaw02.FrameBack", spec := "frameBack", inPlace := ["internal/reflectlite.TypeOf"], unfollowed := true, recurses := true, named := ["portage/frame.nibbles"], apart := false, laid := [("portage/frame.nibbles", laid_portage_frame_nibbles)] }
def FrameBackSaid : Prop := frameBackRow.holds Tryd.pinned (OpenSpec.ofChange frameBackSpec)

/-- ITS FALSE NEIGHBOUR: 'it returns false'. Refute it at one input. -/
def frameBackWrong : ChangeSpec := { name := "frameBack", fn := fun _ => fun
  | [d] => { results := [.lit (.bool false)], args := [d] }
  | _ => none }
def FrameBackWrongFalsely : Prop := frameBackRow.holds Tryd.pinned (OpenSpec.ofChange frameBackWrong)

/-- 'portagelaw02.FramePacks': WHATEVER THE INPUT: true; the input reads as it did. -/
def framePacksSpec : ChangeSpec := { name := "framePacks", fn := fun _ => fun
  | [d] => { results := [.lit (.bool true)], args := [d] }
  | _ => none }
def framePacksRow : OpenClaim := { program := "ytlgmfiboekmhkaadoor", sum := "9f5d292033b6ca3fbc827ddc49ddd0097f84472fee6f9e07e8285f698c5066e1", func := "portage/portagelaw02.FramePacks", spec := "framePacks", inPlace := ["internal/reflectlite.TypeOf"], unfollowed := true, recurses := true, named := ["portage/frame.nibbles"], apart := false, laid := [("portage/frame.nibbles", laid_portage_frame_nibbles)] }
def FramePacksSaid : Prop := framePacksRow.holds Tryd.pinned (OpenSpec.ofChange framePacksSpec)

/-- ITS FALSE NEIGHBOUR: 'it returns false'. Refute it at one input. -/
def framePacksWrong : ChangeSpec := { name := "framePacks", fn := fun _ => fun
  | [d] => { results := [.lit (.bool false)], args := [d] }
  | _ => none }
def FramePacksWrongFalsely : Prop := framePacksRow.holds Tryd.pinned (OpenSpec.ofChange framePacksWrong)

/-- 'portagelaw02.FrameReads': WHATEVER THE INPUT: true; the input reads as it did. -/
def frameReadsSpec : ChangeSpec := { name := "frameReads", fn := fun _ => fun
  | [d1, d2, d3] => { results := [.lit (.bool true)], args := [d1, d2, d3] }
  | _ => none }
def frameReadsRow : OpenClaim := { program := "ytlgmfiboekmhkaadoor", sum := "9f5d292033b6ca3fbc827ddc49ddd0097f84472fee6f9e07e8285f698c5066e1", func := "portage/portagelaw02.FrameReads", spec := "frameReads", inPlace := ["internal/reflectlite.TypeOf"], unfollowed := true, recurses := true, named := ["portage/frame.nibbles"], apart := false, laid := [("portage/frame.nibbles", laid_portage_frame_nibbles)] }
def FrameReadsSaid : Prop := frameReadsRow.holds Tryd.pinned (OpenSpec.ofChange frameReadsSpec)

/-- ITS FALSE NEIGHBOUR: 'it returns false'. Refute it at one input. -/
def frameReadsWrong : ChangeSpec := { name := "frameReads", fn := fun _ => fun
  | [d1, d2, d3] => { results := [.lit (.bool false)], args := [d1, d2, d3] }
  | _ => none }
def FrameReadsWrongFalsely : Prop := frameReadsRow.holds Tryd.pinned (OpenSpec.ofChange frameReadsWrong)

/-- 'portagelaw02.FrameParts': WHATEVER THE INPUT: true; the input reads as it did. -/
def framePartsSpec : ChangeSpec := { name := "frameParts", fn := fun _ => fun
  | [d] => { results := [.lit (.bool true)], args := [d] }
  | _ => none }
def framePartsRow : OpenClaim := { program := "ytlgmfiboekmhkaadoor", sum := "9f5d292033b6ca3fbc827ddc49ddd0097f84472fee6f9e07e8285f698c5066e1", func := "portage/portagelaw02.FrameParts", spec := "frameParts", named := ["portage/frame.nibbles"], apart := false, laid := [("portage/frame.nibbles", laid_portage_frame_nibbles)] }
def FramePartsSaid : Prop := framePartsRow.holds Tryd.pinned (OpenSpec.ofChange framePartsSpec)

/-- ITS FALSE NEIGHBOUR: 'it returns false'. Refute it at one input. -/
def framePartsWrong : ChangeSpec := { name := "frameParts", fn := fun _ => fun
  | [d] => { results := [.lit (.bool false)], args := [d] }
  | _ => none }
def FramePartsWrongFalsely : Prop := framePartsRow.holds Tryd.pinned (OpenSpec.ofChange framePartsWrong)

/- THE SECOND FORM. 'bulk': how many values and letters a reading holds, each counted each time it is reached (what is shared counts as often as it is met; a slice's spare places count too). A statement '..UptoSaid' is the law's where the arguments, and the package variables that the reading takes, are together of bulk at most 1048576: NARROWER than '..Said'. Prove '..Said' where nothing that the law and all that it calls make is longer than what came in: it says more and counts as full. Else prove '..UptoSaid'. A law counts once. -/
mutual
def uptoBulk {H : Type} : DataW H → Nat
  | .lit (.string bytes) => bytes.length + 1
  | .lit _ => 1
  | .nil => 1
  | .ptr d => uptoBulk d + 1
  | .slice elems spare => uptoBulkAll elems + uptoBulkAll spare + 1
  | .agg parts => uptoBulkAll parts + 1
  | .iface _ d => uptoBulk d + 1
  | .map entries => uptoBulkEntries entries + 1
  | .held _ => 1
def uptoBulkAll {H : Type} : List (DataW H) → Nat
  | [] => 0
  | d :: r => uptoBulk d + uptoBulkAll r
def uptoBulkEntries {H : Type} : List (Lit × DataW H) → Nat
  | [] => 0
  | x :: r => uptoBulkEntry x + uptoBulkEntries r
def uptoBulkEntry {H : Type} : Lit × DataW H → Nat
  | (.string bytes, d) => bytes.length + uptoBulk d + 1
  | (_, d) => uptoBulk d + 1
 end
def uptoSmall : (H : Type) → List (DataW H) → Bool := fun _ ds => decide (uptoBulkAll ds ≤ 1048576)
def OpenSpec.upto (s : _root_.Go.ChangeSpec) : _root_.Go.OpenSpec := { _root_.Go.OpenSpec.ofChange s with cond := some uptoSmall }

/-- 'portagelaw02.FrameSums', WHERE WHAT IT READS IS OF BULK AT MOST 1048576: true; the input reads as it did. -/
def frameSumsUptoRow : OpenClaim := { program := "ytlgmfiboekmhkaadoor", sum := "9f5d292033b6ca3fbc827ddc49ddd0097f84472fee6f9e07e8285f698c5066e1", func := "portage/portagelaw02.FrameSums", spec := "frameSums", named := ["portage/frame.nibbles"], apart := false, laid := [("portage/frame.nibbles", laid_portage_frame_nibbles)], narrowed := true }
def FrameSumsUptoSaid : Prop := frameSumsUptoRow.holds Tryd.pinned (OpenSpec.upto frameSumsSpec)

/-- 'portagelaw02.FramePuts', WHERE WHAT IT READS IS OF BULK AT MOST 1048576: true; the input reads as it did. -/
def framePutsUptoRow : OpenClaim := { program := "ytlgmfiboekmhkaadoor", sum := "9f5d292033b6ca3fbc827ddc49ddd0097f84472fee6f9e07e8285f698c5066e1", func := "portage/portagelaw02.FramePuts", spec := "framePuts", inPlace := ["internal/reflectlite.TypeOf"], unfollowed := true, recurses := true, named := ["portage/frame.nibbles"], apart := false, laid := [("portage/frame.nibbles", laid_portage_frame_nibbles)], narrowed := true }
def FramePutsUptoSaid : Prop := framePutsUptoRow.holds Tryd.pinned (OpenSpec.upto framePutsSpec)

/-- 'portagelaw02.FrameBack', WHERE WHAT IT READS IS OF BULK AT MOST 1048576: true; the input reads as it did. -/
def frameBackUptoRow : OpenClaim := { program := "ytlgmfiboekmhkaadoor", sum := "9f5d292033b6ca3fbc827ddc49ddd0097f84472fee6f9e07e8285f698c5066e1", func := "portage/portagelaw02.FrameBack", spec := "frameBack", inPlace := ["internal/reflectlite.TypeOf"], unfollowed := true, recurses := true, named := ["portage/frame.nibbles"], apart := false, laid := [("portage/frame.nibbles", laid_portage_frame_nibbles)], narrowed := true }
def FrameBackUptoSaid : Prop := frameBackUptoRow.holds Tryd.pinned (OpenSpec.upto frameBackSpec)

/-- 'portagelaw02.FramePacks', WHERE WHAT IT READS IS OF BULK AT MOST 1048576: true; the input reads as it did. -/
def framePacksUptoRow : OpenClaim := { program := "ytlgmfiboekmhkaadoor", sum := "9f5d292033b6ca3fbc827ddc49ddd0097f84472fee6f9e07e8285f698c5066e1", func := "portage/portagelaw02.FramePacks", spec := "framePacks", inPlace := ["internal/reflectlite.TypeOf"], unfollowed := true, recurses := true, named := ["portage/frame.nibbles"], apart := false, laid := [("portage/frame.nibbles", laid_portage_frame_nibbles)], narrowed := true }
def FramePacksUptoSaid : Prop := framePacksUptoRow.holds Tryd.pinned (OpenSpec.upto framePacksSpec)

/-- 'portagelaw02.FrameReads', WHERE WHAT IT READS IS OF BULK AT MOST 1048576: true; the input reads as it did. -/
def frameReadsUptoRow : OpenClaim := { program := "ytlgmfiboekmhkaadoor", sum := "9f5d292033b6ca3fbc827ddc49ddd0097f84472fee6f9e07e8285f698c5066e1", func := "portage/portagelaw02.FrameReads", spec := "frameReads", inPlace := ["internal/reflectlite.TypeOf"], unfollowed := true, recurses := true, named := ["portage/frame.nibbles"], apart := false, laid := [("portage/frame.nibbles", laid_portage_frame_nibbles)], narrowed := true }
def FrameReadsUptoSaid : Prop := frameReadsUptoRow.holds Tryd.pinned (OpenSpec.upto frameReadsSpec)

/-- 'portagelaw02.FrameParts', WHERE WHAT IT READS IS OF BULK AT MOST 1048576: true; the input reads as it did. -/
def framePartsUptoRow : OpenClaim := { program := "ytlgmfiboekmhkaadoor", sum := "9f5d292033b6ca3fbc827ddc49ddd0097f84472fee6f9e07e8285f698c5066e1", func := "portage/portagelaw02.FrameParts", spec := "frameParts", named := ["portage/frame.nibbles"], apart := false, laid := [("portage/frame.nibbles", laid_portage_frame_nibbles)], narrowed := true }
def FramePartsUptoSaid : Prop := framePartsUptoRow.holds Tryd.pinned (OpenSpec.upto framePartsSpec)

end Rows
end Go.Proofs.YtlgmfiboekmhkaaDoor
