/-
  NARROWER THAN 'FOR EVERY INPUT', by the rows' own cells (each row's printed sentence says how): Systems: laid · Common: laid · Rooted: laid · Parted: laid · Merged: laid · Kept: laid · All: laid.
  DERIVED. THE GIVEN ROWS OF THIS SEAT. 7 by the template 'for every input the law returns true; each argument reads behind the call as it read before'; 0 by the template 'total and deterministic' (their statements: YthlmgpllapccfaaGreatDoorTotals.lean).
  GIVEN WITH THE SEED: the statements are not yours to turn. If you find one false, say at which input.
  Laid BY PROGRAM, IN A SANDBOX (cutbox-rows.mjs): the forced cells as the released guide's own fill.sh prints them over the translation e8da28cd5a6e539b… (all of the seat's roots in one cut). By AI agents, Wed Nov 11 2026. No macro, syntax, notation, axiom, sorry.
-/
import Derived.Test.YthlmgpllapccfaaGreatDoorChecked
import GoSem.Claim
import GoSem.ClaimJoined
import GoSem.ClaimMapViews
import Derived.JoinedTies
import Derived.KernelRfl
namespace Go.Proofs.YthlmgpllapccfaaGreatDoor
/- THE CELL 'sum', in the pinned program and in every row, IS THE sha256 OF THE DUMP (.gsa) THAT YthlmgpllapccfaaGreatDoorProg.lean LOADS. Nothing in Lean hashes anything: it is a label: what it is worth is what the hold of that sum in a sandbox is worth. -/
noncomputable def Tryz.pinned : Pinned := { name := "ythlmgpllapccfaagreatdoor", sum := "e8da28cd5a6e539b65ac3c0f1cb99ceb678c18562a98f21ca5e5a4a932a2381c", checked := Tryz.checked }
namespace Rows
def none {H : Type} : Left H := { results := [], args := [] }

/- WHAT THE LISTED PACKAGE-LEVEL VARIABLES READ AS WHEN THE CALL BEGINS. Each datum BY PROGRAM (the guide's laid-datum.mjs) off the statement by which the dump's own 'gosem.cut.vars' lays the variable. In a bare row this is a premise. The card (YthlmgpllapccfaaGreatDoorCards.lean) ties it to the program's text. -/
def laid_errors_errorType {H : Type} : DataW H := .iface "internal/reflectlite.rtype" (.agg [.ptr (.lit (.string [101, 114, 114, 111, 114]))])

/-- 'segmentslaw.Systems': WHATEVER THE INPUT: true; the input reads as it did. -/
def systemsSpec : ChangeSpec := { name := "systems", fn := fun _ => fun
  | [d] => { results := [.lit (.bool true)], args := [d] }
  | _ => none }
def systemsRow : OpenClaim := { program := "ythlmgpllapccfaagreatdoor", sum := "e8da28cd5a6e539b65ac3c0f1cb99ceb678c18562a98f21ca5e5a4a932a2381c", func := "segments/segmentslaw.Systems", spec := "systems", inPlace := ["internal/reflectlite.ValueOf", "(internal/reflectlite.Value).Type", "(internal/reflectlite.Value).IsNil", "internal/reflectlite.TypeOf", "(internal/reflectlite.Value).Elem", "(internal/reflectlite.Value).Set"], unfollowed := true, recurses := true, named := ["errors.errorType"], apart := false, laid := [("errors.errorType", laid_errors_errorType)] }
def SystemsSaid : Prop := systemsRow.holds Tryz.pinned (OpenSpec.ofChange systemsSpec)

/-- ITS FALSE NEIGHBOUR: 'it returns false'. Refute it at one input. -/
def systemsWrong : ChangeSpec := { name := "systems", fn := fun _ => fun
  | [d] => { results := [.lit (.bool false)], args := [d] }
  | _ => none }
def SystemsWrongFalsely : Prop := systemsRow.holds Tryz.pinned (OpenSpec.ofChange systemsWrong)

/-- 'segmentskeep.Common': WHATEVER THE INPUT: true; the input reads as it did. -/
def commonSpec : ChangeSpec := { name := "common", fn := fun _ => fun
  | [d1, d2, d3, d4, d5, d6] => { results := [.lit (.bool true)], args := [d1, d2, d3, d4, d5, d6] }
  | _ => none }
def commonRow : OpenClaim := { program := "ythlmgpllapccfaagreatdoor", sum := "e8da28cd5a6e539b65ac3c0f1cb99ceb678c18562a98f21ca5e5a4a932a2381c", func := "segments/segmentskeep.Common", spec := "common", inPlace := ["internal/reflectlite.ValueOf", "(internal/reflectlite.Value).Type", "(internal/reflectlite.Value).IsNil", "internal/reflectlite.TypeOf", "(internal/reflectlite.Value).Elem", "(internal/reflectlite.Value).Set"], unfollowed := true, recurses := true, named := ["errors.errorType"], apart := false, laid := [("errors.errorType", laid_errors_errorType)] }
def CommonSaid : Prop := commonRow.holds Tryz.pinned (OpenSpec.ofChange commonSpec)

/-- ITS FALSE NEIGHBOUR: 'it returns false'. Refute it at one input. -/
def commonWrong : ChangeSpec := { name := "common", fn := fun _ => fun
  | [d1, d2, d3, d4, d5, d6] => { results := [.lit (.bool false)], args := [d1, d2, d3, d4, d5, d6] }
  | _ => none }
def CommonWrongFalsely : Prop := commonRow.holds Tryz.pinned (OpenSpec.ofChange commonWrong)

/-- 'segmentskeep.Rooted': WHATEVER THE INPUT: true; the input reads as it did. -/
def rootedSpec : ChangeSpec := { name := "rooted", fn := fun _ => fun
  | [d1, d2, d3] => { results := [.lit (.bool true)], args := [d1, d2, d3] }
  | _ => none }
def rootedRow : OpenClaim := { program := "ythlmgpllapccfaagreatdoor", sum := "e8da28cd5a6e539b65ac3c0f1cb99ceb678c18562a98f21ca5e5a4a932a2381c", func := "segments/segmentskeep.Rooted", spec := "rooted", inPlace := ["internal/reflectlite.ValueOf", "(internal/reflectlite.Value).Type", "(internal/reflectlite.Value).IsNil", "internal/reflectlite.TypeOf", "(internal/reflectlite.Value).Elem", "(internal/reflectlite.Value).Set"], unfollowed := true, recurses := true, named := ["errors.errorType"], apart := false, laid := [("errors.errorType", laid_errors_errorType)] }
def RootedSaid : Prop := rootedRow.holds Tryz.pinned (OpenSpec.ofChange rootedSpec)

/-- ITS FALSE NEIGHBOUR: 'it returns false'. Refute it at one input. -/
def rootedWrong : ChangeSpec := { name := "rooted", fn := fun _ => fun
  | [d1, d2, d3] => { results := [.lit (.bool false)], args := [d1, d2, d3] }
  | _ => none }
def RootedWrongFalsely : Prop := rootedRow.holds Tryz.pinned (OpenSpec.ofChange rootedWrong)

/-- 'segmentskeep.Parted': WHATEVER THE INPUT: true; the input reads as it did. -/
def partedSpec : ChangeSpec := { name := "parted", fn := fun _ => fun
  | [d1, d2] => { results := [.lit (.bool true)], args := [d1, d2] }
  | _ => none }
def partedRow : OpenClaim := { program := "ythlmgpllapccfaagreatdoor", sum := "e8da28cd5a6e539b65ac3c0f1cb99ceb678c18562a98f21ca5e5a4a932a2381c", func := "segments/segmentskeep.Parted", spec := "parted", inPlace := ["internal/reflectlite.ValueOf", "(internal/reflectlite.Value).Type", "(internal/reflectlite.Value).IsNil", "internal/reflectlite.TypeOf", "(internal/reflectlite.Value).Elem", "(internal/reflectlite.Value).Set"], unfollowed := true, recurses := true, named := ["errors.errorType"], apart := false, laid := [("errors.errorType", laid_errors_errorType)] }
def PartedSaid : Prop := partedRow.holds Tryz.pinned (OpenSpec.ofChange partedSpec)

/-- ITS FALSE NEIGHBOUR: 'it returns false'. Refute it at one input. -/
def partedWrong : ChangeSpec := { name := "parted", fn := fun _ => fun
  | [d1, d2] => { results := [.lit (.bool false)], args := [d1, d2] }
  | _ => none }
def PartedWrongFalsely : Prop := partedRow.holds Tryz.pinned (OpenSpec.ofChange partedWrong)

/-- 'segmentskeep.Merged': WHATEVER THE INPUT: true; the input reads as it did. -/
def mergedSpec : ChangeSpec := { name := "merged", fn := fun _ => fun
  | [d1, d2, d3] => { results := [.lit (.bool true)], args := [d1, d2, d3] }
  | _ => none }
def mergedRow : OpenClaim := { program := "ythlmgpllapccfaagreatdoor", sum := "e8da28cd5a6e539b65ac3c0f1cb99ceb678c18562a98f21ca5e5a4a932a2381c", func := "segments/segmentskeep.Merged", spec := "merged", inPlace := ["internal/reflectlite.ValueOf", "(internal/reflectlite.Value).Type", "(internal/reflectlite.Value).IsNil", "internal/reflectlite.TypeOf", "(internal/reflectlite.Value).Elem", "(internal/reflectlite.Value).Set"], unfollowed := true, recurses := true, named := ["errors.errorType"], apart := false, laid := [("errors.errorType", laid_errors_errorType)] }
def MergedSaid : Prop := mergedRow.holds Tryz.pinned (OpenSpec.ofChange mergedSpec)

/-- ITS FALSE NEIGHBOUR: 'it returns false'. Refute it at one input. -/
def mergedWrong : ChangeSpec := { name := "merged", fn := fun _ => fun
  | [d1, d2, d3] => { results := [.lit (.bool false)], args := [d1, d2, d3] }
  | _ => none }
def MergedWrongFalsely : Prop := mergedRow.holds Tryz.pinned (OpenSpec.ofChange mergedWrong)

/-- 'segmentskeep.Kept': WHATEVER THE INPUT: true; the input reads as it did. -/
def keptSpec : ChangeSpec := { name := "kept", fn := fun _ => fun
  | [d] => { results := [.lit (.bool true)], args := [d] }
  | _ => none }
def keptRow : OpenClaim := { program := "ythlmgpllapccfaagreatdoor", sum := "e8da28cd5a6e539b65ac3c0f1cb99ceb678c18562a98f21ca5e5a4a932a2381c", func := "segments/segmentskeep.Kept", spec := "kept", inPlace := ["internal/reflectlite.ValueOf", "(internal/reflectlite.Value).Type", "(internal/reflectlite.Value).IsNil", "internal/reflectlite.TypeOf", "(internal/reflectlite.Value).Elem", "(internal/reflectlite.Value).Set"], unfollowed := true, recurses := true, named := ["errors.errorType"], apart := false, laid := [("errors.errorType", laid_errors_errorType)] }
def KeptSaid : Prop := keptRow.holds Tryz.pinned (OpenSpec.ofChange keptSpec)

/-- ITS FALSE NEIGHBOUR: 'it returns false'. Refute it at one input. -/
def keptWrong : ChangeSpec := { name := "kept", fn := fun _ => fun
  | [d] => { results := [.lit (.bool false)], args := [d] }
  | _ => none }
def KeptWrongFalsely : Prop := keptRow.holds Tryz.pinned (OpenSpec.ofChange keptWrong)

/-- 'segmentslaw.All': WHATEVER THE INPUT: true; the input reads as it did. -/
def allSpec : ChangeSpec := { name := "all", fn := fun _ => fun
  | [d] => { results := [.lit (.bool true)], args := [d] }
  | _ => none }
def allRow : OpenClaim := { program := "ythlmgpllapccfaagreatdoor", sum := "e8da28cd5a6e539b65ac3c0f1cb99ceb678c18562a98f21ca5e5a4a932a2381c", func := "segments/segmentslaw.All", spec := "all", inPlace := ["internal/reflectlite.ValueOf", "(internal/reflectlite.Value).Type", "(internal/reflectlite.Value).IsNil", "internal/reflectlite.TypeOf", "(internal/reflectlite.Value).Elem", "(internal/reflectlite.Value).Set"], unfollowed := true, recurses := true, named := ["errors.errorType"], apart := false, laid := [("errors.errorType", laid_errors_errorType)] }
def AllSaid : Prop := allRow.holds Tryz.pinned (OpenSpec.ofChange allSpec)

/-- ITS FALSE NEIGHBOUR: 'it returns false'. Refute it at one input. -/
def allWrong : ChangeSpec := { name := "all", fn := fun _ => fun
  | [d] => { results := [.lit (.bool false)], args := [d] }
  | _ => none }
def AllWrongFalsely : Prop := allRow.holds Tryz.pinned (OpenSpec.ofChange allWrong)

/- THE SECOND FORM. 'bulk': how many values and letters a reading holds, each counted each time it is reached (what is shared counts as often as it is met; a slice's spare places count too). A statement '..UptoSaid' is the law's where the arguments, and the package variables that the reading takes, are together of bulk at most 1048576: NARROWER than '..Said'. Prove '..Said' where nothing that the law and all that it calls make is longer than what came in: it says more and counts as full. Else prove '..UptoSaid'. A law counts once. -/
mutual
def uptoBulk {H : Type} : DataW H → Nat
  | .lit (.string bytes) => bytes.length + 1
  | .lit _ => 1
  | .nil => 1
  | .ptr d => uptoBulk d + 1
  | .slice elems spare => uptoBulkAll elems + uptoBulkAll spare + 1
  | .agg parts => uptoBulkAll parts + 1
  | .iface _ d => uptoBulk d + 1
  | .map entries => uptoBulkEntries entries + 1
  | .held _ => 1
def uptoBulkAll {H : Type} : List (DataW H) → Nat
  | [] => 0
  | d :: r => uptoBulk d + uptoBulkAll r
def uptoBulkEntries {H : Type} : List (Lit × DataW H) → Nat
  | [] => 0
  | x :: r => uptoBulkEntry x + uptoBulkEntries r
def uptoBulkEntry {H : Type} : Lit × DataW H → Nat
  | (.string bytes, d) => bytes.length + uptoBulk d + 1
  | (_, d) => uptoBulk d + 1
 end
def uptoSmall : (H : Type) → List (DataW H) → Bool := fun _ ds => decide (uptoBulkAll ds ≤ 1048576)
def OpenSpec.upto (s : _root_.Go.ChangeSpec) : _root_.Go.OpenSpec := { _root_.Go.OpenSpec.ofChange s with cond := some uptoSmall }

/-- 'segmentslaw.Systems', WHERE WHAT IT READS IS OF BULK AT MOST 1048576: true; the input reads as it did. -/
def systemsUptoRow : OpenClaim := { program := "ythlmgpllapccfaagreatdoor", sum := "e8da28cd5a6e539b65ac3c0f1cb99ceb678c18562a98f21ca5e5a4a932a2381c", func := "segments/segmentslaw.Systems", spec := "systems", inPlace := ["internal/reflectlite.ValueOf", "(internal/reflectlite.Value).Type", "(internal/reflectlite.Value).IsNil", "internal/reflectlite.TypeOf", "(internal/reflectlite.Value).Elem", "(internal/reflectlite.Value).Set"], unfollowed := true, recurses := true, named := ["errors.errorType"], apart := false, laid := [("errors.errorType", laid_errors_errorType)], narrowed := true }
def SystemsUptoSaid : Prop := systemsUptoRow.holds Tryz.pinned (OpenSpec.upto systemsSpec)

/-- 'segmentskeep.Common', WHERE WHAT IT READS IS OF BULK AT MOST 1048576: true; the input reads as it did. -/
def commonUptoRow : OpenClaim := { program := "ythlmgpllapccfaagreatdoor", sum := "e8da28cd5a6e539b65ac3c0f1cb99ceb678c18562a98f21ca5e5a4a932a2381c", func := "segments/segmentskeep.Common", spec := "common", inPlace := ["internal/reflectlite.ValueOf", "(internal/reflectlite.Value).Type", "(internal/reflectlite.Value).IsNil", "internal/reflectlite.TypeOf", "(internal/reflectlite.Value).Elem", "(internal/reflectlite.Value).Set"], unfollowed := true, recurses := true, named := ["errors.errorType"], apart := false, laid := [("errors.errorType", laid_errors_errorType)], narrowed := true }
def CommonUptoSaid : Prop := commonUptoRow.holds Tryz.pinned (OpenSpec.upto commonSpec)

/-- 'segmentskeep.Rooted', WHERE WHAT IT READS IS OF BULK AT MOST 1048576: true; the input reads as it did. -/
def rootedUptoRow : OpenClaim := { program := "ythlmgpllapccfaagreatdoor", sum := "e8da28cd5a6e539b65ac3c0f1cb99ceb678c18562a98f21ca5e5a4a932a2381c", func := "segments/segmentskeep.Rooted", spec := "rooted", inPlace := ["internal/reflectlite.ValueOf", "(internal/reflectlite.Value).Type", "(internal/reflectlite.Value).IsNil", "internal/reflectlite.TypeOf", "(internal/reflectlite.Value).Elem", "(internal/reflectlite.Value).Set"], unfollowed := true, recurses := true, named := ["errors.errorType"], apart := false, laid := [("errors.errorType", laid_errors_errorType)], narrowed := true }
def RootedUptoSaid : Prop := rootedUptoRow.holds Tryz.pinned (OpenSpec.upto rootedSpec)

/-- 'segmentskeep.Parted', WHERE WHAT IT READS IS OF BULK AT MOST 1048576: true; the input reads as it did. -/
def partedUptoRow : OpenClaim := { program := "ythlmgpllapccfaagreatdoor", sum := "e8da28cd5a6e539b65ac3c0f1cb99ceb678c18562a98f21ca5e5a4a932a2381c", func := "segments/segmentskeep.Parted", spec := "parted", inPlace := ["internal/reflectlite.ValueOf", "(internal/reflectlite.Value).Type", "(internal/reflectlite.Value).IsNil", "internal/reflectlite.TypeOf", "(internal/reflectlite.Value).Elem", "(internal/reflectlite.Value).Set"], unfollowed := true, recurses := true, named := ["errors.errorType"], apart := false, laid := [("errors.errorType", laid_errors_errorType)], narrowed := true }
def PartedUptoSaid : Prop := partedUptoRow.holds Tryz.pinned (OpenSpec.upto partedSpec)

/-- 'segmentskeep.Merged', WHERE WHAT IT READS IS OF BULK AT MOST 1048576: true; the input reads as it did. -/
def mergedUptoRow : OpenClaim := { program := "ythlmgpllapccfaagreatdoor", sum := "e8da28cd5a6e539b65ac3c0f1cb99ceb678c18562a98f21ca5e5a4a932a2381c", func := "segments/segmentskeep.Merged", spec := "merged", inPlace := ["internal/reflectlite.ValueOf", "(internal/reflectlite.Value).Type", "(internal/reflectlite.Value).IsNil", "internal/reflectlite.TypeOf", "(internal/reflectlite.Value).Elem", "(internal/reflectlite.Value).Set"], unfollowed := true, recurses := true, named := ["errors.errorType"], apart := false, laid := [("errors.errorType", laid_errors_errorType)], narrowed := true }
def MergedUptoSaid : Prop := mergedUptoRow.holds Tryz.pinned (OpenSpec.upto mergedSpec)

/-- 'segmentskeep.Kept', WHERE WHAT IT READS IS OF BULK AT MOST 1048576: true; the input reads as it did. -/
def keptUptoRow : OpenClaim := { program := "ythlmgpllapccfaagreatdoor", sum := "e8da28cd5a6e539b65ac3c0f1cb99ceb678c18562a98f21ca5e5a4a932a2381c", func := "segments/segmentskeep.Kept", spec := "kept", inPlace := ["internal/reflectlite.ValueOf", "(internal/reflectlite.Value).Type", "(internal/reflectlite.Value).IsNil", "internal/reflectlite.TypeOf", "(internal/reflectlite.Value).Elem", "(internal/reflectlite.Value).Set"], unfollowed := true, recurses := true, named := ["errors.errorType"], apart := false, laid := [("errors.errorType", laid_errors_errorType)], narrowed := true }
def KeptUptoSaid : Prop := keptUptoRow.holds Tryz.pinned (OpenSpec.upto keptSpec)

/-- 'segmentslaw.All', WHERE WHAT IT READS IS OF BULK AT MOST 1048576: true; the input reads as it did. -/
def allUptoRow : OpenClaim := { program := "ythlmgpllapccfaagreatdoor", sum := "e8da28cd5a6e539b65ac3c0f1cb99ceb678c18562a98f21ca5e5a4a932a2381c", func := "segments/segmentslaw.All", spec := "all", inPlace := ["internal/reflectlite.ValueOf", "(internal/reflectlite.Value).Type", "(internal/reflectlite.Value).IsNil", "internal/reflectlite.TypeOf", "(internal/reflectlite.Value).Elem", "(internal/reflectlite.Value).Set"], unfollowed := true, recurses := true, named := ["errors.errorType"], apart := false, laid := [("errors.errorType", laid_errors_errorType)], narrowed := true }
def AllUptoSaid : Prop := allUptoRow.holds Tryz.pinned (OpenSpec.upto allSpec)

end Rows
end Go.Proofs.YthlmgpllapccfaaGreatDoor
