/-
  NARROWER THAN 'FOR EVERY INPUT', by the rows' own cells (each row's printed sentence says how): BuildNested: laid · BuildWhole: laid · BuildGreat: laid · PrintTidy: laid.
  DERIVED. THE GIVEN ROWS OF THIS SEAT. 4 by the template 'for every input the law returns true; each argument reads behind the call as it read before'; 0 by the template 'total and deterministic' (their statements: YtfohijnkeefcfaaGreatDoorTotals.lean).
  GIVEN WITH THE SEED: the statements are not yours to turn. If you find one false, say at which input.
  Laid BY PROGRAM, IN A SANDBOX (cutbox-rows.mjs): the forced cells as the released guide's own fill.sh prints them over the translation fba91cfe5d1acee5… (all of the seat's roots in one cut). By AI agents, Wed Nov 11 2026. No macro, syntax, notation, axiom, sorry.
-/
import Derived.Test.YtfohijnkeefcfaaGreatDoorChecked
import GoSem.Claim
import GoSem.ClaimJoined
import GoSem.ClaimMapViews
import Derived.JoinedTies
import Derived.KernelRfl
namespace Go.Proofs.YtfohijnkeefcfaaGreatDoor
/- THE CELL 'sum', in the pinned program and in every row, IS THE sha256 OF THE DUMP (.gsa) THAT YtfohijnkeefcfaaGreatDoorProg.lean LOADS. Nothing in Lean hashes anything: it is a label: what it is worth is what the hold of that sum in a sandbox is worth. -/
noncomputable def Tryz.pinned : Pinned := { name := "ytfohijnkeefcfaagreatdoor", sum := "fba91cfe5d1acee5faab0e92bbeb4eb9c6f152109f13f269b4b6003ed62ac5ca", checked := Tryz.checked }
namespace Rows
def none {H : Type} : Left H := { results := [], args := [] }

/- WHAT THE LISTED PACKAGE-LEVEL VARIABLES READ AS WHEN THE CALL BEGINS. Each datum BY PROGRAM (the guide's laid-datum.mjs) off the statement by which the dump's own 'gosem.cut.vars' lays the variable. In a bare row this is a premise. The card (YtfohijnkeefcfaaGreatDoorCards.lean) ties it to the program's text. -/
def laid_marginalia_charref_oldCodes {H : Type} : DataW H := .agg [.lit (.int .i32 8364), .lit (.int .i32 129), .lit (.int .i32 8218), .lit (.int .i32 402), .lit (.int .i32 8222), .lit (.int .i32 8230), .lit (.int .i32 8224), .lit (.int .i32 8225), .lit (.int .i32 710), .lit (.int .i32 8240), .lit (.int .i32 352), .lit (.int .i32 8249), .lit (.int .i32 338), .lit (.int .i32 141), .lit (.int .i32 381), .lit (.int .i32 143), .lit (.int .i32 144), .lit (.int .i32 8216), .lit (.int .i32 8217), .lit (.int .i32 8220), .lit (.int .i32 8221), .lit (.int .i32 8226), .lit (.int .i32 8211), .lit (.int .i32 8212), .lit (.int .i32 732), .lit (.int .i32 8482), .lit (.int .i32 353), .lit (.int .i32 8250), .lit (.int .i32 339), .lit (.int .i32 157), .lit (.int .i32 382), .lit (.int .i32 376)]

/-- 'marginalialaw08.BuildNested': WHATEVER THE INPUT: true; the input reads as it did. -/
def buildNestedSpec : ChangeSpec := { name := "buildNested", fn := fun _ => fun
  | [d] => { results := [.lit (.bool true)], args := [d] }
  | _ => none }
def buildNestedRow : OpenClaim := { program := "ytfohijnkeefcfaagreatdoor", sum := "fba91cfe5d1acee5faab0e92bbeb4eb9c6f152109f13f269b4b6003ed62ac5ca", func := "marginalia/marginalialaw08.BuildNested", spec := "buildNested", inPlace := ["internal/bytealg.IndexByteString", "internal/abi.NoEscape", "internal/bytealg.IndexString", "slices.overlaps[int]", "slices.overlaps[marginalia/api.Open]"], unfollowed := true, recurses := true, named := ["marginalia/charref.oldCodes", "internal/bytealg.MaxLen"], apart := false, laid := [("marginalia/charref.oldCodes", laid_marginalia_charref_oldCodes)] }
def BuildNestedSaid : Prop := buildNestedRow.holds Tryz.pinned (OpenSpec.ofChange buildNestedSpec)

/-- ITS FALSE NEIGHBOUR: 'it returns false'. Refute it at one input. -/
def buildNestedWrong : ChangeSpec := { name := "buildNested", fn := fun _ => fun
  | [d] => { results := [.lit (.bool false)], args := [d] }
  | _ => none }
def BuildNestedWrongFalsely : Prop := buildNestedRow.holds Tryz.pinned (OpenSpec.ofChange buildNestedWrong)

/-- 'marginalialaw08.BuildWhole': WHATEVER THE INPUT: true; the input reads as it did. -/
def buildWholeSpec : ChangeSpec := { name := "buildWhole", fn := fun _ => fun
  | [d] => { results := [.lit (.bool true)], args := [d] }
  | _ => none }
def buildWholeRow : OpenClaim := { program := "ytfohijnkeefcfaagreatdoor", sum := "fba91cfe5d1acee5faab0e92bbeb4eb9c6f152109f13f269b4b6003ed62ac5ca", func := "marginalia/marginalialaw08.BuildWhole", spec := "buildWhole", inPlace := ["internal/bytealg.IndexByteString", "internal/abi.NoEscape", "internal/bytealg.IndexString", "slices.overlaps[int]", "slices.overlaps[marginalia/api.Open]"], unfollowed := true, recurses := true, named := ["marginalia/charref.oldCodes", "internal/bytealg.MaxLen"], apart := false, laid := [("marginalia/charref.oldCodes", laid_marginalia_charref_oldCodes)] }
def BuildWholeSaid : Prop := buildWholeRow.holds Tryz.pinned (OpenSpec.ofChange buildWholeSpec)

/-- ITS FALSE NEIGHBOUR: 'it returns false'. Refute it at one input. -/
def buildWholeWrong : ChangeSpec := { name := "buildWhole", fn := fun _ => fun
  | [d] => { results := [.lit (.bool false)], args := [d] }
  | _ => none }
def BuildWholeWrongFalsely : Prop := buildWholeRow.holds Tryz.pinned (OpenSpec.ofChange buildWholeWrong)

/-- 'marginalialaw08.BuildGreat': WHATEVER THE INPUT: true; the input reads as it did. -/
def buildGreatSpec : ChangeSpec := { name := "buildGreat", fn := fun _ => fun
  | [d] => { results := [.lit (.bool true)], args := [d] }
  | _ => none }
def buildGreatRow : OpenClaim := { program := "ytfohijnkeefcfaagreatdoor", sum := "fba91cfe5d1acee5faab0e92bbeb4eb9c6f152109f13f269b4b6003ed62ac5ca", func := "marginalia/marginalialaw08.BuildGreat", spec := "buildGreat", inPlace := ["internal/bytealg.IndexByteString", "internal/abi.NoEscape", "internal/bytealg.IndexString", "slices.overlaps[int]", "slices.overlaps[marginalia/api.Open]"], unfollowed := true, recurses := true, named := ["marginalia/charref.oldCodes", "internal/bytealg.MaxLen"], apart := false, laid := [("marginalia/charref.oldCodes", laid_marginalia_charref_oldCodes)] }
def BuildGreatSaid : Prop := buildGreatRow.holds Tryz.pinned (OpenSpec.ofChange buildGreatSpec)

/-- ITS FALSE NEIGHBOUR: 'it returns false'. Refute it at one input. -/
def buildGreatWrong : ChangeSpec := { name := "buildGreat", fn := fun _ => fun
  | [d] => { results := [.lit (.bool false)], args := [d] }
  | _ => none }
def BuildGreatWrongFalsely : Prop := buildGreatRow.holds Tryz.pinned (OpenSpec.ofChange buildGreatWrong)

/-- 'marginalialaw09.PrintTidy': WHATEVER THE INPUT: true; the input reads as it did. -/
def printTidySpec : ChangeSpec := { name := "printTidy", fn := fun _ => fun
  | [d] => { results := [.lit (.bool true)], args := [d] }
  | _ => none }
def printTidyRow : OpenClaim := { program := "ytfohijnkeefcfaagreatdoor", sum := "fba91cfe5d1acee5faab0e92bbeb4eb9c6f152109f13f269b4b6003ed62ac5ca", func := "marginalia/marginalialaw09.PrintTidy", spec := "printTidy", inPlace := ["internal/abi.NoEscape", "internal/bytealg.IndexByteString", "internal/bytealg.IndexString", "slices.overlaps[int]", "slices.overlaps[marginalia/api.Open]"], unfollowed := true, recurses := true, named := ["marginalia/charref.oldCodes", "internal/bytealg.MaxLen"], apart := false, laid := [("marginalia/charref.oldCodes", laid_marginalia_charref_oldCodes)] }
def PrintTidySaid : Prop := printTidyRow.holds Tryz.pinned (OpenSpec.ofChange printTidySpec)

/-- ITS FALSE NEIGHBOUR: 'it returns false'. Refute it at one input. -/
def printTidyWrong : ChangeSpec := { name := "printTidy", fn := fun _ => fun
  | [d] => { results := [.lit (.bool false)], args := [d] }
  | _ => none }
def PrintTidyWrongFalsely : Prop := printTidyRow.holds Tryz.pinned (OpenSpec.ofChange printTidyWrong)

/- THE SECOND FORM. 'bulk': how many values and letters a reading holds, each counted each time it is reached (what is shared counts as often as it is met; a slice's spare places count too). A statement '..UptoSaid' is the law's where the arguments, and the package variables that the reading takes, are together of bulk at most 1048576: NARROWER than '..Said'. Prove '..Said' where nothing that the law and all that it calls make is longer than what came in: it says more and counts as full. Else prove '..UptoSaid'. A law counts once. -/
mutual
def uptoBulk {H : Type} : DataW H → Nat
  | .lit (.string bytes) => bytes.length + 1
  | .lit _ => 1
  | .nil => 1
  | .ptr d => uptoBulk d + 1
  | .slice elems spare => uptoBulkAll elems + uptoBulkAll spare + 1
  | .agg parts => uptoBulkAll parts + 1
  | .iface _ d => uptoBulk d + 1
  | .map entries => uptoBulkEntries entries + 1
  | .held _ => 1
def uptoBulkAll {H : Type} : List (DataW H) → Nat
  | [] => 0
  | d :: r => uptoBulk d + uptoBulkAll r
def uptoBulkEntries {H : Type} : List (Lit × DataW H) → Nat
  | [] => 0
  | x :: r => uptoBulkEntry x + uptoBulkEntries r
def uptoBulkEntry {H : Type} : Lit × DataW H → Nat
  | (.string bytes, d) => bytes.length + uptoBulk d + 1
  | (_, d) => uptoBulk d + 1
 end
def uptoSmall : (H : Type) → List (DataW H) → Bool := fun _ ds => decide (uptoBulkAll ds ≤ 1048576)
def OpenSpec.upto (s : _root_.Go.ChangeSpec) : _root_.Go.OpenSpec := { _root_.Go.OpenSpec.ofChange s with cond := some uptoSmall }

/-- 'marginalialaw08.BuildNested', WHERE WHAT IT READS IS OF BULK AT MOST 1048576: true; the input reads as it did. -/
def buildNestedUptoRow : OpenClaim := { program := "ytfohijnkeefcfaagreatdoor", sum := "fba91cfe5d1acee5faab0e92bbeb4eb9c6f152109f13f269b4b6003ed62ac5ca", func := "marginalia/marginalialaw08.BuildNested", spec := "buildNested", inPlace := ["internal/bytealg.IndexByteString", "internal/abi.NoEscape", "internal/bytealg.IndexString", "slices.overlaps[int]", "slices.overlaps[marginalia/api.Open]"], unfollowed := true, recurses := true, named := ["marginalia/charref.oldCodes", "internal/bytealg.MaxLen"], apart := false, laid := [("marginalia/charref.oldCodes", laid_marginalia_charref_oldCodes)], narrowed := true }
def BuildNestedUptoSaid : Prop := buildNestedUptoRow.holds Tryz.pinned (OpenSpec.upto buildNestedSpec)

/-- 'marginalialaw08.BuildWhole', WHERE WHAT IT READS IS OF BULK AT MOST 1048576: true; the input reads as it did. -/
def buildWholeUptoRow : OpenClaim := { program := "ytfohijnkeefcfaagreatdoor", sum := "fba91cfe5d1acee5faab0e92bbeb4eb9c6f152109f13f269b4b6003ed62ac5ca", func := "marginalia/marginalialaw08.BuildWhole", spec := "buildWhole", inPlace := ["internal/bytealg.IndexByteString", "internal/abi.NoEscape", "internal/bytealg.IndexString", "slices.overlaps[int]", "slices.overlaps[marginalia/api.Open]"], unfollowed := true, recurses := true, named := ["marginalia/charref.oldCodes", "internal/bytealg.MaxLen"], apart := false, laid := [("marginalia/charref.oldCodes", laid_marginalia_charref_oldCodes)], narrowed := true }
def BuildWholeUptoSaid : Prop := buildWholeUptoRow.holds Tryz.pinned (OpenSpec.upto buildWholeSpec)

/-- 'marginalialaw08.BuildGreat', WHERE WHAT IT READS IS OF BULK AT MOST 1048576: true; the input reads as it did. -/
def buildGreatUptoRow : OpenClaim := { program := "ytfohijnkeefcfaagreatdoor", sum := "fba91cfe5d1acee5faab0e92bbeb4eb9c6f152109f13f269b4b6003ed62ac5ca", func := "marginalia/marginalialaw08.BuildGreat", spec := "buildGreat", inPlace := ["internal/bytealg.IndexByteString", "internal/abi.NoEscape", "internal/bytealg.IndexString", "slices.overlaps[int]", "slices.overlaps[marginalia/api.Open]"], unfollowed := true, recurses := true, named := ["marginalia/charref.oldCodes", "internal/bytealg.MaxLen"], apart := false, laid := [("marginalia/charref.oldCodes", laid_marginalia_charref_oldCodes)], narrowed := true }
def BuildGreatUptoSaid : Prop := buildGreatUptoRow.holds Tryz.pinned (OpenSpec.upto buildGreatSpec)

/-- 'marginalialaw09.PrintTidy', WHERE WHAT IT READS IS OF BULK AT MOST 1048576: true; the input reads as it did. -/
def printTidyUptoRow : OpenClaim := { program := "ytfohijnkeefcfaagreatdoor", sum := "fba91cfe5d1acee5faab0e92bbeb4eb9c6f152109f13f269b4b6003ed62ac5ca", func := "marginalia/marginalialaw09.PrintTidy", spec := "printTidy", inPlace := ["internal/abi.NoEscape", "internal/bytealg.IndexByteString", "internal/bytealg.IndexString", "slices.overlaps[int]", "slices.overlaps[marginalia/api.Open]"], unfollowed := true, recurses := true, named := ["marginalia/charref.oldCodes", "internal/bytealg.MaxLen"], apart := false, laid := [("marginalia/charref.oldCodes", laid_marginalia_charref_oldCodes)], narrowed := true }
def PrintTidyUptoSaid : Prop := printTidyUptoRow.holds Tryz.pinned (OpenSpec.upto printTidySpec)

end Rows
end Go.Proofs.YtfohijnkeefcfaaGreatDoor
