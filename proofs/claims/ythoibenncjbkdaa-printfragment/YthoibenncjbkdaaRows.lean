/-
  NARROWER THAN 'FOR EVERY INPUT', by the rows' own cells (each row's printed sentence says how): PrintFragment: loops · PrintParts: loops.
  DERIVED. THE GIVEN ROWS OF THIS SEAT. 3 by the template 'for every input the law returns true; each argument reads behind the call as it read before'; 0 by the template 'total and deterministic' (their statements: YthoibenncjbkdaaTotals.lean).
  GIVEN WITH THE SEED: the statements are not yours to turn. If you find one false, say at which input.
  Laid BY PROGRAM, IN A SANDBOX (cutbox-rows.mjs): the forced cells as the released guide's own fill.sh prints them over the translation 5c5131505b68fa29… (all of the seat's roots in one cut). By AI agents, Wed Nov 11 2026. No macro, syntax, notation, axiom, sorry.
-/
import Derived.Test.YthoibenncjbkdaaChecked
import GoSem.Claim
import GoSem.ClaimJoined
import GoSem.ClaimMapViews
import Derived.JoinedTies
import Derived.KernelRfl
namespace Go.Proofs.Ythoibenncjbkdaa
/- THE CELL 'sum', in the pinned program and in every row, IS THE sha256 OF THE DUMP (.gsa) THAT YthoibenncjbkdaaProg.lean LOADS. Nothing in Lean hashes anything: it is a label: what it is worth is what the hold of that sum in a sandbox is worth. -/
noncomputable def Try.pinned : Pinned := { name := "ythoibenncjbkdaa", sum := "5c5131505b68fa29e25c77953697924bfd842d5b18d28fb35ef4bfd412e7291f", checked := Try.checked }
namespace Rows
def none {H : Type} : Left H := { results := [], args := [] }

/-- 'marginalialaw09.PrintFragment': WHATEVER THE INPUT: true; the input reads as it did. -/
def printFragmentSpec : ChangeSpec := { name := "printFragment", fn := fun _ => fun
  | [d] => { results := [.lit (.bool true)], args := [d] }
  | _ => none }
def printFragmentRow : OpenClaim := { program := "ythoibenncjbkdaa", sum := "5c5131505b68fa29e25c77953697924bfd842d5b18d28fb35ef4bfd412e7291f", func := "marginalia/marginalialaw09.PrintFragment", spec := "printFragment", inPlace := ["internal/abi.NoEscape"], unfollowed := true, recurses := true, loops := true, apart := false }
def PrintFragmentSaid : Prop := printFragmentRow.holds Try.pinned (OpenSpec.ofChange printFragmentSpec)

/-- ITS FALSE NEIGHBOUR: 'it returns false'. Refute it at one input. -/
def printFragmentWrong : ChangeSpec := { name := "printFragment", fn := fun _ => fun
  | [d] => { results := [.lit (.bool false)], args := [d] }
  | _ => none }
def PrintFragmentWrongFalsely : Prop := printFragmentRow.holds Try.pinned (OpenSpec.ofChange printFragmentWrong)

/-- 'marginalialaw09.PrintEscape': WHATEVER THE INPUT: true; the input reads as it did. -/
def printEscapeSpec : ChangeSpec := { name := "printEscape", fn := fun _ => fun
  | [d1, d2] => { results := [.lit (.bool true)], args := [d1, d2] }
  | _ => none }
def printEscapeRow : OpenClaim := { program := "ythoibenncjbkdaa", sum := "5c5131505b68fa29e25c77953697924bfd842d5b18d28fb35ef4bfd412e7291f", func := "marginalia/marginalialaw09.PrintEscape", spec := "printEscape", inPlace := ["internal/abi.NoEscape"], unfollowed := true, recurses := true, apart := false }
def PrintEscapeSaid : Prop := printEscapeRow.holds Try.pinned (OpenSpec.ofChange printEscapeSpec)

/-- ITS FALSE NEIGHBOUR: 'it returns false'. Refute it at one input. -/
def printEscapeWrong : ChangeSpec := { name := "printEscape", fn := fun _ => fun
  | [d1, d2] => { results := [.lit (.bool false)], args := [d1, d2] }
  | _ => none }
def PrintEscapeWrongFalsely : Prop := printEscapeRow.holds Try.pinned (OpenSpec.ofChange printEscapeWrong)

/-- 'marginalialaw09.PrintParts': WHATEVER THE INPUT: true; the input reads as it did. -/
def printPartsSpec : ChangeSpec := { name := "printParts", fn := fun _ => fun
  | [d1, d2] => { results := [.lit (.bool true)], args := [d1, d2] }
  | _ => none }
def printPartsRow : OpenClaim := { program := "ythoibenncjbkdaa", sum := "5c5131505b68fa29e25c77953697924bfd842d5b18d28fb35ef4bfd412e7291f", func := "marginalia/marginalialaw09.PrintParts", spec := "printParts", inPlace := ["internal/abi.NoEscape"], unfollowed := true, recurses := true, loops := true, apart := false }
def PrintPartsSaid : Prop := printPartsRow.holds Try.pinned (OpenSpec.ofChange printPartsSpec)

/-- ITS FALSE NEIGHBOUR: 'it returns false'. Refute it at one input. -/
def printPartsWrong : ChangeSpec := { name := "printParts", fn := fun _ => fun
  | [d1, d2] => { results := [.lit (.bool false)], args := [d1, d2] }
  | _ => none }
def PrintPartsWrongFalsely : Prop := printPartsRow.holds Try.pinned (OpenSpec.ofChange printPartsWrong)

/- THE SECOND FORM. 'bulk': how many values and letters a reading holds, each counted each time it is reached (what is shared counts as often as it is met; a slice's spare places count too). A statement '..UptoSaid' is the law's where the arguments, and the package variables that the reading takes, are together of bulk at most 1048576: NARROWER than '..Said'. Prove '..Said' where nothing that the law and all that it calls make is longer than what came in: it says more and counts as full. Else prove '..UptoSaid'. A law counts once. -/
mutual
def uptoBulk {H : Type} : DataW H → Nat
  | .lit (.string bytes) => bytes.length + 1
  | .lit _ => 1
  | .nil => 1
  | .ptr d => uptoBulk d + 1
  | .slice elems spare => uptoBulkAll elems + uptoBulkAll spare + 1
  | .agg parts => uptoBulkAll parts + 1
  | .iface _ d => uptoBulk d + 1
  | .map entries => uptoBulkEntries entries + 1
  | .held _ => 1
def uptoBulkAll {H : Type} : List (DataW H) → Nat
  | [] => 0
  | d :: r => uptoBulk d + uptoBulkAll r
def uptoBulkEntries {H : Type} : List (Lit × DataW H) → Nat
  | [] => 0
  | x :: r => uptoBulkEntry x + uptoBulkEntries r
def uptoBulkEntry {H : Type} : Lit × DataW H → Nat
  | (.string bytes, d) => bytes.length + uptoBulk d + 1
  | (_, d) => uptoBulk d + 1
 end
def uptoSmall : (H : Type) → List (DataW H) → Bool := fun _ ds => decide (uptoBulkAll ds ≤ 1048576)
def OpenSpec.upto (s : _root_.Go.ChangeSpec) : _root_.Go.OpenSpec := { _root_.Go.OpenSpec.ofChange s with cond := some uptoSmall }

/-- 'marginalialaw09.PrintFragment', WHERE WHAT IT READS IS OF BULK AT MOST 1048576: true; the input reads as it did. -/
def printFragmentUptoRow : OpenClaim := { program := "ythoibenncjbkdaa", sum := "5c5131505b68fa29e25c77953697924bfd842d5b18d28fb35ef4bfd412e7291f", func := "marginalia/marginalialaw09.PrintFragment", spec := "printFragment", inPlace := ["internal/abi.NoEscape"], unfollowed := true, recurses := true, loops := true, apart := false, narrowed := true }
def PrintFragmentUptoSaid : Prop := printFragmentUptoRow.holds Try.pinned (OpenSpec.upto printFragmentSpec)

/-- 'marginalialaw09.PrintEscape', WHERE WHAT IT READS IS OF BULK AT MOST 1048576: true; the input reads as it did. -/
def printEscapeUptoRow : OpenClaim := { program := "ythoibenncjbkdaa", sum := "5c5131505b68fa29e25c77953697924bfd842d5b18d28fb35ef4bfd412e7291f", func := "marginalia/marginalialaw09.PrintEscape", spec := "printEscape", inPlace := ["internal/abi.NoEscape"], unfollowed := true, recurses := true, apart := false, narrowed := true }
def PrintEscapeUptoSaid : Prop := printEscapeUptoRow.holds Try.pinned (OpenSpec.upto printEscapeSpec)

/-- 'marginalialaw09.PrintParts', WHERE WHAT IT READS IS OF BULK AT MOST 1048576: true; the input reads as it did. -/
def printPartsUptoRow : OpenClaim := { program := "ythoibenncjbkdaa", sum := "5c5131505b68fa29e25c77953697924bfd842d5b18d28fb35ef4bfd412e7291f", func := "marginalia/marginalialaw09.PrintParts", spec := "printParts", inPlace := ["internal/abi.NoEscape"], unfollowed := true, recurses := true, loops := true, apart := false, narrowed := true }
def PrintPartsUptoSaid : Prop := printPartsUptoRow.holds Try.pinned (OpenSpec.upto printPartsSpec)

end Rows
end Go.Proofs.Ythoibenncjbkdaa
