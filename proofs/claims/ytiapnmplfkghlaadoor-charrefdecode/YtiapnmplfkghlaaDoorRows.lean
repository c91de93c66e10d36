/-
  NARROWER THAN 'FOR EVERY INPUT', by the rows' own cells (each row's printed sentence says how): CharrefNamed: laid · CharrefNumber: laid · CharrefAt: laid · CharrefDecode: laid · CharrefBack: laid · CharrefParts: laid.
  DERIVED. THE GIVEN ROWS OF THIS SEAT. 6 by the template 'for every input the law returns true; each argument reads behind the call as it read before'; 0 by the template 'total and deterministic' (their statements: YtiapnmplfkghlaaDoorTotals.lean).
  GIVEN WITH THE SEED: the statements are not yours to turn. If you find one false, say at which input.
  Laid BY PROGRAM, IN A SANDBOX (cutbox-rows.mjs): the forced cells as the released guide's own fill.sh prints them over the translation f9cfd4b584145ad7… (all of the seat's roots in one cut). By AI agents, Wed Nov 11 2026. No macro, syntax, notation, axiom, sorry.
-/
import Derived.Test.YtiapnmplfkghlaaDoorChecked
import GoSem.Claim
import GoSem.ClaimJoined
import GoSem.ClaimMapViews
import Derived.JoinedTies
import Derived.KernelRfl
namespace Go.Proofs.YtiapnmplfkghlaaDoor
/- THE CELL 'sum', in the pinned program and in every row, IS THE sha256 OF THE DUMP (.gsa) THAT YtiapnmplfkghlaaDoorProg.lean LOADS. Nothing in Lean hashes anything: it is a label: what it is worth is what the hold of that sum in a sandbox is worth. -/
noncomputable def Tryd.pinned : Pinned := { name := "ytiapnmplfkghlaadoor", sum := "f9cfd4b584145ad76d7e2c2696c9d82286efde2ec88f8b9c1d20c08c36717d19", checked := Tryd.checked }
namespace Rows
def none {H : Type} : Left H := { results := [], args := [] }

/- WHAT THE LISTED PACKAGE-LEVEL VARIABLES READ AS WHEN THE CALL BEGINS. Each datum BY PROGRAM (the guide's laid-datum.mjs) off the statement by which the dump's own 'gosem.cut.vars' lays the variable. In a bare row this is a premise. The card (YtiapnmplfkghlaaDoorCards.lean) ties it to the program's text. -/
def laid_marginalia_charref_oldCodes {H : Type} : DataW H := .agg [.lit (.int .i32 8364), .lit (.int .i32 129), .lit (.int .i32 8218), .lit (.int .i32 402), .lit (.int .i32 8222), .lit (.int .i32 8230), .lit (.int .i32 8224), .lit (.int .i32 8225), .lit (.int .i32 710), .lit (.int .i32 8240), .lit (.int .i32 352), .lit (.int .i32 8249), .lit (.int .i32 338), .lit (.int .i32 141), .lit (.int .i32 381), .lit (.int .i32 143), .lit (.int .i32 144), .lit (.int .i32 8216), .lit (.int .i32 8217), .lit (.int .i32 8220), .lit (.int .i32 8221), .lit (.int .i32 8226), .lit (.int .i32 8211), .lit (.int .i32 8212), .lit (.int .i32 732), .lit (.int .i32 8482), .lit (.int .i32 353), .lit (.int .i32 8250), .lit (.int .i32 339), .lit (.int .i32 157), .lit (.int .i32 382), .lit (.int .i32 376)]

/-- 'marginalialaw03.CharrefNamed': WHATEVER THE INPUT: true; the input reads as it did. -/
def charrefNamedSpec : ChangeSpec := { name := "charrefNamed", fn := fun _ => fun
  | [d] => { results := [.lit (.bool true)], args := [d] }
  | _ => none }
def charrefNamedRow : OpenClaim := { program := "ytiapnmplfkghlaadoor", sum := "f9cfd4b584145ad76d7e2c2696c9d82286efde2ec88f8b9c1d20c08c36717d19", func := "marginalia/marginalialaw03.CharrefNamed", spec := "charrefNamed", inPlace := ["internal/abi.NoEscape"], named := ["marginalia/charref.oldCodes"], apart := false, laid := [("marginalia/charref.oldCodes", laid_marginalia_charref_oldCodes)] }
def CharrefNamedSaid : Prop := charrefNamedRow.holds Tryd.pinned (OpenSpec.ofChange charrefNamedSpec)

/-- ITS FALSE NEIGHBOUR: 'it returns false'. Refute it at one input. -/
def charrefNamedWrong : ChangeSpec := { name := "charrefNamed", fn := fun _ => fun
  | [d] => { results := [.lit (.bool false)], args := [d] }
  | _ => none }
def CharrefNamedWrongFalsely : Prop := charrefNamedRow.holds Tryd.pinned (OpenSpec.ofChange charrefNamedWrong)

/-- 'marginalialaw03.CharrefNumber': WHATEVER THE INPUT: true; the input reads as it did. -/
def charrefNumberSpec : ChangeSpec := { name := "charrefNumber", fn := fun _ => fun
  | [d] => { results := [.lit (.bool true)], args := [d] }
  | _ => none }
def charrefNumberRow : OpenClaim := { program := "ytiapnmplfkghlaadoor", sum := "f9cfd4b584145ad76d7e2c2696c9d82286efde2ec88f8b9c1d20c08c36717d19", func := "marginalia/marginalialaw03.CharrefNumber", spec := "charrefNumber", inPlace := ["internal/abi.NoEscape"], named := ["marginalia/charref.oldCodes"], apart := false, laid := [("marginalia/charref.oldCodes", laid_marginalia_charref_oldCodes)] }
def CharrefNumberSaid : Prop := charrefNumberRow.holds Tryd.pinned (OpenSpec.ofChange charrefNumberSpec)

/-- ITS FALSE NEIGHBOUR: 'it returns false'. Refute it at one input. -/
def charrefNumberWrong : ChangeSpec := { name := "charrefNumber", fn := fun _ => fun
  | [d] => { results := [.lit (.bool false)], args := [d] }
  | _ => none }
def CharrefNumberWrongFalsely : Prop := charrefNumberRow.holds Tryd.pinned (OpenSpec.ofChange charrefNumberWrong)

/-- 'marginalialaw03.CharrefAt': WHATEVER THE INPUT: true; the input reads as it did. -/
def charrefAtSpec : ChangeSpec := { name := "charrefAt", fn := fun _ => fun
  | [d1, d2, d3] => { results := [.lit (.bool true)], args := [d1, d2, d3] }
  | _ => none }
def charrefAtRow : OpenClaim := { program := "ytiapnmplfkghlaadoor", sum := "f9cfd4b584145ad76d7e2c2696c9d82286efde2ec88f8b9c1d20c08c36717d19", func := "marginalia/marginalialaw03.CharrefAt", spec := "charrefAt", inPlace := ["internal/abi.NoEscape"], named := ["marginalia/charref.oldCodes"], apart := false, laid := [("marginalia/charref.oldCodes", laid_marginalia_charref_oldCodes)] }
def CharrefAtSaid : Prop := charrefAtRow.holds Tryd.pinned (OpenSpec.ofChange charrefAtSpec)

/-- ITS FALSE NEIGHBOUR: 'it returns false'. Refute it at one input. -/
def charrefAtWrong : ChangeSpec := { name := "charrefAt", fn := fun _ => fun
  | [d1, d2, d3] => { results := [.lit (.bool false)], args := [d1, d2, d3] }
  | _ => none }
def CharrefAtWrongFalsely : Prop := charrefAtRow.holds Tryd.pinned (OpenSpec.ofChange charrefAtWrong)

/-- 'marginalialaw03.CharrefDecode': WHATEVER THE INPUT: true; the input reads as it did. -/
def charrefDecodeSpec : ChangeSpec := { name := "charrefDecode", fn := fun _ => fun
  | [d1, d2] => { results := [.lit (.bool true)], args := [d1, d2] }
  | _ => none }
def charrefDecodeRow : OpenClaim := { program := "ytiapnmplfkghlaadoor", sum := "f9cfd4b584145ad76d7e2c2696c9d82286efde2ec88f8b9c1d20c08c36717d19", func := "marginalia/marginalialaw03.CharrefDecode", spec := "charrefDecode", inPlace := ["internal/abi.NoEscape"], named := ["marginalia/charref.oldCodes"], apart := false, laid := [("marginalia/charref.oldCodes", laid_marginalia_charref_oldCodes)] }
def CharrefDecodeSaid : Prop := charrefDecodeRow.holds Tryd.pinned (OpenSpec.ofChange charrefDecodeSpec)

/-- ITS FALSE NEIGHBOUR: 'it returns false'. Refute it at one input. -/
def charrefDecodeWrong : ChangeSpec := { name := "charrefDecode", fn := fun _ => fun
  | [d1, d2] => { results := [.lit (.bool false)], args := [d1, d2] }
  | _ => none }
def CharrefDecodeWrongFalsely : Prop := charrefDecodeRow.holds Tryd.pinned (OpenSpec.ofChange charrefDecodeWrong)

/-- 'marginalialaw03.CharrefBack': WHATEVER THE INPUT: true; the input reads as it did. -/
def charrefBackSpec : ChangeSpec := { name := "charrefBack", fn := fun _ => fun
  | [d1, d2] => { results := [.lit (.bool true)], args := [d1, d2] }
  | _ => none }
def charrefBackRow : OpenClaim := { program := "ytiapnmplfkghlaadoor", sum := "f9cfd4b584145ad76d7e2c2696c9d82286efde2ec88f8b9c1d20c08c36717d19", func := "marginalia/marginalialaw03.CharrefBack", spec := "charrefBack", inPlace := ["internal/abi.NoEscape"], named := ["marginalia/charref.oldCodes"], apart := false, laid := [("marginalia/charref.oldCodes", laid_marginalia_charref_oldCodes)] }
def CharrefBackSaid : Prop := charrefBackRow.holds Tryd.pinned (OpenSpec.ofChange charrefBackSpec)

/-- ITS FALSE NEIGHBOUR: 'it returns false'. Refute it at one input. -/
def charrefBackWrong : ChangeSpec := { name := "charrefBack", fn := fun _ => fun
  | [d1, d2] => { results := [.lit (.bool false)], args := [d1, d2] }
  | _ => none }
def CharrefBackWrongFalsely : Prop := charrefBackRow.holds Tryd.pinned (OpenSpec.ofChange charrefBackWrong)

/-- 'marginalialaw03.CharrefParts': WHATEVER THE INPUT: true; the input reads as it did. -/
def charrefPartsSpec : ChangeSpec := { name := "charrefParts", fn := fun _ => fun
  | [d1, d2, d3] => { results := [.lit (.bool true)], args := [d1, d2, d3] }
  | _ => none }
def charrefPartsRow : OpenClaim := { program := "ytiapnmplfkghlaadoor", sum := "f9cfd4b584145ad76d7e2c2696c9d82286efde2ec88f8b9c1d20c08c36717d19", func := "marginalia/marginalialaw03.CharrefParts", spec := "charrefParts", inPlace := ["internal/abi.NoEscape"], named := ["marginalia/charref.oldCodes"], apart := false, laid := [("marginalia/charref.oldCodes", laid_marginalia_charref_oldCodes)] }
def CharrefPartsSaid : Prop := charrefPartsRow.holds Tryd.pinned (OpenSpec.ofChange charrefPartsSpec)

/-- ITS FALSE NEIGHBOUR: 'it returns false'. Refute it at one input. -/
def charrefPartsWrong : ChangeSpec := { name := "charrefParts", fn := fun _ => fun
  | [d1, d2, d3] => { results := [.lit (.bool false)], args := [d1, d2, d3] }
  | _ => none }
def CharrefPartsWrongFalsely : Prop := charrefPartsRow.holds Tryd.pinned (OpenSpec.ofChange charrefPartsWrong)

/- THE SECOND FORM. 'bulk': how many values and letters a reading holds, each counted each time it is reached (what is shared counts as often as it is met; a slice's spare places count too). A statement '..UptoSaid' is the law's where the arguments, and the package variables that the reading takes, are together of bulk at most 1048576: NARROWER than '..Said'. Prove '..Said' where nothing that the law and all that it calls make is longer than what came in: it says more and counts as full. Else prove '..UptoSaid'. A law counts once. -/
mutual
def uptoBulk {H : Type} : DataW H → Nat
  | .lit (.string bytes) => bytes.length + 1
  | .lit _ => 1
  | .nil => 1
  | .ptr d => uptoBulk d + 1
  | .slice elems spare => uptoBulkAll elems + uptoBulkAll spare + 1
  | .agg parts => uptoBulkAll parts + 1
  | .iface _ d => uptoBulk d + 1
  | .map entries => uptoBulkEntries entries + 1
  | .held _ => 1
def uptoBulkAll {H : Type} : List (DataW H) → Nat
  | [] => 0
  | d :: r => uptoBulk d + uptoBulkAll r
def uptoBulkEntries {H : Type} : List (Lit × DataW H) → Nat
  | [] => 0
  | x :: r => uptoBulkEntry x + uptoBulkEntries r
def uptoBulkEntry {H : Type} : Lit × DataW H → Nat
  | (.string bytes, d) => bytes.length + uptoBulk d + 1
  | (_, d) => uptoBulk d + 1
 end
def uptoSmall : (H : Type) → List (DataW H) → Bool := fun _ ds => decide (uptoBulkAll ds ≤ 1048576)
def OpenSpec.upto (s : _root_.Go.ChangeSpec) : _root_.Go.OpenSpec := { _root_.Go.OpenSpec.ofChange s with cond := some uptoSmall }

/-- 'marginalialaw03.CharrefNamed', WHERE WHAT IT READS IS OF BULK AT MOST 1048576: true; the input reads as it did. -/
def charrefNamedUptoRow : OpenClaim := { program := "ytiapnmplfkghlaadoor", sum := "f9cfd4b584145ad76d7e2c2696c9d82286efde2ec88f8b9c1d20c08c36717d19", func := "marginalia/marginalialaw03.CharrefNamed", spec := "charrefNamed", inPlace := ["internal/abi.NoEscape"], named := ["marginalia/charref.oldCodes"], apart := false, laid := [("marginalia/charref.oldCodes", laid_marginalia_charref_oldCodes)], narrowed := true }
def CharrefNamedUptoSaid : Prop := charrefNamedUptoRow.holds Tryd.pinned (OpenSpec.upto charrefNamedSpec)

/-- 'marginalialaw03.CharrefNumber', WHERE WHAT IT READS IS OF BULK AT MOST 1048576: true; the input reads as it did. -/
def charrefNumberUptoRow : OpenClaim := { program := "ytiapnmplfkghlaadoor", sum := "f9cfd4b584145ad76d7e2c2696c9d82286efde2ec88f8b9c1d20c08c36717d19", func := "marginalia/marginalialaw03.CharrefNumber", spec := "charrefNumber", inPlace := ["internal/abi.NoEscape"], named := ["marginalia/charref.oldCodes"], apart := false, laid := [("marginalia/charref.oldCodes", laid_marginalia_charref_oldCodes)], narrowed := true }
def CharrefNumberUptoSaid : Prop := charrefNumberUptoRow.holds Tryd.pinned (OpenSpec.upto charrefNumberSpec)

/-- 'marginalialaw03.CharrefAt', WHERE WHAT IT READS IS OF BULK AT MOST 1048576: true; the input reads as it did. -/
def charrefAtUptoRow : OpenClaim := { program := "ytiapnmplfkghlaadoor", sum := "f9cfd4b584145ad76d7e2c2696c9d82286efde2ec88f8b9c1d20c08c36717d19", func := "marginalia/marginalialaw03.CharrefAt", spec := "charrefAt", inPlace := ["internal/abi.NoEscape"], named := ["marginalia/charref.oldCodes"], apart := false, laid := [("marginalia/charref.oldCodes", laid_marginalia_charref_oldCodes)], narrowed := true }
def CharrefAtUptoSaid : Prop := charrefAtUptoRow.holds Tryd.pinned (OpenSpec.upto charrefAtSpec)

/-- 'marginalialaw03.CharrefDecode', WHERE WHAT IT READS IS OF BULK AT MOST 1048576: true; the input reads as it did. -/
def charrefDecodeUptoRow : OpenClaim := { program := "ytiapnmplfkghlaadoor", sum := "f9cfd4b584145ad76d7e2c2696c9d82286efde2ec88f8b9c1d20c08c36717d19", func := "marginalia/marginalialaw03.CharrefDecode", spec := "charrefDecode", inPlace := ["internal/abi.NoEscape"], named := ["marginalia/charref.oldCodes"], apart := false, laid := [("marginalia/charref.oldCodes", laid_marginalia_charref_oldCodes)], narrowed := true }
def CharrefDecodeUptoSaid : Prop := charrefDecodeUptoRow.holds Tryd.pinned (OpenSpec.upto charrefDecodeSpec)

/-- 'marginalialaw03.CharrefBack', WHERE WHAT IT READS IS OF BULK AT MOST 1048576: true; the input reads as it did. -/
def charrefBackUptoRow : OpenClaim := { program := "ytiapnmplfkghlaadoor", sum := "f9cfd4b584145ad76d7e2c2696c9d82286efde2ec88f8b9c1d20c08c36717d19", func := "marginalia/marginalialaw03.CharrefBack", spec := "charrefBack", inPlace := ["internal/abi.NoEscape"], named := ["marginalia/charref.oldCodes"], apart := false, laid := [("marginalia/charref.oldCodes", laid_marginalia_charref_oldCodes)], narrowed := true }
def CharrefBackUptoSaid : Prop := charrefBackUptoRow.holds Tryd.pinned (OpenSpec.upto charrefBackSpec)

/-- 'marginalialaw03.CharrefParts', WHERE WHAT IT READS IS OF BULK AT MOST 1048576: true; the input reads as it did. -/
def charrefPartsUptoRow : OpenClaim := { program := "ytiapnmplfkghlaadoor", sum := "f9cfd4b584145ad76d7e2c2696c9d82286efde2ec88f8b9c1d20c08c36717d19", func := "marginalia/marginalialaw03.CharrefParts", spec := "charrefParts", inPlace := ["internal/abi.NoEscape"], named := ["marginalia/charref.oldCodes"], apart := false, laid := [("marginalia/charref.oldCodes", laid_marginalia_charref_oldCodes)], narrowed := true }
def CharrefPartsUptoSaid : Prop := charrefPartsUptoRow.holds Tryd.pinned (OpenSpec.upto charrefPartsSpec)

end Rows
end Go.Proofs.YtiapnmplfkghlaaDoor
