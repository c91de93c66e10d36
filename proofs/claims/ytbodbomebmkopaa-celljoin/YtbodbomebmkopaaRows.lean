/-
  No cell of these rows narrows 'for every input' (looked for: loops, veiled, ifaces, maps, wideKeys, modest, calm, conditions, laid).
  DERIVED. THE GIVEN ROWS OF THIS SEAT. 6 by the template 'for every input the law returns true; each argument reads behind the call as it read before'; 0 by the template 'total and deterministic' (their statements: YtbodbomebmkopaaTotals.lean).
  GIVEN WITH THE SEED: the statements are not yours to turn. If you find one false, say at which input.
  Laid BY PROGRAM, IN A SANDBOX (cutbox-rows.mjs): the forced cells as the released guide's own fill.sh prints them over the translation 811998f2cb770af0… (all of the seat's roots in one cut). By AI agents, Wed Nov 11 2026. No macro, syntax, notation, axiom, sorry.
-/
import Derived.Test.YtbodbomebmkopaaChecked
import GoSem.Claim
import GoSem.ClaimJoined
import GoSem.ClaimMapViews
import Derived.JoinedTies
import Derived.KernelRfl
namespace Go.Proofs.Ytbodbomebmkopaa
/- THE CELL 'sum', in the pinned program and in every row, IS THE sha256 OF THE DUMP (.gsa) THAT YtbodbomebmkopaaProg.lean LOADS. Nothing in Lean hashes anything: it is a label: what it is worth is what the hold of that sum in a sandbox is worth. -/
noncomputable def Try.pinned : Pinned := { name := "ytbodbomebmkopaa", sum := "811998f2cb770af04078509e8eb210daed1037406eb885708a4887880631738e", checked := Try.checked }
namespace Rows
def none {H : Type} : Left H := { results := [], args := [] }

/-- 'marginalialaw16.CellEncode': WHATEVER THE INPUT: true; the input reads as it did. -/
def cellEncodeSpec : ChangeSpec := { name := "cellEncode", fn := fun _ => fun
  | [d] => { results := [.lit (.bool true)], args := [d] }
  | _ => none }
def cellEncodeRow : OpenClaim := { program := "ytbodbomebmkopaa", sum := "811998f2cb770af04078509e8eb210daed1037406eb885708a4887880631738e", func := "marginalia/marginalialaw16.CellEncode", spec := "cellEncode", apart := false }
def CellEncodeSaid : Prop := cellEncodeRow.holds Try.pinned (OpenSpec.ofChange cellEncodeSpec)

/-- ITS FALSE NEIGHBOUR: 'it returns false'. Refute it at one input. -/
def cellEncodeWrong : ChangeSpec := { name := "cellEncode", fn := fun _ => fun
  | [d] => { results := [.lit (.bool false)], args := [d] }
  | _ => none }
def CellEncodeWrongFalsely : Prop := cellEncodeRow.holds Try.pinned (OpenSpec.ofChange cellEncodeWrong)

/-- 'marginalialaw16.CellDecode': WHATEVER THE INPUT: true; the input reads as it did. -/
def cellDecodeSpec : ChangeSpec := { name := "cellDecode", fn := fun _ => fun
  | [d] => { results := [.lit (.bool true)], args := [d] }
  | _ => none }
def cellDecodeRow : OpenClaim := { program := "ytbodbomebmkopaa", sum := "811998f2cb770af04078509e8eb210daed1037406eb885708a4887880631738e", func := "marginalia/marginalialaw16.CellDecode", spec := "cellDecode", apart := false }
def CellDecodeSaid : Prop := cellDecodeRow.holds Try.pinned (OpenSpec.ofChange cellDecodeSpec)

/-- ITS FALSE NEIGHBOUR: 'it returns false'. Refute it at one input. -/
def cellDecodeWrong : ChangeSpec := { name := "cellDecode", fn := fun _ => fun
  | [d] => { results := [.lit (.bool false)], args := [d] }
  | _ => none }
def CellDecodeWrongFalsely : Prop := cellDecodeRow.holds Try.pinned (OpenSpec.ofChange cellDecodeWrong)

/-- 'marginalialaw16.CellCut': WHATEVER THE INPUT: true; the input reads as it did. -/
def cellCutSpec : ChangeSpec := { name := "cellCut", fn := fun _ => fun
  | [d1, d2, d3] => { results := [.lit (.bool true)], args := [d1, d2, d3] }
  | _ => none }
def cellCutRow : OpenClaim := { program := "ytbodbomebmkopaa", sum := "811998f2cb770af04078509e8eb210daed1037406eb885708a4887880631738e", func := "marginalia/marginalialaw16.CellCut", spec := "cellCut", apart := false }
def CellCutSaid : Prop := cellCutRow.holds Try.pinned (OpenSpec.ofChange cellCutSpec)

/-- ITS FALSE NEIGHBOUR: 'it returns false'. Refute it at one input. -/
def cellCutWrong : ChangeSpec := { name := "cellCut", fn := fun _ => fun
  | [d1, d2, d3] => { results := [.lit (.bool false)], args := [d1, d2, d3] }
  | _ => none }
def CellCutWrongFalsely : Prop := cellCutRow.holds Try.pinned (OpenSpec.ofChange cellCutWrong)

/-- 'marginalialaw16.CellJoin': WHATEVER THE INPUT: true; the input reads as it did. -/
def cellJoinSpec : ChangeSpec := { name := "cellJoin", fn := fun _ => fun
  | [d] => { results := [.lit (.bool true)], args := [d] }
  | _ => none }
def cellJoinRow : OpenClaim := { program := "ytbodbomebmkopaa", sum := "811998f2cb770af04078509e8eb210daed1037406eb885708a4887880631738e", func := "marginalia/marginalialaw16.CellJoin", spec := "cellJoin", apart := false }
def CellJoinSaid : Prop := cellJoinRow.holds Try.pinned (OpenSpec.ofChange cellJoinSpec)

/-- ITS FALSE NEIGHBOUR: 'it returns false'. Refute it at one input. -/
def cellJoinWrong : ChangeSpec := { name := "cellJoin", fn := fun _ => fun
  | [d] => { results := [.lit (.bool false)], args := [d] }
  | _ => none }
def CellJoinWrongFalsely : Prop := cellJoinRow.holds Try.pinned (OpenSpec.ofChange cellJoinWrong)

/-- 'marginalialaw16.CellBack': WHATEVER THE INPUT: true; the input reads as it did. -/
def cellBackSpec : ChangeSpec := { name := "cellBack", fn := fun _ => fun
  | [d1, d2] => { results := [.lit (.bool true)], args := [d1, d2] }
  | _ => none }
def cellBackRow : OpenClaim := { program := "ytbodbomebmkopaa", sum := "811998f2cb770af04078509e8eb210daed1037406eb885708a4887880631738e", func := "marginalia/marginalialaw16.CellBack", spec := "cellBack", apart := false }
def CellBackSaid : Prop := cellBackRow.holds Try.pinned (OpenSpec.ofChange cellBackSpec)

/-- ITS FALSE NEIGHBOUR: 'it returns false'. Refute it at one input. -/
def cellBackWrong : ChangeSpec := { name := "cellBack", fn := fun _ => fun
  | [d1, d2] => { results := [.lit (.bool false)], args := [d1, d2] }
  | _ => none }
def CellBackWrongFalsely : Prop := cellBackRow.holds Try.pinned (OpenSpec.ofChange cellBackWrong)

/-- 'marginalialaw16.CellOnly': WHATEVER THE INPUT: true; the input reads as it did. -/
def cellOnlySpec : ChangeSpec := { name := "cellOnly", fn := fun _ => fun
  | [d1, d2, d3] => { results := [.lit (.bool true)], args := [d1, d2, d3] }
  | _ => none }
def cellOnlyRow : OpenClaim := { program := "ytbodbomebmkopaa", sum := "811998f2cb770af04078509e8eb210daed1037406eb885708a4887880631738e", func := "marginalia/marginalialaw16.CellOnly", spec := "cellOnly", apart := false }
def CellOnlySaid : Prop := cellOnlyRow.holds Try.pinned (OpenSpec.ofChange cellOnlySpec)

/-- ITS FALSE NEIGHBOUR: 'it returns false'. Refute it at one input. -/
def cellOnlyWrong : ChangeSpec := { name := "cellOnly", fn := fun _ => fun
  | [d1, d2, d3] => { results := [.lit (.bool false)], args := [d1, d2, d3] }
  | _ => none }
def CellOnlyWrongFalsely : Prop := cellOnlyRow.holds Try.pinned (OpenSpec.ofChange cellOnlyWrong)

/- THE SECOND FORM. 'bulk': how many values and letters a reading holds, each counted each time it is reached (what is shared counts as often as it is met; a slice's spare places count too). A statement '..UptoSaid' is the law's where the arguments, and the package variables that the reading takes, are together of bulk at most 1048576: NARROWER than '..Said'. Prove '..Said' where nothing that the law and all that it calls make is longer than what came in: it says more and counts as full. Else prove '..UptoSaid'. A law counts once. -/
mutual
def uptoBulk {H : Type} : DataW H → Nat
  | .lit (.string bytes) => bytes.length + 1
  | .lit _ => 1
  | .nil => 1
  | .ptr d => uptoBulk d + 1
  | .slice elems spare => uptoBulkAll elems + uptoBulkAll spare + 1
  | .agg parts => uptoBulkAll parts + 1
  | .iface _ d => uptoBulk d + 1
  | .map entries => uptoBulkEntries entries + 1
  | .held _ => 1
def uptoBulkAll {H : Type} : List (DataW H) → Nat
  | [] => 0
  | d :: r => uptoBulk d + uptoBulkAll r
def uptoBulkEntries {H : Type} : List (Lit × DataW H) → Nat
  | [] => 0
  | x :: r => uptoBulkEntry x + uptoBulkEntries r
def uptoBulkEntry {H : Type} : Lit × DataW H → Nat
  | (.string bytes, d) => bytes.length + uptoBulk d + 1
  | (_, d) => uptoBulk d + 1
 end
def uptoSmall : (H : Type) → List (DataW H) → Bool := fun _ ds => decide (uptoBulkAll ds ≤ 1048576)
def OpenSpec.upto (s : _root_.Go.ChangeSpec) : _root_.Go.OpenSpec := { _root_.Go.OpenSpec.ofChange s with cond := some uptoSmall }

/-- 'marginalialaw16.CellEncode', WHERE WHAT IT READS IS OF BULK AT MOST 1048576: true; the input reads as it did. -/
def cellEncodeUptoRow : OpenClaim := { program := "ytbodbomebmkopaa", sum := "811998f2cb770af04078509e8eb210daed1037406eb885708a4887880631738e", func := "marginalia/marginalialaw16.CellEncode", spec := "cellEncode", apart := false, narrowed := true }
def CellEncodeUptoSaid : Prop := cellEncodeUptoRow.holds Try.pinned (OpenSpec.upto cellEncodeSpec)

/-- 'marginalialaw16.CellDecode', WHERE WHAT IT READS IS OF BULK AT MOST 1048576: true; the input reads as it did. -/
def cellDecodeUptoRow : OpenClaim := { program := "ytbodbomebmkopaa", sum := "811998f2cb770af04078509e8eb210daed1037406eb885708a4887880631738e", func := "marginalia/marginalialaw16.CellDecode", spec := "cellDecode", apart := false, narrowed := true }
def CellDecodeUptoSaid : Prop := cellDecodeUptoRow.holds Try.pinned (OpenSpec.upto cellDecodeSpec)

/-- 'marginalialaw16.CellCut', WHERE WHAT IT READS IS OF BULK AT MOST 1048576: true; the input reads as it did. -/
def cellCutUptoRow : OpenClaim := { program := "ytbodbomebmkopaa", sum := "811998f2cb770af04078509e8eb210daed1037406eb885708a4887880631738e", func := "marginalia/marginalialaw16.CellCut", spec := "cellCut", apart := false, narrowed := true }
def CellCutUptoSaid : Prop := cellCutUptoRow.holds Try.pinned (OpenSpec.upto cellCutSpec)

/-- 'marginalialaw16.CellJoin', WHERE WHAT IT READS IS OF BULK AT MOST 1048576: true; the input reads as it did. -/
def cellJoinUptoRow : OpenClaim := { program := "ytbodbomebmkopaa", sum := "811998f2cb770af04078509e8eb210daed1037406eb885708a4887880631738e", func := "marginalia/marginalialaw16.CellJoin", spec := "cellJoin", apart := false, narrowed := true }
def CellJoinUptoSaid : Prop := cellJoinUptoRow.holds Try.pinned (OpenSpec.upto cellJoinSpec)

/-- 'marginalialaw16.CellBack', WHERE WHAT IT READS IS OF BULK AT MOST 1048576: true; the input reads as it did. -/
def cellBackUptoRow : OpenClaim := { program := "ytbodbomebmkopaa", sum := "811998f2cb770af04078509e8eb210daed1037406eb885708a4887880631738e", func := "marginalia/marginalialaw16.CellBack", spec := "cellBack", apart := false, narrowed := true }
def CellBackUptoSaid : Prop := cellBackUptoRow.holds Try.pinned (OpenSpec.upto cellBackSpec)

/-- 'marginalialaw16.CellOnly', WHERE WHAT IT READS IS OF BULK AT MOST 1048576: true; the input reads as it did. -/
def cellOnlyUptoRow : OpenClaim := { program := "ytbodbomebmkopaa", sum := "811998f2cb770af04078509e8eb210daed1037406eb885708a4887880631738e", func := "marginalia/marginalialaw16.CellOnly", spec := "cellOnly", apart := false, narrowed := true }
def CellOnlyUptoSaid : Prop := cellOnlyUptoRow.holds Try.pinned (OpenSpec.upto cellOnlySpec)

end Rows
end Go.Proofs.Ytbodbomebmkopaa
