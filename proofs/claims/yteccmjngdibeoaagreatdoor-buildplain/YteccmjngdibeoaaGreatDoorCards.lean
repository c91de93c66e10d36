/-
  DERIVED. GIVEN WITH THE SEED: THE CARDS: each row of YteccmjngdibeoaaGreatDoorRows.lean that lists a variable, with what it lists TIED to the program's text (the seventh form; the later family's looks); each row that meets fmt, with fmt's text TOLD by the authors' own Lean function (tested against real Go, not proved from fmt's source: count such statements apart). THE CARD IS WHAT COUNTS. Prove the row's statement (the work); the ties are given (YteccmjngdibeoaaGreatDoorTie.lean); close each card by the builder's one call (the guide's Derived/Test/ToyasCard.lean, 'card_holds'). Laid BY PROGRAM, IN A SANDBOX (cutbox-door.mjs). By AI agents, Wed Nov 11 2026. No macro, syntax, notation, axiom, sorry.
-/
import Derived.Test.YteccmjngdibeoaaGreatDoorRows
import GoSem.ClaimSeven
namespace Go.Proofs.YteccmjngdibeoaaGreatDoor
namespace Rows

/-- THE TIED CARD OF 'marginalialaw08.BuildFragment'. -/
def buildFragmentCard : Claim7 := { stood := { row := buildFragmentRow, standIns := [], harness := (true, "195d9df340661e2f04051757a7209e36fa3ae66c87fdbe562991ecaf17df42dd"), looks := false }, kinds := [], alts := [], laidByText := true, laidKinds := [.data], laidTests := true, laidLooks := .later }
def BuildFragmentCardSaid : Prop := Claim7.holds Tryz.pinned (.plain (OpenSpec.ofChange buildFragmentSpec)) buildFragmentCard

/-- THE TIED CARD OF 'marginalialaw08.BuildCounts'. -/
def buildCountsCard : Claim7 := { stood := { row := buildCountsRow, standIns := [], harness := (true, "195d9df340661e2f04051757a7209e36fa3ae66c87fdbe562991ecaf17df42dd"), looks := false }, kinds := [], alts := [], laidByText := true, laidKinds := [.data], laidTests := true, laidLooks := .later }
def BuildCountsCardSaid : Prop := Claim7.holds Tryz.pinned (.plain (OpenSpec.ofChange buildCountsSpec)) buildCountsCard

/-- THE TIED CARD OF 'marginalialaw08.BuildDeep'. -/
def buildDeepCard : Claim7 := { stood := { row := buildDeepRow, standIns := [], harness := (true, "195d9df340661e2f04051757a7209e36fa3ae66c87fdbe562991ecaf17df42dd"), looks := false }, kinds := [], alts := [], laidByText := true, laidKinds := [.data], laidTests := true, laidLooks := .later }
def BuildDeepCardSaid : Prop := Claim7.holds Tryz.pinned (.plain (OpenSpec.ofChange buildDeepSpec)) buildDeepCard

/-- THE TIED CARD OF 'marginalialaw08.BuildPlain'. -/
def buildPlainCard : Claim7 := { stood := { row := buildPlainRow, standIns := [], harness := (true, "195d9df340661e2f04051757a7209e36fa3ae66c87fdbe562991ecaf17df42dd"), looks := false }, kinds := [], alts := [], laidByText := true, laidKinds := [.data], laidTests := true, laidLooks := .later }
def BuildPlainCardSaid : Prop := Claim7.holds Tryz.pinned (.plain (OpenSpec.ofChange buildPlainSpec)) buildPlainCard

/-- THE TIED CARD OF 'marginalialaw08.BuildNested'. -/
def buildNestedCard : Claim7 := { stood := { row := buildNestedRow, standIns := [], harness := (true, "195d9df340661e2f04051757a7209e36fa3ae66c87fdbe562991ecaf17df42dd"), looks := false }, kinds := [], alts := [], laidByText := true, laidKinds := [.data], laidTests := true, laidLooks := .later }
def BuildNestedCardSaid : Prop := Claim7.holds Tryz.pinned (.plain (OpenSpec.ofChange buildNestedSpec)) buildNestedCard

/-- THE TIED CARD OF 'marginalialaw08.BuildWhole'. -/
def buildWholeCard : Claim7 := { stood := { row := buildWholeRow, standIns := [], harness := (true, "195d9df340661e2f04051757a7209e36fa3ae66c87fdbe562991ecaf17df42dd"), looks := false }, kinds := [], alts := [], laidByText := true, laidKinds := [.data], laidTests := true, laidLooks := .later }
def BuildWholeCardSaid : Prop := Claim7.holds Tryz.pinned (.plain (OpenSpec.ofChange buildWholeSpec)) buildWholeCard

/-- THE SECOND FORM's CARD OF 'marginalialaw08.BuildFragment'. -/
def buildFragmentUptoCard : Claim7 := { stood := { row := buildFragmentUptoRow, standIns := [], harness := (true, "195d9df340661e2f04051757a7209e36fa3ae66c87fdbe562991ecaf17df42dd"), looks := false }, kinds := [], alts := [], laidByText := true, laidKinds := [.data], laidTests := true, laidLooks := .later }
def BuildFragmentUptoCardSaid : Prop := Claim7.holds Tryz.pinned (.plain (OpenSpec.upto buildFragmentSpec)) buildFragmentUptoCard

/-- THE SECOND FORM's CARD OF 'marginalialaw08.BuildCounts'. -/
def buildCountsUptoCard : Claim7 := { stood := { row := buildCountsUptoRow, standIns := [], harness := (true, "195d9df340661e2f04051757a7209e36fa3ae66c87fdbe562991ecaf17df42dd"), looks := false }, kinds := [], alts := [], laidByText := true, laidKinds := [.data], laidTests := true, laidLooks := .later }
def BuildCountsUptoCardSaid : Prop := Claim7.holds Tryz.pinned (.plain (OpenSpec.upto buildCountsSpec)) buildCountsUptoCard

/-- THE SECOND FORM's CARD OF 'marginalialaw08.BuildDeep'. -/
def buildDeepUptoCard : Claim7 := { stood := { row := buildDeepUptoRow, standIns := [], harness := (true, "195d9df340661e2f04051757a7209e36fa3ae66c87fdbe562991ecaf17df42dd"), looks := false }, kinds := [], alts := [], laidByText := true, laidKinds := [.data], laidTests := true, laidLooks := .later }
def BuildDeepUptoCardSaid : Prop := Claim7.holds Tryz.pinned (.plain (OpenSpec.upto buildDeepSpec)) buildDeepUptoCard

/-- THE SECOND FORM's CARD OF 'marginalialaw08.BuildPlain'. -/
def buildPlainUptoCard : Claim7 := { stood := { row := buildPlainUptoRow, standIns := [], harness := (true, "195d9df340661e2f04051757a7209e36fa3ae66c87fdbe562991ecaf17df42dd"), looks := false }, kinds := [], alts := [], laidByText := true, laidKinds := [.data], laidTests := true, laidLooks := .later }
def BuildPlainUptoCardSaid : Prop := Claim7.holds Tryz.pinned (.plain (OpenSpec.upto buildPlainSpec)) buildPlainUptoCard

/-- THE SECOND FORM's CARD OF 'marginalialaw08.BuildNested'. -/
def buildNestedUptoCard : Claim7 := { stood := { row := buildNestedUptoRow, standIns := [], harness := (true, "195d9df340661e2f04051757a7209e36fa3ae66c87fdbe562991ecaf17df42dd"), looks := false }, kinds := [], alts := [], laidByText := true, laidKinds := [.data], laidTests := true, laidLooks := .later }
def BuildNestedUptoCardSaid : Prop := Claim7.holds Tryz.pinned (.plain (OpenSpec.upto buildNestedSpec)) buildNestedUptoCard

/-- THE SECOND FORM's CARD OF 'marginalialaw08.BuildWhole'. -/
def buildWholeUptoCard : Claim7 := { stood := { row := buildWholeUptoRow, standIns := [], harness := (true, "195d9df340661e2f04051757a7209e36fa3ae66c87fdbe562991ecaf17df42dd"), looks := false }, kinds := [], alts := [], laidByText := true, laidKinds := [.data], laidTests := true, laidLooks := .later }
def BuildWholeUptoCardSaid : Prop := Claim7.holds Tryz.pinned (.plain (OpenSpec.upto buildWholeSpec)) buildWholeUptoCard
end Rows
end Go.Proofs.YteccmjngdibeoaaGreatDoor
