/-
  DERIVED. GIVEN WITH THE SEED: THE CARDS: each row of YthopnliaikkhbaaGreatDoorRows.lean that lists a variable, with what it lists TIED to the program's text (the seventh form; the later family's looks); each row that meets fmt, with fmt's text TOLD by the authors' own Lean function (tested against real Go, not proved from fmt's source: count such statements apart). THE CARD IS WHAT COUNTS. Prove the row's statement (the work); the ties are given (YthopnliaikkhbaaGreatDoorTie.lean); close each card by the builder's one call (the guide's Derived/Test/ToyasCard.lean, 'card_holds'). Laid BY PROGRAM, IN A SANDBOX (cutbox-door.mjs). By AI agents, Wed Nov 11 2026. No macro, syntax, notation, axiom, sorry.
-/
import Derived.Test.YthopnliaikkhbaaGreatDoorRows
import GoSem.ClaimSeven
namespace Go.Proofs.YthopnliaikkhbaaGreatDoor
namespace Rows

/-- THE TIED CARD OF 'marginalialaw11.PolicyParse'. -/
def policyParseCard : Claim7 := { stood := { row := policyParseRow, standIns := [], harness := (true, "42bd3a65681c71f6eca1f5b114a8f8f92cd203528be08922162e920022f9a687"), looks := true }, kinds := [], alts := [], laidByText := true, laidKinds := [.data, .data, .data, .data, .sentinel, .sentinel, .pinned], laidTests := true, laidLooks := .later }
def PolicyParseCardSaid : Prop := Claim7.holds Tryz.pinned (.plain (OpenSpec.ofChange policyParseSpec)) policyParseCard

/-- THE TIED CARD OF 'marginalialaw11.PolicyAllowed'. -/
def policyAllowedCard : Claim7 := { stood := { row := policyAllowedRow, standIns := [], harness := (true, "42bd3a65681c71f6eca1f5b114a8f8f92cd203528be08922162e920022f9a687"), looks := true }, kinds := [], alts := [], laidByText := true, laidKinds := [.data, .data, .data, .data, .sentinel, .sentinel, .pinned], laidTests := true, laidLooks := .later }
def PolicyAllowedCardSaid : Prop := Claim7.holds Tryz.pinned (.plain (OpenSpec.ofChange policyAllowedSpec)) policyAllowedCard

/-- THE TIED CARD OF 'marginalialaw11.PolicyPart'. -/
def policyPartCard : Claim7 := { stood := { row := policyPartRow, standIns := [], harness := (true, "42bd3a65681c71f6eca1f5b114a8f8f92cd203528be08922162e920022f9a687"), looks := true }, kinds := [], alts := [], laidByText := true, laidKinds := [.data, .data, .data, .data, .sentinel, .sentinel, .pinned], laidTests := true, laidLooks := .later }
def PolicyPartCardSaid : Prop := Claim7.holds Tryz.pinned (.plain (OpenSpec.ofChange policyPartSpec)) policyPartCard

/-- THE SECOND FORM's CARD OF 'marginalialaw11.PolicyParse'. -/
def policyParseUptoCard : Claim7 := { stood := { row := policyParseUptoRow, standIns := [], harness := (true, "42bd3a65681c71f6eca1f5b114a8f8f92cd203528be08922162e920022f9a687"), looks := true }, kinds := [], alts := [], laidByText := true, laidKinds := [.data, .data, .data, .data, .sentinel, .sentinel, .pinned], laidTests := true, laidLooks := .later }
def PolicyParseUptoCardSaid : Prop := Claim7.holds Tryz.pinned (.plain (OpenSpec.upto policyParseSpec)) policyParseUptoCard

/-- THE SECOND FORM's CARD OF 'marginalialaw11.PolicyAllowed'. -/
def policyAllowedUptoCard : Claim7 := { stood := { row := policyAllowedUptoRow, standIns := [], harness := (true, "42bd3a65681c71f6eca1f5b114a8f8f92cd203528be08922162e920022f9a687"), looks := true }, kinds := [], alts := [], laidByText := true, laidKinds := [.data, .data, .data, .data, .sentinel, .sentinel, .pinned], laidTests := true, laidLooks := .later }
def PolicyAllowedUptoCardSaid : Prop := Claim7.holds Tryz.pinned (.plain (OpenSpec.upto policyAllowedSpec)) policyAllowedUptoCard

/-- THE SECOND FORM's CARD OF 'marginalialaw11.PolicyPart'. -/
def policyPartUptoCard : Claim7 := { stood := { row := policyPartUptoRow, standIns := [], harness := (true, "42bd3a65681c71f6eca1f5b114a8f8f92cd203528be08922162e920022f9a687"), looks := true }, kinds := [], alts := [], laidByText := true, laidKinds := [.data, .data, .data, .data, .sentinel, .sentinel, .pinned], laidTests := true, laidLooks := .later }
def PolicyPartUptoCardSaid : Prop := Claim7.holds Tryz.pinned (.plain (OpenSpec.upto policyPartSpec)) policyPartUptoCard
end Rows
end Go.Proofs.YthopnliaikkhbaaGreatDoor
