/-
  DERIVED. GIVEN WITH THE SEED: THE CARDS: each row of YtfjganjihapnhaaGreatDoorRows.lean that lists a variable, with what it lists TIED to the program's text (the seventh form; the later family's looks); each row that meets fmt, with fmt's text TOLD by the authors' own Lean function (tested against real Go, not proved from fmt's source: count such statements apart). THE CARD IS WHAT COUNTS. Prove the row's statement (the work); the ties are given (YtfjganjihapnhaaGreatDoorTie.lean); close each card by the builder's one call (the guide's Derived/Test/ToyasCard.lean, 'card_holds'). Laid BY PROGRAM, IN A SANDBOX (cutbox-door.mjs). By AI agents, Wed Nov 11 2026. No macro, syntax, notation, axiom, sorry.
-/
import Derived.Test.YtfjganjihapnhaaGreatDoorRows
import GoSem.ClaimSeven
namespace Go.Proofs.YtfjganjihapnhaaGreatDoor
namespace Rows

/-- THE TIED CARD OF 'marginalialaw11.PolicyCheck'. -/
def policyCheckCard : Claim7 := { stood := { row := policyCheckRow, standIns := [], harness := (true, "5d8e5b0df94bf15eb8e2fbf5f404866b9e06451c6191c7bc6d413a6ee8e0e0af"), looks := true }, kinds := [], alts := [], laidByText := true, laidKinds := [.data, .data, .data, .data, .sentinel, .sentinel, .pinned], laidTests := true, laidLooks := .later }
def PolicyCheckCardSaid : Prop := Claim7.holds Tryz.pinned (.plain (OpenSpec.ofChange policyCheckSpec)) policyCheckCard

/-- THE TIED CARD OF 'marginalialaw11.PolicyParse'. -/
def policyParseCard : Claim7 := { stood := { row := policyParseRow, standIns := [], harness := (true, "5d8e5b0df94bf15eb8e2fbf5f404866b9e06451c6191c7bc6d413a6ee8e0e0af"), looks := true }, kinds := [], alts := [], laidByText := true, laidKinds := [.data, .data, .data, .data, .sentinel, .sentinel, .pinned], laidTests := true, laidLooks := .later }
def PolicyParseCardSaid : Prop := Claim7.holds Tryz.pinned (.plain (OpenSpec.ofChange policyParseSpec)) policyParseCard

/-- THE TIED CARD OF 'marginalialaw11.PolicyPrint'. -/
def policyPrintCard : Claim7 := { stood := { row := policyPrintRow, standIns := [], harness := (true, "5d8e5b0df94bf15eb8e2fbf5f404866b9e06451c6191c7bc6d413a6ee8e0e0af"), looks := true }, kinds := [], alts := [], laidByText := true, laidKinds := [.data, .data, .data, .data, .sentinel, .sentinel, .pinned], laidTests := true, laidLooks := .later }
def PolicyPrintCardSaid : Prop := Claim7.holds Tryz.pinned (.plain (OpenSpec.ofChange policyPrintSpec)) policyPrintCard

/-- THE TIED CARD OF 'marginalialaw11.PolicyLets'. -/
def policyLetsCard : Claim7 := { stood := { row := policyLetsRow, standIns := [], harness := (true, "5d8e5b0df94bf15eb8e2fbf5f404866b9e06451c6191c7bc6d413a6ee8e0e0af"), looks := true }, kinds := [], alts := [], laidByText := true, laidKinds := [.data, .data, .data, .data, .sentinel, .sentinel, .pinned], laidTests := true, laidLooks := .later }
def PolicyLetsCardSaid : Prop := Claim7.holds Tryz.pinned (.plain (OpenSpec.ofChange policyLetsSpec)) policyLetsCard

/-- THE TIED CARD OF 'marginalialaw11.PolicyAllowed'. -/
def policyAllowedCard : Claim7 := { stood := { row := policyAllowedRow, standIns := [], harness := (true, "5d8e5b0df94bf15eb8e2fbf5f404866b9e06451c6191c7bc6d413a6ee8e0e0af"), looks := true }, kinds := [], alts := [], laidByText := true, laidKinds := [.data, .data, .data, .data, .sentinel, .sentinel, .pinned], laidTests := true, laidLooks := .later }
def PolicyAllowedCardSaid : Prop := Claim7.holds Tryz.pinned (.plain (OpenSpec.ofChange policyAllowedSpec)) policyAllowedCard

/-- THE TIED CARD OF 'marginalialaw11.PolicyBack'. -/
def policyBackCard : Claim7 := { stood := { row := policyBackRow, standIns := [], harness := (true, "5d8e5b0df94bf15eb8e2fbf5f404866b9e06451c6191c7bc6d413a6ee8e0e0af"), looks := true }, kinds := [], alts := [], laidByText := true, laidKinds := [.data, .data, .data, .data, .sentinel, .sentinel, .pinned], laidTests := true, laidLooks := .later }
def PolicyBackCardSaid : Prop := Claim7.holds Tryz.pinned (.plain (OpenSpec.ofChange policyBackSpec)) policyBackCard

/-- THE SECOND FORM's CARD OF 'marginalialaw11.PolicyCheck'. -/
def policyCheckUptoCard : Claim7 := { stood := { row := policyCheckUptoRow, standIns := [], harness := (true, "5d8e5b0df94bf15eb8e2fbf5f404866b9e06451c6191c7bc6d413a6ee8e0e0af"), looks := true }, kinds := [], alts := [], laidByText := true, laidKinds := [.data, .data, .data, .data, .sentinel, .sentinel, .pinned], laidTests := true, laidLooks := .later }
def PolicyCheckUptoCardSaid : Prop := Claim7.holds Tryz.pinned (.plain (OpenSpec.upto policyCheckSpec)) policyCheckUptoCard

/-- THE SECOND FORM's CARD OF 'marginalialaw11.PolicyParse'. -/
def policyParseUptoCard : Claim7 := { stood := { row := policyParseUptoRow, standIns := [], harness := (true, "5d8e5b0df94bf15eb8e2fbf5f404866b9e06451c6191c7bc6d413a6ee8e0e0af"), looks := true }, kinds := [], alts := [], laidByText := true, laidKinds := [.data, .data, .data, .data, .sentinel, .sentinel, .pinned], laidTests := true, laidLooks := .later }
def PolicyParseUptoCardSaid : Prop := Claim7.holds Tryz.pinned (.plain (OpenSpec.upto policyParseSpec)) policyParseUptoCard

/-- THE SECOND FORM's CARD OF 'marginalialaw11.PolicyPrint'. -/
def policyPrintUptoCard : Claim7 := { stood := { row := policyPrintUptoRow, standIns := [], harness := (true, "5d8e5b0df94bf15eb8e2fbf5f404866b9e06451c6191c7bc6d413a6ee8e0e0af"), looks := true }, kinds := [], alts := [], laidByText := true, laidKinds := [.data, .data, .data, .data, .sentinel, .sentinel, .pinned], laidTests := true, laidLooks := .later }
def PolicyPrintUptoCardSaid : Prop := Claim7.holds Tryz.pinned (.plain (OpenSpec.upto policyPrintSpec)) policyPrintUptoCard

/-- THE SECOND FORM's CARD OF 'marginalialaw11.PolicyLets'. -/
def policyLetsUptoCard : Claim7 := { stood := { row := policyLetsUptoRow, standIns := [], harness := (true, "5d8e5b0df94bf15eb8e2fbf5f404866b9e06451c6191c7bc6d413a6ee8e0e0af"), looks := true }, kinds := [], alts := [], laidByText := true, laidKinds := [.data, .data, .data, .data, .sentinel, .sentinel, .pinned], laidTests := true, laidLooks := .later }
def PolicyLetsUptoCardSaid : Prop := Claim7.holds Tryz.pinned (.plain (OpenSpec.upto policyLetsSpec)) policyLetsUptoCard

/-- THE SECOND FORM's CARD OF 'marginalialaw11.PolicyAllowed'. -/
def policyAllowedUptoCard : Claim7 := { stood := { row := policyAllowedUptoRow, standIns := [], harness := (true, "5d8e5b0df94bf15eb8e2fbf5f404866b9e06451c6191c7bc6d413a6ee8e0e0af"), looks := true }, kinds := [], alts := [], laidByText := true, laidKinds := [.data, .data, .data, .data, .sentinel, .sentinel, .pinned], laidTests := true, laidLooks := .later }
def PolicyAllowedUptoCardSaid : Prop := Claim7.holds Tryz.pinned (.plain (OpenSpec.upto policyAllowedSpec)) policyAllowedUptoCard

/-- THE SECOND FORM's CARD OF 'marginalialaw11.PolicyBack'. -/
def policyBackUptoCard : Claim7 := { stood := { row := policyBackUptoRow, standIns := [], harness := (true, "5d8e5b0df94bf15eb8e2fbf5f404866b9e06451c6191c7bc6d413a6ee8e0e0af"), looks := true }, kinds := [], alts := [], laidByText := true, laidKinds := [.data, .data, .data, .data, .sentinel, .sentinel, .pinned], laidTests := true, laidLooks := .later }
def PolicyBackUptoCardSaid : Prop := Claim7.holds Tryz.pinned (.plain (OpenSpec.upto policyBackSpec)) policyBackUptoCard
end Rows
end Go.Proofs.YtfjganjihapnhaaGreatDoor
