/-
  DERIVED. GIVEN WITH THE SEED: THE CARDS: each row of YtfjganjihapnhabGreatDoorRows.lean that lists a variable, with what it lists TIED to the program's text (the seventh form; the later family's looks); each row that meets fmt, with fmt's text TOLD by the authors' own Lean function (tested against real Go, not proved from fmt's source: count such statements apart). THE CARD IS WHAT COUNTS. Prove the row's statement (the work); the ties are given (YtfjganjihapnhabGreatDoorTie.lean); close each card by the builder's one call (the guide's Derived/Test/ToyasCard.lean, 'card_holds'). Laid BY PROGRAM, IN A SANDBOX (cutbox-door.mjs). By AI agents, Wed Nov 11 2026. No macro, syntax, notation, axiom, sorry.
-/
import Derived.Test.YtfjganjihapnhabGreatDoorRows
import GoSem.ClaimSeven
namespace Go.Proofs.YtfjganjihapnhabGreatDoor
namespace Rows

/-- THE TIED CARD OF 'marginalialaw11.PolicyNever'. -/
def policyNeverCard : Claim7 := { stood := { row := policyNeverRow, standIns := [], harness := (true, "a3a013e837541026961c5f718f7fb39b8ad17855569c91be904e1df56d556d0b"), looks := true }, kinds := [], alts := [], laidByText := true, laidKinds := [.data, .data, .data, .data, .sentinel, .sentinel, .pinned], laidTests := true, laidLooks := .later }
def PolicyNeverCardSaid : Prop := Claim7.holds Tryz.pinned (.plain (OpenSpec.ofChange policyNeverSpec)) policyNeverCard

/-- THE TIED CARD OF 'marginalialaw11.PolicyPart'. -/
def policyPartCard : Claim7 := { stood := { row := policyPartRow, standIns := [], harness := (true, "a3a013e837541026961c5f718f7fb39b8ad17855569c91be904e1df56d556d0b"), looks := true }, kinds := [], alts := [], laidByText := true, laidKinds := [.data, .data, .data, .data, .sentinel, .sentinel, .pinned], laidTests := true, laidLooks := .later }
def PolicyPartCardSaid : Prop := Claim7.holds Tryz.pinned (.plain (OpenSpec.ofChange policyPartSpec)) policyPartCard

/-- THE SECOND FORM's CARD OF 'marginalialaw11.PolicyNever'. -/
def policyNeverUptoCard : Claim7 := { stood := { row := policyNeverUptoRow, standIns := [], harness := (true, "a3a013e837541026961c5f718f7fb39b8ad17855569c91be904e1df56d556d0b"), looks := true }, kinds := [], alts := [], laidByText := true, laidKinds := [.data, .data, .data, .data, .sentinel, .sentinel, .pinned], laidTests := true, laidLooks := .later }
def PolicyNeverUptoCardSaid : Prop := Claim7.holds Tryz.pinned (.plain (OpenSpec.upto policyNeverSpec)) policyNeverUptoCard

/-- THE SECOND FORM's CARD OF 'marginalialaw11.PolicyPart'. -/
def policyPartUptoCard : Claim7 := { stood := { row := policyPartUptoRow, standIns := [], harness := (true, "a3a013e837541026961c5f718f7fb39b8ad17855569c91be904e1df56d556d0b"), looks := true }, kinds := [], alts := [], laidByText := true, laidKinds := [.data, .data, .data, .data, .sentinel, .sentinel, .pinned], laidTests := true, laidLooks := .later }
def PolicyPartUptoCardSaid : Prop := Claim7.holds Tryz.pinned (.plain (OpenSpec.upto policyPartSpec)) policyPartUptoCard
end Rows
end Go.Proofs.YtfjganjihapnhabGreatDoor
