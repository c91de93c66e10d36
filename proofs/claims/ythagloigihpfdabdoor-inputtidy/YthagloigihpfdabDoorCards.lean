/-
  DERIVED. GIVEN WITH THE SEED: THE CARDS: each row of YthagloigihpfdabDoorRows.lean that lists a variable, with what it lists TIED to the program's text (the seventh form; the later family's looks); each row that meets fmt, with fmt's text TOLD by the authors' own Lean function (tested against real Go, not proved from fmt's source: count such statements apart). THE CARD IS WHAT COUNTS. Prove the row's statement (the work); the ties are given (YthagloigihpfdabDoorTie.lean); close each card by the builder's one call (the guide's Derived/Test/ToyasCard.lean, 'card_holds'). Laid BY PROGRAM, IN A SANDBOX (cutbox-door.mjs). By AI agents, Wed Nov 11 2026. No macro, syntax, notation, axiom, sorry.
-/
import Derived.Test.YthagloigihpfdabDoorRows
import GoSem.ClaimSeven
namespace Go.Proofs.YthagloigihpfdabDoor
namespace Rows

/-- THE TIED CARD OF 'marginalialaw01.InputTidy'. -/
def inputTidyCard : Claim7 := { stood := { row := inputTidyRow, standIns := [], harness := (true, "b30ef93a72008f75db24356005a6fc47b1dbc29d88d65fef9515fafb1972b3a5"), looks := false }, kinds := [], alts := [], laidByText := true, laidKinds := [.data, .pinned], laidTests := true, laidLooks := .later }
def InputTidyCardSaid : Prop := Claim7.holds Tryd.pinned (.plain (OpenSpec.ofChange inputTidySpec)) inputTidyCard

/-- THE SECOND FORM's CARD OF 'marginalialaw01.InputTidy'. -/
def inputTidyUptoCard : Claim7 := { stood := { row := inputTidyUptoRow, standIns := [], harness := (true, "b30ef93a72008f75db24356005a6fc47b1dbc29d88d65fef9515fafb1972b3a5"), looks := false }, kinds := [], alts := [], laidByText := true, laidKinds := [.data, .pinned], laidTests := true, laidLooks := .later }
def InputTidyUptoCardSaid : Prop := Claim7.holds Tryd.pinned (.plain (OpenSpec.upto inputTidySpec)) inputTidyUptoCard
end Rows
end Go.Proofs.YthagloigihpfdabDoor
