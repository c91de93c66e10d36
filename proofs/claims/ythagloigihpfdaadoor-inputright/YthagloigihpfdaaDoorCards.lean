/-
  DERIVED. GIVEN WITH THE SEED: THE CARDS: each row of YthagloigihpfdaaDoorRows.lean that lists a variable, with what it lists TIED to the program's text (the seventh form; the later family's looks); each row that meets fmt, with fmt's text TOLD by the authors' own Lean function (tested against real Go, not proved from fmt's source: count such statements apart). THE CARD IS WHAT COUNTS. Prove the row's statement (the work); the ties are given (YthagloigihpfdaaDoorTie.lean); close each card by the builder's one call (the guide's Derived/Test/ToyasCard.lean, 'card_holds'). Laid BY PROGRAM, IN A SANDBOX (cutbox-door.mjs). By AI agents, Wed Nov 11 2026. No macro, syntax, notation, axiom, sorry.
-/
import Derived.Test.YthagloigihpfdaaDoorRows
import GoSem.ClaimSeven
namespace Go.Proofs.YthagloigihpfdaaDoor
namespace Rows

/-- THE TIED CARD OF 'marginalialaw01.InputLines'. -/
def inputLinesCard : Claim7 := { stood := { row := inputLinesRow, standIns := [], harness := (true, "9c3f5de65f77e5d1ed6ede4947876f521fc3ab9d4ee43d3da0a153e350770457"), looks := false }, kinds := [], alts := [], laidByText := true, laidKinds := [.data, .pinned], laidTests := true, laidLooks := .later }
def InputLinesCardSaid : Prop := Claim7.holds Tryd.pinned (.plain (OpenSpec.ofChange inputLinesSpec)) inputLinesCard

/-- THE TIED CARD OF 'marginalialaw01.InputRight'. -/
def inputRightCard : Claim7 := { stood := { row := inputRightRow, standIns := [], harness := (true, "9c3f5de65f77e5d1ed6ede4947876f521fc3ab9d4ee43d3da0a153e350770457"), looks := false }, kinds := [], alts := [], laidByText := true, laidKinds := [.data, .pinned], laidTests := true, laidLooks := .later }
def InputRightCardSaid : Prop := Claim7.holds Tryd.pinned (.plain (OpenSpec.ofChange inputRightSpec)) inputRightCard

/-- THE TIED CARD OF 'marginalialaw01.InputMark'. -/
def inputMarkCard : Claim7 := { stood := { row := inputMarkRow, standIns := [], harness := (true, "9c3f5de65f77e5d1ed6ede4947876f521fc3ab9d4ee43d3da0a153e350770457"), looks := false }, kinds := [], alts := [], laidByText := true, laidKinds := [.data, .pinned], laidTests := true, laidLooks := .later }
def InputMarkCardSaid : Prop := Claim7.holds Tryd.pinned (.plain (OpenSpec.ofChange inputMarkSpec)) inputMarkCard

/-- THE SECOND FORM's CARD OF 'marginalialaw01.InputLines'. -/
def inputLinesUptoCard : Claim7 := { stood := { row := inputLinesUptoRow, standIns := [], harness := (true, "9c3f5de65f77e5d1ed6ede4947876f521fc3ab9d4ee43d3da0a153e350770457"), looks := false }, kinds := [], alts := [], laidByText := true, laidKinds := [.data, .pinned], laidTests := true, laidLooks := .later }
def InputLinesUptoCardSaid : Prop := Claim7.holds Tryd.pinned (.plain (OpenSpec.upto inputLinesSpec)) inputLinesUptoCard

/-- THE SECOND FORM's CARD OF 'marginalialaw01.InputRight'. -/
def inputRightUptoCard : Claim7 := { stood := { row := inputRightUptoRow, standIns := [], harness := (true, "9c3f5de65f77e5d1ed6ede4947876f521fc3ab9d4ee43d3da0a153e350770457"), looks := false }, kinds := [], alts := [], laidByText := true, laidKinds := [.data, .pinned], laidTests := true, laidLooks := .later }
def InputRightUptoCardSaid : Prop := Claim7.holds Tryd.pinned (.plain (OpenSpec.upto inputRightSpec)) inputRightUptoCard

/-- THE SECOND FORM's CARD OF 'marginalialaw01.InputMark'. -/
def inputMarkUptoCard : Claim7 := { stood := { row := inputMarkUptoRow, standIns := [], harness := (true, "9c3f5de65f77e5d1ed6ede4947876f521fc3ab9d4ee43d3da0a153e350770457"), looks := false }, kinds := [], alts := [], laidByText := true, laidKinds := [.data, .pinned], laidTests := true, laidLooks := .later }
def InputMarkUptoCardSaid : Prop := Claim7.holds Tryd.pinned (.plain (OpenSpec.upto inputMarkSpec)) inputMarkUptoCard
end Rows
end Go.Proofs.YthagloigihpfdaaDoor
