/-
  DERIVED. GIVEN WITH THE SEED: THE CARDS: each row of YtfohijnkeefcfaaGreatDoorRows.lean that lists a variable, with what it lists TIED to the program's text (the seventh form; the later family's looks); each row that meets fmt, with fmt's text TOLD by the authors' own Lean function (tested against real Go, not proved from fmt's source: count such statements apart). THE CARD IS WHAT COUNTS. Prove the row's statement (the work); the ties are given (YtfohijnkeefcfaaGreatDoorTie.lean); close each card by the builder's one call (the guide's Derived/Test/ToyasCard.lean, 'card_holds'). Laid BY PROGRAM, IN A SANDBOX (cutbox-door.mjs). By AI agents, Wed Nov 11 2026. No macro, syntax, notation, axiom, sorry.
-/
import Derived.Test.YtfohijnkeefcfaaGreatDoorRows
import GoSem.ClaimSeven
namespace Go.Proofs.YtfohijnkeefcfaaGreatDoor
namespace Rows

/-- THE TIED CARD OF 'marginalialaw08.BuildNested'. -/
def buildNestedCard : Claim7 := { stood := { row := buildNestedRow, standIns := [], harness := (true, "f84e9525796da9810969951ea608f720c64d1cfd167cf82de9ec00268563dbaa"), looks := false }, kinds := [], alts := [], laidByText := true, laidKinds := [.data], laidTests := true, laidLooks := .later }
def BuildNestedCardSaid : Prop := Claim7.holds Tryz.pinned (.plain (OpenSpec.ofChange buildNestedSpec)) buildNestedCard

/-- THE TIED CARD OF 'marginalialaw08.BuildWhole'. -/
def buildWholeCard : Claim7 := { stood := { row := buildWholeRow, standIns := [], harness := (true, "f84e9525796da9810969951ea608f720c64d1cfd167cf82de9ec00268563dbaa"), looks := false }, kinds := [], alts := [], laidByText := true, laidKinds := [.data], laidTests := true, laidLooks := .later }
def BuildWholeCardSaid : Prop := Claim7.holds Tryz.pinned (.plain (OpenSpec.ofChange buildWholeSpec)) buildWholeCard

/-- THE TIED CARD OF 'marginalialaw08.BuildGreat'. -/
def buildGreatCard : Claim7 := { stood := { row := buildGreatRow, standIns := [], harness := (true, "f84e9525796da9810969951ea608f720c64d1cfd167cf82de9ec00268563dbaa"), looks := false }, kinds := [], alts := [], laidByText := true, laidKinds := [.data], laidTests := true, laidLooks := .later }
def BuildGreatCardSaid : Prop := Claim7.holds Tryz.pinned (.plain (OpenSpec.ofChange buildGreatSpec)) buildGreatCard

/-- THE TIED CARD OF 'marginalialaw09.PrintTidy'. -/
def printTidyCard : Claim7 := { stood := { row := printTidyRow, standIns := [], harness := (true, "f84e9525796da9810969951ea608f720c64d1cfd167cf82de9ec00268563dbaa"), looks := false }, kinds := [], alts := [], laidByText := true, laidKinds := [.data], laidTests := true, laidLooks := .later }
def PrintTidyCardSaid : Prop := Claim7.holds Tryz.pinned (.plain (OpenSpec.ofChange printTidySpec)) printTidyCard

/-- THE SECOND FORM's CARD OF 'marginalialaw08.BuildNested'. -/
def buildNestedUptoCard : Claim7 := { stood := { row := buildNestedUptoRow, standIns := [], harness := (true, "f84e9525796da9810969951ea608f720c64d1cfd167cf82de9ec00268563dbaa"), looks := false }, kinds := [], alts := [], laidByText := true, laidKinds := [.data], laidTests := true, laidLooks := .later }
def BuildNestedUptoCardSaid : Prop := Claim7.holds Tryz.pinned (.plain (OpenSpec.upto buildNestedSpec)) buildNestedUptoCard

/-- THE SECOND FORM's CARD OF 'marginalialaw08.BuildWhole'. -/
def buildWholeUptoCard : Claim7 := { stood := { row := buildWholeUptoRow, standIns := [], harness := (true, "f84e9525796da9810969951ea608f720c64d1cfd167cf82de9ec00268563dbaa"), looks := false }, kinds := [], alts := [], laidByText := true, laidKinds := [.data], laidTests := true, laidLooks := .later }
def BuildWholeUptoCardSaid : Prop := Claim7.holds Tryz.pinned (.plain (OpenSpec.upto buildWholeSpec)) buildWholeUptoCard

/-- THE SECOND FORM's CARD OF 'marginalialaw08.BuildGreat'. -/
def buildGreatUptoCard : Claim7 := { stood := { row := buildGreatUptoRow, standIns := [], harness := (true, "f84e9525796da9810969951ea608f720c64d1cfd167cf82de9ec00268563dbaa"), looks := false }, kinds := [], alts := [], laidByText := true, laidKinds := [.data], laidTests := true, laidLooks := .later }
def BuildGreatUptoCardSaid : Prop := Claim7.holds Tryz.pinned (.plain (OpenSpec.upto buildGreatSpec)) buildGreatUptoCard

/-- THE SECOND FORM's CARD OF 'marginalialaw09.PrintTidy'. -/
def printTidyUptoCard : Claim7 := { stood := { row := printTidyUptoRow, standIns := [], harness := (true, "f84e9525796da9810969951ea608f720c64d1cfd167cf82de9ec00268563dbaa"), looks := false }, kinds := [], alts := [], laidByText := true, laidKinds := [.data], laidTests := true, laidLooks := .later }
def PrintTidyUptoCardSaid : Prop := Claim7.holds Tryz.pinned (.plain (OpenSpec.upto printTidySpec)) printTidyUptoCard
end Rows
end Go.Proofs.YtfohijnkeefcfaaGreatDoor
