/-
  DERIVED. GIVEN WITH THE SEED: THE CARDS: each row of YtiapnmplfkghlabDoorRows.lean that lists a variable, with what it lists TIED to the program's text (the seventh form; the later family's looks); each row that meets fmt, with fmt's text TOLD by the authors' own Lean function (tested against real Go, not proved from fmt's source: count such statements apart). THE CARD IS WHAT COUNTS. Prove the row's statement (the work); the ties are given (YtiapnmplfkghlabDoorTie.lean); close each card by the builder's one call (the guide's Derived/Test/ToyasCard.lean, 'card_holds'). Laid BY PROGRAM, IN A SANDBOX (cutbox-door.mjs). By AI agents, Wed Nov 11 2026. No macro, syntax, notation, axiom, sorry.
-/
import Derived.Test.YtiapnmplfkghlabDoorRows
import GoSem.ClaimSeven
namespace Go.Proofs.YtiapnmplfkghlabDoor
namespace Rows

/-- THE TIED CARD OF 'marginalialaw03.CharrefOne'. -/
def charrefOneCard : Claim7 := { stood := { row := charrefOneRow, standIns := [], harness := (true, "81db25a3d6b7f61aea337e5a8bc87cf35056619621456a67b5063a993e993df2"), looks := false }, kinds := [], alts := [], laidByText := true, laidKinds := [.data], laidTests := true, laidLooks := .later }
def CharrefOneCardSaid : Prop := Claim7.holds Tryd.pinned (.plain (OpenSpec.ofChange charrefOneSpec)) charrefOneCard

/-- THE SECOND FORM's CARD OF 'marginalialaw03.CharrefOne'. -/
def charrefOneUptoCard : Claim7 := { stood := { row := charrefOneUptoRow, standIns := [], harness := (true, "81db25a3d6b7f61aea337e5a8bc87cf35056619621456a67b5063a993e993df2"), looks := false }, kinds := [], alts := [], laidByText := true, laidKinds := [.data], laidTests := true, laidLooks := .later }
def CharrefOneUptoCardSaid : Prop := Claim7.holds Tryd.pinned (.plain (OpenSpec.upto charrefOneSpec)) charrefOneUptoCard
end Rows
end Go.Proofs.YtiapnmplfkghlabDoor
