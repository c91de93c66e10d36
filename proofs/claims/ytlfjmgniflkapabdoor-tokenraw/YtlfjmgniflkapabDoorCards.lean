/-
  DERIVED. GIVEN WITH THE SEED: THE CARDS: each row of YtlfjmgniflkapabDoorRows.lean that lists a variable, with what it lists TIED to the program's text (the seventh form; the later family's looks); each row that meets fmt, with fmt's text TOLD by the authors' own Lean function (tested against real Go, not proved from fmt's source: count such statements apart). THE CARD IS WHAT COUNTS. Prove the row's statement (the work); the ties are given (YtlfjmgniflkapabDoorTie.lean); close each card by the builder's one call (the guide's Derived/Test/ToyasCard.lean, 'card_holds'). Laid BY PROGRAM, IN A SANDBOX (cutbox-door.mjs). By AI agents, Wed Nov 11 2026. No macro, syntax, notation, axiom, sorry.
-/
import Derived.Test.YtlfjmgniflkapabDoorRows
import GoSem.ClaimSeven
namespace Go.Proofs.YtlfjmgniflkapabDoor
namespace Rows

/-- THE TIED CARD OF 'marginalialaw04.TokenRaw'. -/
def tokenRawCard : Claim7 := { stood := { row := tokenRawRow, standIns := [], harness := (true, "0461fe45ec00fec836fd8b0679403ccd5da0a22f480020500038fc8189a1668c"), looks := false }, kinds := [], alts := [], laidByText := true, laidKinds := [.data], laidTests := true, laidLooks := .later }
def TokenRawCardSaid : Prop := Claim7.holds Tryd.pinned (.plain (OpenSpec.ofChange tokenRawSpec)) tokenRawCard

/-- THE SECOND FORM's CARD OF 'marginalialaw04.TokenRaw'. -/
def tokenRawUptoCard : Claim7 := { stood := { row := tokenRawUptoRow, standIns := [], harness := (true, "0461fe45ec00fec836fd8b0679403ccd5da0a22f480020500038fc8189a1668c"), looks := false }, kinds := [], alts := [], laidByText := true, laidKinds := [.data], laidTests := true, laidLooks := .later }
def TokenRawUptoCardSaid : Prop := Claim7.holds Tryd.pinned (.plain (OpenSpec.upto tokenRawSpec)) tokenRawUptoCard
end Rows
end Go.Proofs.YtlfjmgniflkapabDoor
