/-
  DERIVED. GIVEN WITH THE SEED: THE CARDS: each row of YtlfjmgniflkapaaDoorRows.lean that lists a variable, with what it lists TIED to the program's text (the seventh form; the later family's looks); each row that meets fmt, with fmt's text TOLD by the authors' own Lean function (tested against real Go, not proved from fmt's source: count such statements apart). THE CARD IS WHAT COUNTS. Prove the row's statement (the work); the ties are given (YtlfjmgniflkapaaDoorTie.lean); close each card by the builder's one call (the guide's Derived/Test/ToyasCard.lean, 'card_holds'). Laid BY PROGRAM, IN A SANDBOX (cutbox-door.mjs). By AI agents, Wed Nov 11 2026. No macro, syntax, notation, axiom, sorry.
-/
import Derived.Test.YtlfjmgniflkapaaDoorRows
import GoSem.ClaimSeven
namespace Go.Proofs.YtlfjmgniflkapaaDoor
namespace Rows

/-- THE TIED CARD OF 'marginalialaw04.TokenGet'. -/
def tokenGetCard : Claim7 := { stood := { row := tokenGetRow, standIns := [], harness := (true, "879f028fd1ac53ed3f3457e68b391b186bf5e8fbb5f931f7677ddc53aecef992"), looks := false }, kinds := [], alts := [], laidByText := true, laidKinds := [.data], laidTests := true, laidLooks := .later }
def TokenGetCardSaid : Prop := Claim7.holds Tryd.pinned (.plain (OpenSpec.ofChange tokenGetSpec)) tokenGetCard

/-- THE TIED CARD OF 'marginalialaw04.TokenOnward'. -/
def tokenOnwardCard : Claim7 := { stood := { row := tokenOnwardRow, standIns := [], harness := (true, "879f028fd1ac53ed3f3457e68b391b186bf5e8fbb5f931f7677ddc53aecef992"), looks := false }, kinds := [], alts := [], laidByText := true, laidKinds := [.data], laidTests := true, laidLooks := .later }
def TokenOnwardCardSaid : Prop := Claim7.holds Tryd.pinned (.plain (OpenSpec.ofChange tokenOnwardSpec)) tokenOnwardCard

/-- THE TIED CARD OF 'marginalialaw04.TokenBack'. -/
def tokenBackCard : Claim7 := { stood := { row := tokenBackRow, standIns := [], harness := (true, "879f028fd1ac53ed3f3457e68b391b186bf5e8fbb5f931f7677ddc53aecef992"), looks := false }, kinds := [], alts := [], laidByText := true, laidKinds := [.data], laidTests := true, laidLooks := .later }
def TokenBackCardSaid : Prop := Claim7.holds Tryd.pinned (.plain (OpenSpec.ofChange tokenBackSpec)) tokenBackCard

/-- THE TIED CARD OF 'marginalialaw04.TokenComment'. -/
def tokenCommentCard : Claim7 := { stood := { row := tokenCommentRow, standIns := [], harness := (true, "879f028fd1ac53ed3f3457e68b391b186bf5e8fbb5f931f7677ddc53aecef992"), looks := false }, kinds := [], alts := [], laidByText := true, laidKinds := [.data], laidTests := true, laidLooks := .later }
def TokenCommentCardSaid : Prop := Claim7.holds Tryd.pinned (.plain (OpenSpec.ofChange tokenCommentSpec)) tokenCommentCard

/-- THE SECOND FORM's CARD OF 'marginalialaw04.TokenGet'. -/
def tokenGetUptoCard : Claim7 := { stood := { row := tokenGetUptoRow, standIns := [], harness := (true, "879f028fd1ac53ed3f3457e68b391b186bf5e8fbb5f931f7677ddc53aecef992"), looks := false }, kinds := [], alts := [], laidByText := true, laidKinds := [.data], laidTests := true, laidLooks := .later }
def TokenGetUptoCardSaid : Prop := Claim7.holds Tryd.pinned (.plain (OpenSpec.upto tokenGetSpec)) tokenGetUptoCard

/-- THE SECOND FORM's CARD OF 'marginalialaw04.TokenOnward'. -/
def tokenOnwardUptoCard : Claim7 := { stood := { row := tokenOnwardUptoRow, standIns := [], harness := (true, "879f028fd1ac53ed3f3457e68b391b186bf5e8fbb5f931f7677ddc53aecef992"), looks := false }, kinds := [], alts := [], laidByText := true, laidKinds := [.data], laidTests := true, laidLooks := .later }
def TokenOnwardUptoCardSaid : Prop := Claim7.holds Tryd.pinned (.plain (OpenSpec.upto tokenOnwardSpec)) tokenOnwardUptoCard

/-- THE SECOND FORM's CARD OF 'marginalialaw04.TokenBack'. -/
def tokenBackUptoCard : Claim7 := { stood := { row := tokenBackUptoRow, standIns := [], harness := (true, "879f028fd1ac53ed3f3457e68b391b186bf5e8fbb5f931f7677ddc53aecef992"), looks := false }, kinds := [], alts := [], laidByText := true, laidKinds := [.data], laidTests := true, laidLooks := .later }
def TokenBackUptoCardSaid : Prop := Claim7.holds Tryd.pinned (.plain (OpenSpec.upto tokenBackSpec)) tokenBackUptoCard

/-- THE SECOND FORM's CARD OF 'marginalialaw04.TokenComment'. -/
def tokenCommentUptoCard : Claim7 := { stood := { row := tokenCommentUptoRow, standIns := [], harness := (true, "879f028fd1ac53ed3f3457e68b391b186bf5e8fbb5f931f7677ddc53aecef992"), looks := false }, kinds := [], alts := [], laidByText := true, laidKinds := [.data], laidTests := true, laidLooks := .later }
def TokenCommentUptoCardSaid : Prop := Claim7.holds Tryd.pinned (.plain (OpenSpec.upto tokenCommentSpec)) tokenCommentUptoCard
end Rows
end Go.Proofs.YtlfjmgniflkapaaDoor
