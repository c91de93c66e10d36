/-
  DERIVED. GIVEN WITH THE SEED: THE CARDS: each row of YtiapnmplfkghlaaDoorRows.lean that lists a variable, with what it lists TIED to the program's text (the seventh form; the later family's looks); each row that meets fmt, with fmt's text TOLD by the authors' own Lean function (tested against real Go, not proved from fmt's source: count such statements apart). THE CARD IS WHAT COUNTS. Prove the row's statement (the work); the ties are given (YtiapnmplfkghlaaDoorTie.lean); close each card by the builder's one call (the guide's Derived/Test/ToyasCard.lean, 'card_holds'). Laid BY PROGRAM, IN A SANDBOX (cutbox-door.mjs). By AI agents, Wed Nov 11 2026. No macro, syntax, notation, axiom, sorry.
-/
import Derived.Test.YtiapnmplfkghlaaDoorRows
import GoSem.ClaimSeven
namespace Go.Proofs.YtiapnmplfkghlaaDoor
namespace Rows

/-- THE TIED CARD OF 'marginalialaw03.CharrefNamed'. -/
def charrefNamedCard : Claim7 := { stood := { row := charrefNamedRow, standIns := [], harness := (true, "41621993d5873a6a7d110d0b4257b846a08387be175240bcd0c0863c9f062544"), looks := false }, kinds := [], alts := [], laidByText := true, laidKinds := [.data], laidTests := true, laidLooks := .later }
def CharrefNamedCardSaid : Prop := Claim7.holds Tryd.pinned (.plain (OpenSpec.ofChange charrefNamedSpec)) charrefNamedCard

/-- THE TIED CARD OF 'marginalialaw03.CharrefNumber'. -/
def charrefNumberCard : Claim7 := { stood := { row := charrefNumberRow, standIns := [], harness := (true, "41621993d5873a6a7d110d0b4257b846a08387be175240bcd0c0863c9f062544"), looks := false }, kinds := [], alts := [], laidByText := true, laidKinds := [.data], laidTests := true, laidLooks := .later }
def CharrefNumberCardSaid : Prop := Claim7.holds Tryd.pinned (.plain (OpenSpec.ofChange charrefNumberSpec)) charrefNumberCard

/-- THE TIED CARD OF 'marginalialaw03.CharrefAt'. -/
def charrefAtCard : Claim7 := { stood := { row := charrefAtRow, standIns := [], harness := (true, "41621993d5873a6a7d110d0b4257b846a08387be175240bcd0c0863c9f062544"), looks := false }, kinds := [], alts := [], laidByText := true, laidKinds := [.data], laidTests := true, laidLooks := .later }
def CharrefAtCardSaid : Prop := Claim7.holds Tryd.pinned (.plain (OpenSpec.ofChange charrefAtSpec)) charrefAtCard

/-- THE TIED CARD OF 'marginalialaw03.CharrefDecode'. -/
def charrefDecodeCard : Claim7 := { stood := { row := charrefDecodeRow, standIns := [], harness := (true, "41621993d5873a6a7d110d0b4257b846a08387be175240bcd0c0863c9f062544"), looks := false }, kinds := [], alts := [], laidByText := true, laidKinds := [.data], laidTests := true, laidLooks := .later }
def CharrefDecodeCardSaid : Prop := Claim7.holds Tryd.pinned (.plain (OpenSpec.ofChange charrefDecodeSpec)) charrefDecodeCard

/-- THE TIED CARD OF 'marginalialaw03.CharrefBack'. -/
def charrefBackCard : Claim7 := { stood := { row := charrefBackRow, standIns := [], harness := (true, "41621993d5873a6a7d110d0b4257b846a08387be175240bcd0c0863c9f062544"), looks := false }, kinds := [], alts := [], laidByText := true, laidKinds := [.data], laidTests := true, laidLooks := .later }
def CharrefBackCardSaid : Prop := Claim7.holds Tryd.pinned (.plain (OpenSpec.ofChange charrefBackSpec)) charrefBackCard

/-- THE TIED CARD OF 'marginalialaw03.CharrefParts'. -/
def charrefPartsCard : Claim7 := { stood := { row := charrefPartsRow, standIns := [], harness := (true, "41621993d5873a6a7d110d0b4257b846a08387be175240bcd0c0863c9f062544"), looks := false }, kinds := [], alts := [], laidByText := true, laidKinds := [.data], laidTests := true, laidLooks := .later }
def CharrefPartsCardSaid : Prop := Claim7.holds Tryd.pinned (.plain (OpenSpec.ofChange charrefPartsSpec)) charrefPartsCard

/-- THE SECOND FORM's CARD OF 'marginalialaw03.CharrefNamed'. -/
def charrefNamedUptoCard : Claim7 := { stood := { row := charrefNamedUptoRow, standIns := [], harness := (true, "41621993d5873a6a7d110d0b4257b846a08387be175240bcd0c0863c9f062544"), looks := false }, kinds := [], alts := [], laidByText := true, laidKinds := [.data], laidTests := true, laidLooks := .later }
def CharrefNamedUptoCardSaid : Prop := Claim7.holds Tryd.pinned (.plain (OpenSpec.upto charrefNamedSpec)) charrefNamedUptoCard

/-- THE SECOND FORM's CARD OF 'marginalialaw03.CharrefNumber'. -/
def charrefNumberUptoCard : Claim7 := { stood := { row := charrefNumberUptoRow, standIns := [], harness := (true, "41621993d5873a6a7d110d0b4257b846a08387be175240bcd0c0863c9f062544"), looks := false }, kinds := [], alts := [], laidByText := true, laidKinds := [.data], laidTests := true, laidLooks := .later }
def CharrefNumberUptoCardSaid : Prop := Claim7.holds Tryd.pinned (.plain (OpenSpec.upto charrefNumberSpec)) charrefNumberUptoCard

/-- THE SECOND FORM's CARD OF 'marginalialaw03.CharrefAt'. -/
def charrefAtUptoCard : Claim7 := { stood := { row := charrefAtUptoRow, standIns := [], harness := (true, "41621993d5873a6a7d110d0b4257b846a08387be175240bcd0c0863c9f062544"), looks := false }, kinds := [], alts := [], laidByText := true, laidKinds := [.data], laidTests := true, laidLooks := .later }
def CharrefAtUptoCardSaid : Prop := Claim7.holds Tryd.pinned (.plain (OpenSpec.upto charrefAtSpec)) charrefAtUptoCard

/-- THE SECOND FORM's CARD OF 'marginalialaw03.CharrefDecode'. -/
def charrefDecodeUptoCard : Claim7 := { stood := { row := charrefDecodeUptoRow, standIns := [], harness := (true, "41621993d5873a6a7d110d0b4257b846a08387be175240bcd0c0863c9f062544"), looks := false }, kinds := [], alts := [], laidByText := true, laidKinds := [.data], laidTests := true, laidLooks := .later }
def CharrefDecodeUptoCardSaid : Prop := Claim7.holds Tryd.pinned (.plain (OpenSpec.upto charrefDecodeSpec)) charrefDecodeUptoCard

/-- THE SECOND FORM's CARD OF 'marginalialaw03.CharrefBack'. -/
def charrefBackUptoCard : Claim7 := { stood := { row := charrefBackUptoRow, standIns := [], harness := (true, "41621993d5873a6a7d110d0b4257b846a08387be175240bcd0c0863c9f062544"), looks := false }, kinds := [], alts := [], laidByText := true, laidKinds := [.data], laidTests := true, laidLooks := .later }
def CharrefBackUptoCardSaid : Prop := Claim7.holds Tryd.pinned (.plain (OpenSpec.upto charrefBackSpec)) charrefBackUptoCard

/-- THE SECOND FORM's CARD OF 'marginalialaw03.CharrefParts'. -/
def charrefPartsUptoCard : Claim7 := { stood := { row := charrefPartsUptoRow, standIns := [], harness := (true, "41621993d5873a6a7d110d0b4257b846a08387be175240bcd0c0863c9f062544"), looks := false }, kinds := [], alts := [], laidByText := true, laidKinds := [.data], laidTests := true, laidLooks := .later }
def CharrefPartsUptoCardSaid : Prop := Claim7.holds Tryd.pinned (.plain (OpenSpec.upto charrefPartsSpec)) charrefPartsUptoCard
end Rows
end Go.Proofs.YtiapnmplfkghlaaDoor
