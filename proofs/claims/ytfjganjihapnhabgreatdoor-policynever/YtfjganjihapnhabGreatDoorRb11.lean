/- What the document's own rule answers; nothing that was there is written. -/
import Derived.Test.YtfjganjihapnhabGreatDoorRa11
set_option linter.unusedVariables false
set_option linter.unusedSimpArgs false
set_option maxRecDepth 4000
namespace Go.Proofs.YtfjganjihapnhabGreatDoor
open Go.RowKit

theorem any_stepA (l : List Bs) (k : Nat) (h : k < l.length) : (l.drop k).any badA = (badA l[k] || (l.drop (k + 1)).any badA) := by
  rw [List.drop_eq_getElem_cons h]; rfl
theorem any_endA (l : List Bs) (k : Nat) (h : l.length ≤ k) : (l.drop k).any badA = false := by
  rw [List.drop_eq_nil_of_le h]; rfl
def oddT : Bs := [109, 97, 116, 104, 32, 110, 111, 115, 99, 114, 105, 112, 116, 32, 112, 108, 97, 105, 110, 116, 101, 120, 116, 32, 115, 118, 103, 32, 116, 101, 109, 112, 108, 97, 116, 101]
theorem odd_pieces : piecesL [] oddT = oddN := by decide +kernel
end Go.Proofs.YtfjganjihapnhabGreatDoor
