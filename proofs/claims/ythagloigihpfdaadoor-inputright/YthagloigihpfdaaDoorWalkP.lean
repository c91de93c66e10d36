/- What the document's Piece answers, nothing that was there being written. -/
import Derived.Test.YthagloigihpfdaaDoorWalkD
import Derived.Test.YthagloigihpfdaaDoorPieces
import Derived.WalkSmall
set_option linter.unusedVariables false
set_option linter.unusedSimpArgs false
namespace Go.Proofs.YthagloigihpfdaaDoor
open Go.RowKit

theorem size_list' (s : ByteArray) : s.size = s.data.toList.length := by
  rw [Array.length_toList]; rfl
theorem drop_ne' {l : List UInt8} {p : Nat} (h : p < l.length) : l.drop p ≠ [] := by
  intro e
  have := congrArg List.length e
  simp at this
  omega
theorem drewN_below (w : World) (n : Nat) : Below w.heap.size w (w.drewN n) := below_drewN (Below.refl _ w) n

theorem piece_below (s : ByteArray) (at' B : Nat) (hs : s.size ≤ 1000000) (h0 : at' < s.size) (w : World) :
    Calls Tryd.prog 28 #[.string s, .int .i64 (at' : Int)] w fun e w' => e = .returned (.tuple #[.int .i64 (pieceL (s.data.toList.drop at') : Nat), .bool (goodL (s.data.toList.drop at'))]) ∧ Below B w w' := by
  refine (piece_any s at' hs h0 w).mono ?_
  rintro e w' ⟨rfl, n, rfl⟩
  exact ⟨rfl, below_drewN (Below.refl _ w) n⟩

end Go.Proofs.YthagloigihpfdaaDoor
