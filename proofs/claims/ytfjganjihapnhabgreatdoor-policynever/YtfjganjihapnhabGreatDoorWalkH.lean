/- What the document's own In answers, of whatever list and name: is the name one of the list's pieces?; the world stays as it was. -/
import Derived.Test.YtfjganjihapnhabGreatDoorIw10
set_option linter.unusedVariables false
set_option linter.unusedSimpArgs false
set_option maxRecDepth 4000
namespace Go.Proofs.YtfjganjihapnhabGreatDoor
open Go.RowKit

theorem cut_eq (t n : ByteArray) (f k : Nat) : ((t.extract f k).toList == n.toList) = (n.data.toList == (t.extract f k).data.toList) := by
  rw [Lib.toList_data, Lib.toList_data]
  exact BEq.comm
theorem cut_more (t : ByteArray) (f k : Nat) (h : k < t.size) (hf : f ≤ k) : (t.extract f (k + 1)).data.toList = (t.extract f k).data.toList ++ [t[k]] := by
  rw [Lib.extract_data, Lib.extract_data, show k + 1 - f = k - f + 1 by omega, List.take_add_one, List.getElem?_drop, show f + (k - f) = k by omega]
  have hk : k < t.data.toList.length := by rw [← size_list]; exact h
  rw [List.getElem?_eq_getElem hk]
  rfl
theorem cut_none (t : ByteArray) (k : Nat) : (t.extract k k).data.toList = [] := by
  rw [Lib.extract_data, Nat.sub_self, List.take_zero]
theorem in_blank (cur r n : List UInt8) : amongL (piecesL cur (32 :: r)) n = (n == cur || amongL (piecesL [] r) n) := rfl
theorem in_other (cur r n : List UInt8) (c : UInt8) (h : c ≠ 32) : amongL (piecesL cur (c :: r)) n = amongL (piecesL (cur ++ [c]) r) n := by
  rw [piecesL, if_neg h]
theorem in_end (cur n : List UInt8) : amongL (piecesL cur []) n = (n == cur) := by
  show (n == cur || false) = _
  rw [Bool.or_false]
theorem byte_eq {c : UInt8} {n : Nat} (h : c.toNat = n) (d : UInt8) (hd : d.toNat = n) : c = d := UInt8.toNat_inj.1 (by rw [h, hd])
theorem eqNat (a b : Nat) (h : a = b) : ((a : Int) == (b : Int)) = true := beq_iff_eq.2 (by omega)
theorem neNat (a b : Nat) (h : a ≠ b) : ((a : Int) == (b : Int)) = false := beq_eq_false_iff_ne.2 (by omega)

end Go.Proofs.YtfjganjihapnhabGreatDoor
