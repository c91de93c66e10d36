/- What the walks of stage 6 share. No function of the program in it. -/
import Derived.Test.YthoibenncjbkdaaDoorS6Plain
import Derived.Test.YthoibenncjbkdaaDoorProg
import Derived.WalkKit
import Derived.WalkSpells
import Derived.WalkLawsBesides
import Derived.Lib.IndexBytes
import Derived.Below
set_option linter.unusedVariables false
set_option linter.unusedSimpArgs false
set_option maxRecDepth 4000
namespace Go.Proofs.YthoibenncjbkdaaDoor.S6
open Go.RowKit

theorem hide {p : Prop} (h : p) : Hid p := h
theorem ret_bool {a b : Bool} (h : a = b) : Ending.returned (.bool a) = .returned (.bool b) := by rw [h]
theorem ret_int {k : IntKind} {a b : Int} (h : a = b) : Ending.returned (.int k a) = .returned (.int k b) := by rw [h]
theorem ne_lit (n : Nat) (k : Int) (h : (n : Int) ≠ k) : ((n : Int) == k) = false := beq_eq_false_iff_ne.2 h
theorem drop_cons (s : ByteArray) (k : Nat) (h : k < s.size) : s.data.toList.drop k = s[k] :: s.data.toList.drop (k + 1) := by
  have hk : k < s.data.toList.length := by
    rw [Array.length_toList]; exact h
  rw [List.drop_eq_getElem_cons hk]
  rfl
end Go.Proofs.YthoibenncjbkdaaDoor.S6
