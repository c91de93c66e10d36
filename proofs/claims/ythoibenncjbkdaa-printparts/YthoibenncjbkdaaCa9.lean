/- Texts joined. -/
import Derived.Test.YthoibenncjbkdaaDe9
set_option linter.unusedVariables false
set_option linter.unusedSimpArgs false
set_option maxRecDepth 4000
namespace Go.Proofs.Ythoibenncjbkdaa
open Go.RowKit

theorem cat_run (a b : ByteArray) (h : a.size + b.size ≤ 100000000) (W : World) : (binOp .add 9 (.string a) (.string b)).run Try.prog W = .ok (.string (a ++ b)) W := by
  have h2 : ¬ maxLen < a.size + b.size := by unfold maxLen; omega
  have h3 : ¬ 9223372036854775807 < a.size + b.size := by omega
  simp [binOp, Op.stringOp, go_sem, h2, h3]
  omega
end Go.Proofs.Ythoibenncjbkdaa
