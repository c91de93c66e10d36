/- From the row's condition and the world's shape to what the walks ask: the program's table of the numbers 128 to 159 stands as it was laid, and the library's variable holds some number. -/
import Derived.Test.YtlfjmgniflkapaaDoorOldLaid
import Derived.Test.YtlfjmgniflkapaaDoorMax
import Derived.Test.YtlfjmgniflkapaaDoorRdC
set_option linter.unusedVariables false
namespace Go.Proofs.YtlfjmgniflkapaaDoor
open Go.RowKit

theorem env_of {W : World} (h : laidMetH Tryd.prog [("marginalia/charref.oldCodes", Rows.laid_marginalia_charref_oldCodes)] W) (hs : W.ShapedOpen Tryd.prog) : Env W := ⟨old_of_laid h, Tryd.laysM145.s1_3 W hs⟩
end Go.Proofs.YtlfjmgniflkapaaDoor
