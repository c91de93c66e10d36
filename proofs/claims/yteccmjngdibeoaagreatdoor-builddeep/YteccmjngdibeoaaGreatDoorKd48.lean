import Derived.Test.YteccmjngdibeoaaGreatDoorKd37
import Derived.Test.YteccmjngdibeoaaGreatDoorKd46
import Derived.Test.YteccmjngdibeoaaGreatDoorKd47
set_option linter.unusedVariables false
set_option maxRecDepth 4000
namespace Go.Proofs.YteccmjngdibeoaaGreatDoor.S4
open Go.RowKit
theorem env_of {W : World} (h : laidMetH Tryz.prog [("marginalia/charref.oldCodes", Rows.laid_marginalia_charref_oldCodes)] W) (hs : W.ShapedOpen Tryz.prog) : Env W := ⟨old_of_laid h, Tryz.laysM145.s1_3 W hs⟩
end Go.Proofs.YteccmjngdibeoaaGreatDoor.S4
