import Derived.Test.YteccmjngdibeoaaGreatDoorKp39
import Derived.Test.YteccmjngdibeoaaGreatDoorKp48
import Derived.Test.YteccmjngdibeoaaGreatDoorKp49
set_option linter.unusedVariables false
set_option maxRecDepth 4000
namespace Go.Proofs.YteccmjngdibeoaaGreatDoor.S4
open Go.RowKit
theorem env_of {W : World} (h : laidMetH Tryz.prog [("marginalia/charref.oldCodes", Rows.laid_marginalia_charref_oldCodes)] W) (hs : W.ShapedOpen Tryz.prog) : Env W := ⟨old_of_laid h, Tryz.laysM145.s1_3 W hs⟩
end Go.Proofs.YteccmjngdibeoaaGreatDoor.S4
