import Derived.Test.YtfohijnkeefcfaaGreatDoorKn30
import Derived.Test.YtfohijnkeefcfaaGreatDoorKn34
import Derived.Test.YtfohijnkeefcfaaGreatDoorKn47
set_option linter.unusedVariables false
set_option linter.unusedSimpArgs false
set_option maxRecDepth 100000
set_option maxHeartbeats 8000000
namespace Go.Proofs.YtfohijnkeefcfaaGreatDoor.S4
open Go.RowKit
theorem env_of {W : World} (h : laidMetH Tryz.prog [("marginalia/charref.oldCodes", Rows.laid_marginalia_charref_oldCodes)] W) (hs : W.ShapedOpen Tryz.prog) : Env W := ⟨old_of_laid h, Tryz.laysM145.s1_3 W hs⟩
end Go.Proofs.YtfohijnkeefcfaaGreatDoor.S4
