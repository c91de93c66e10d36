import Derived.Test.YtfohijnkeefcfaaGreatDoorKn04
import Derived.Test.YtfohijnkeefcfaaGreatDoorRows
import Derived.Lib.LaidTab
import Derived.LaidMore
import Derived.MakeChecks
set_option linter.unusedVariables false
set_option linter.unusedSimpArgs false
set_option maxRecDepth 100000
set_option maxHeartbeats 8000000
namespace Go.Proofs.YtfohijnkeefcfaaGreatDoor.S4
open Go.RowKit
theorem old_data : (Rows.laid_marginalia_charref_oldCodes : DataW Unit) = Lib.tabData .i32 (oldN.map fun (n : Nat) => (n : Int)) := by kernel_rfl
theorem old_of_laid {W : World} (h : laidMetH Tryz.prog [("marginalia/charref.oldCodes", Rows.laid_marginalia_charref_oldCodes)] W) : OldOk W := by
  rw [MakeChecks.laidMetH_plain _ _ _ (by kernel_rfl), old_data] at h
  have hg : Tryz.prog.globalNamed "marginalia/charref.oldCodes" = some 0 := by kernel_rfl
  have hT := Lib.tabIs_of_head hg (t := 202) (by kernel_rfl) Tryz.underlying202 Tryz.underlying21 (by kernel_rfl) (by kernel_rfl) h
  intro j hj
  have hc := hT.cell hg j (by rw [List.length_map]; exact hj)
  rw [hc]
  have hl : j < oldN.length := hj
  simp [List.getD_eq_getElem?_getD, List.getElem?_map, List.getElem?_eq_getElem hl]
end Go.Proofs.YtfohijnkeefcfaaGreatDoor.S4
