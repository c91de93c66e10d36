import Derived.Test.YtpppdfjdngmaoaaGreatDoorCards
import Derived.WalkKit
import Derived.ProofKit
import Derived.ChangeOld
import Derived.SevenTiedAt
import Derived.Deep.DeepHandedRow
set_option linter.unusedVariables false
set_option linter.unusedSimpArgs false
set_option maxRecDepth 100000
set_option maxHeartbeats 8000000
namespace Go.Proofs.YtpppdfjdngmaoaaGreatDoor
theorem and_t {a b : Bool} (ha : a = true) (hb : b = true) : (a && b) = true := by rw [ha, hb]; rfl
theorem printAgain_laid : laidOutB Tryz.prog = true := by kernel_rfl
theorem printAgain_maps : mapsRowed Tryz.prog = true := by kernel_rfl
theorem printAgain_place : (Rows.printAgainRow.inPlace == Tryz.prog.inPlace 7) = true := by kernel_rfl
theorem printAgain_follow : (Rows.printAgainRow.unfollowed == Tryz.prog.unfollowed 7) = true := by kernel_rfl
theorem printAgain_recurse : (Rows.printAgainRow.recurses == Tryz.prog.recurses 7) = true := by kernel_rfl
theorem printAgain_named : (Rows.printAgainRow.named == Tryz.prog.varsNamed 7) = true := by kernel_rfl
theorem printAgain_tied : namedTie Tryz.prog Rows.printAgainRow.named Rows.printAgainSpec.vars = true := by kernel_rfl
theorem printAgain_heard : Tryz.prog.stopsHeard = true := by kernel_rfl
theorem printAgain_enter : Tryz.prog.mayEnter = true := by kernel_rfl
theorem printAgain_lifts : (Rows.printAgainRow.lifted == Tryz.prog.liftsFinal) = true := by kernel_rfl
theorem printAgain_keys : (Rows.printAgainRow.plainKeys == Tryz.prog.plainKeys) = true := by kernel_rfl
theorem printAgain_closed : joinedFacts Tryz.prog 7 Tryz.f7 Rows.printAgainSpec Rows.printAgainRow = true := by
  unfold joinedFacts
  repeat' (with_reducible refine and_t ?_ ?_)
  all_goals first | with_reducible exact printAgain_laid | with_reducible exact printAgain_maps | with_reducible exact printAgain_place | with_reducible exact printAgain_follow | with_reducible exact printAgain_recurse | with_reducible exact printAgain_named | with_reducible exact printAgain_tied | with_reducible exact printAgain_heard | with_reducible exact printAgain_enter | with_reducible exact printAgain_lifts | with_reducible exact printAgain_keys | (as_aux_lemma => kernel_rfl)
theorem printAgain_looks : false = Tryz.prog.looks [] := by kernel_rfl
theorem printAgain_goes : false = Rows.printAgainRow.goesBy Tryz.prog := by kernel_rfl
end Go.Proofs.YtpppdfjdngmaoaaGreatDoor
