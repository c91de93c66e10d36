import Derived.Test.YteccmjngdibeoaaGreatDoorCards
import Derived.WalkKit
import Derived.ProofKit
import Derived.ChangeOld
import Derived.SevenTiedAt
import Derived.Deep.DeepHandedRow
set_option linter.unusedVariables false
set_option maxRecDepth 100000
namespace Go.Proofs.YteccmjngdibeoaaGreatDoor
theorem and_t {a b : Bool} (ha : a = true) (hb : b = true) : (a && b) = true := by rw [ha, hb]; rfl
theorem buildPlain_laid : laidOutB Tryz.prog = true := by kernel_rfl
theorem buildPlain_maps : mapsRowed Tryz.prog = true := by kernel_rfl
theorem buildPlain_place : (Rows.buildPlainRow.inPlace == Tryz.prog.inPlace 6) = true := by kernel_rfl
theorem buildPlain_follow : (Rows.buildPlainRow.unfollowed == Tryz.prog.unfollowed 6) = true := by kernel_rfl
theorem buildPlain_recurse : (Rows.buildPlainRow.recurses == Tryz.prog.recurses 6) = true := by kernel_rfl
theorem buildPlain_named : (Rows.buildPlainRow.named == Tryz.prog.varsNamed 6) = true := by kernel_rfl
theorem buildPlain_tied : namedTie Tryz.prog Rows.buildPlainRow.named Rows.buildPlainSpec.vars = true := by kernel_rfl
theorem buildPlain_heard : Tryz.prog.stopsHeard = true := by kernel_rfl
theorem buildPlain_enter : Tryz.prog.mayEnter = true := by kernel_rfl
theorem buildPlain_lifts : (Rows.buildPlainRow.lifted == Tryz.prog.liftsFinal) = true := by kernel_rfl
theorem buildPlain_keys : (Rows.buildPlainRow.plainKeys == Tryz.prog.plainKeys) = true := by kernel_rfl
theorem buildPlain_closed : joinedFacts Tryz.prog 6 Tryz.f6 Rows.buildPlainSpec Rows.buildPlainRow = true := by
  unfold joinedFacts
  repeat' (with_reducible refine and_t ?_ ?_)
  all_goals first | with_reducible exact buildPlain_laid | with_reducible exact buildPlain_maps | with_reducible exact buildPlain_place | with_reducible exact buildPlain_follow | with_reducible exact buildPlain_recurse | with_reducible exact buildPlain_named | with_reducible exact buildPlain_tied | with_reducible exact buildPlain_heard | with_reducible exact buildPlain_enter | with_reducible exact buildPlain_lifts | with_reducible exact buildPlain_keys | (as_aux_lemma => kernel_rfl)
theorem buildPlain_looks : false = Tryz.prog.looks [] := by kernel_rfl
theorem buildPlain_goes : false = Rows.buildPlainRow.goesBy Tryz.prog := by kernel_rfl
end Go.Proofs.YteccmjngdibeoaaGreatDoor
