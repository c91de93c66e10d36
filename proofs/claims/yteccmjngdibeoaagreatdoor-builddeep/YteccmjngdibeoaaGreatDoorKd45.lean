import Derived.Test.YteccmjngdibeoaaGreatDoorCards
import Derived.WalkKit
import Derived.ProofKit
import Derived.ChangeOld
import Derived.SevenTiedAt
import Derived.Deep.DeepHandedRow
set_option linter.unusedVariables false
set_option maxRecDepth 100000
namespace Go.Proofs.YteccmjngdibeoaaGreatDoor
theorem and_t {a b : Bool} (ha : a = true) (hb : b = true) : (a && b) = true := by rw [ha, hb]; rfl
theorem buildDeep_laid : laidOutB Tryz.prog = true := by kernel_rfl
theorem buildDeep_maps : mapsRowed Tryz.prog = true := by kernel_rfl
theorem buildDeep_place : (Rows.buildDeepRow.inPlace == Tryz.prog.inPlace 5) = true := by kernel_rfl
theorem buildDeep_follow : (Rows.buildDeepRow.unfollowed == Tryz.prog.unfollowed 5) = true := by kernel_rfl
theorem buildDeep_recurse : (Rows.buildDeepRow.recurses == Tryz.prog.recurses 5) = true := by kernel_rfl
theorem buildDeep_named : (Rows.buildDeepRow.named == Tryz.prog.varsNamed 5) = true := by kernel_rfl
theorem buildDeep_tied : namedTie Tryz.prog Rows.buildDeepRow.named Rows.buildDeepSpec.vars = true := by kernel_rfl
theorem buildDeep_heard : Tryz.prog.stopsHeard = true := by kernel_rfl
theorem buildDeep_enter : Tryz.prog.mayEnter = true := by kernel_rfl
theorem buildDeep_lifts : (Rows.buildDeepRow.lifted == Tryz.prog.liftsFinal) = true := by kernel_rfl
theorem buildDeep_keys : (Rows.buildDeepRow.plainKeys == Tryz.prog.plainKeys) = true := by kernel_rfl
theorem buildDeep_closed : joinedFacts Tryz.prog 5 Tryz.f5 Rows.buildDeepSpec Rows.buildDeepRow = true := by
  unfold joinedFacts
  repeat' (with_reducible refine and_t ?_ ?_)
  all_goals first | with_reducible exact buildDeep_laid | with_reducible exact buildDeep_maps | with_reducible exact buildDeep_place | with_reducible exact buildDeep_follow | with_reducible exact buildDeep_recurse | with_reducible exact buildDeep_named | with_reducible exact buildDeep_tied | with_reducible exact buildDeep_heard | with_reducible exact buildDeep_enter | with_reducible exact buildDeep_lifts | with_reducible exact buildDeep_keys | (as_aux_lemma => kernel_rfl)
theorem buildDeep_looks : false = Tryz.prog.looks [] := by kernel_rfl
theorem buildDeep_goes : false = Rows.buildDeepRow.goesBy Tryz.prog := by kernel_rfl
end Go.Proofs.YteccmjngdibeoaaGreatDoor
