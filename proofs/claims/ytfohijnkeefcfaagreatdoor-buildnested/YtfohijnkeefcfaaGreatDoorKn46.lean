import Derived.Test.YtfohijnkeefcfaaGreatDoorCards
import Derived.WalkKit
import Derived.ProofKit
import Derived.ChangeOld
import Derived.SevenTiedAt
import Derived.Deep.DeepHandedRow
set_option linter.unusedVariables false
set_option linter.unusedSimpArgs false
set_option maxRecDepth 100000
set_option maxHeartbeats 8000000
namespace Go.Proofs.YtfohijnkeefcfaaGreatDoor
theorem and_t {a b : Bool} (ha : a = true) (hb : b = true) : (a && b) = true := by rw [ha, hb]; rfl
theorem buildNested_laid : laidOutB Tryz.prog = true := by kernel_rfl
theorem buildNested_maps : mapsRowed Tryz.prog = true := by kernel_rfl
theorem buildNested_place : (Rows.buildNestedRow.inPlace == Tryz.prog.inPlace 3) = true := by kernel_rfl
theorem buildNested_follow : (Rows.buildNestedRow.unfollowed == Tryz.prog.unfollowed 3) = true := by kernel_rfl
theorem buildNested_recurse : (Rows.buildNestedRow.recurses == Tryz.prog.recurses 3) = true := by kernel_rfl
theorem buildNested_named : (Rows.buildNestedRow.named == Tryz.prog.varsNamed 3) = true := by kernel_rfl
theorem buildNested_tied : namedTie Tryz.prog Rows.buildNestedRow.named Rows.buildNestedSpec.vars = true := by kernel_rfl
theorem buildNested_heard : Tryz.prog.stopsHeard = true := by kernel_rfl
theorem buildNested_enter : Tryz.prog.mayEnter = true := by kernel_rfl
theorem buildNested_lifts : (Rows.buildNestedRow.lifted == Tryz.prog.liftsFinal) = true := by kernel_rfl
theorem buildNested_keys : (Rows.buildNestedRow.plainKeys == Tryz.prog.plainKeys) = true := by kernel_rfl
theorem buildNested_closed : joinedFacts Tryz.prog 3 Tryz.f3 Rows.buildNestedSpec Rows.buildNestedRow = true := by
  unfold joinedFacts
  repeat' (with_reducible refine and_t ?_ ?_)
  all_goals first | with_reducible exact buildNested_laid | with_reducible exact buildNested_maps | with_reducible exact buildNested_place | with_reducible exact buildNested_follow | with_reducible exact buildNested_recurse | with_reducible exact buildNested_named | with_reducible exact buildNested_tied | with_reducible exact buildNested_heard | with_reducible exact buildNested_enter | with_reducible exact buildNested_lifts | with_reducible exact buildNested_keys | (as_aux_lemma => kernel_rfl)
theorem buildNested_looks : false = Tryz.prog.looks [] := by kernel_rfl
theorem buildNested_goes : false = Rows.buildNestedRow.goesBy Tryz.prog := by kernel_rfl
end Go.Proofs.YtfohijnkeefcfaaGreatDoor
