import Derived.Test.YtpppdfjdngmaoaaGreatDoorCards
import Derived.WalkKit
import Derived.ProofKit
import Derived.ChangeOld
import Derived.SevenTiedAt
import Derived.Deep.DeepHandedRow
set_option linter.unusedVariables false
set_option linter.unusedSimpArgs false
set_option maxRecDepth 100000
set_option maxHeartbeats 8000000
namespace Go.Proofs.YtpppdfjdngmaoaaGreatDoor
theorem and_t {a b : Bool} (ha : a = true) (hb : b = true) : (a && b) = true := by rw [ha, hb]; rfl
theorem buildCounts_laid : laidOutB Tryz.prog = true := by kernel_rfl
theorem buildCounts_maps : mapsRowed Tryz.prog = true := by kernel_rfl
theorem buildCounts_place : (Rows.buildCountsRow.inPlace == Tryz.prog.inPlace 3) = true := by kernel_rfl
theorem buildCounts_follow : (Rows.buildCountsRow.unfollowed == Tryz.prog.unfollowed 3) = true := by kernel_rfl
theorem buildCounts_recurse : (Rows.buildCountsRow.recurses == Tryz.prog.recurses 3) = true := by kernel_rfl
theorem buildCounts_named : (Rows.buildCountsRow.named == Tryz.prog.varsNamed 3) = true := by kernel_rfl
theorem buildCounts_tied : namedTie Tryz.prog Rows.buildCountsRow.named Rows.buildCountsSpec.vars = true := by kernel_rfl
theorem buildCounts_heard : Tryz.prog.stopsHeard = true := by kernel_rfl
theorem buildCounts_enter : Tryz.prog.mayEnter = true := by kernel_rfl
theorem buildCounts_lifts : (Rows.buildCountsRow.lifted == Tryz.prog.liftsFinal) = true := by kernel_rfl
theorem buildCounts_keys : (Rows.buildCountsRow.plainKeys == Tryz.prog.plainKeys) = true := by kernel_rfl
theorem buildCounts_closed : joinedFacts Tryz.prog 3 Tryz.f3 Rows.buildCountsSpec Rows.buildCountsRow = true := by
  unfold joinedFacts
  repeat' (with_reducible refine and_t ?_ ?_)
  all_goals first | with_reducible exact buildCounts_laid | with_reducible exact buildCounts_maps | with_reducible exact buildCounts_place | with_reducible exact buildCounts_follow | with_reducible exact buildCounts_recurse | with_reducible exact buildCounts_named | with_reducible exact buildCounts_tied | with_reducible exact buildCounts_heard | with_reducible exact buildCounts_enter | with_reducible exact buildCounts_lifts | with_reducible exact buildCounts_keys | (as_aux_lemma => kernel_rfl)
theorem buildCounts_looks : false = Tryz.prog.looks [] := by kernel_rfl
theorem buildCounts_goes : false = Rows.buildCountsRow.goesBy Tryz.prog := by kernel_rfl
end Go.Proofs.YtpppdfjdngmaoaaGreatDoor
