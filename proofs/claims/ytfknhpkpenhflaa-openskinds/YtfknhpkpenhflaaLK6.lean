/- OpensKinds's walk. -/
import Derived.Test.YtfknhpkpenhflaaLA6
import Derived.Test.YtfknhpkpenhflaaRA6
set_option linter.unusedVariables false
set_option linter.unusedSimpArgs false
namespace Go.Proofs.Ytfknhpkpenhflaa
open Go.RowKit

/-- The element's box lies there as it was laid. -/
structure Kp (w : World) (id sp : Int) (nm : ByteArray) (w1 : World) : Prop where
  bel : Below w.heap.size w w1
  lt : w.heap.size < w1.heap.size
  c0 : w1.cell? ⟨w.heap.size, 0, none⟩ = some (.int .i64 id)
  c1 : w1.cell? ⟨w.heap.size, 1, none⟩ = some (.int .i64 sp)
  c2 : w1.cell? ⟨w.heap.size, 2, none⟩ = some (.string nm)
theorem Kp.next {w : World} {id sp : Int} {nm : ByteArray} {w1 w2 : World} (h : Hid (Kp w id sp nm w1)) (b : Below w1.heap.size w1 w2) : Hid (Kp w id sp nm w2) :=
  hide ⟨h.out.bel.trans (b.mono h.out.bel.size), Nat.lt_of_lt_of_le h.out.lt b.size, by rw [b.cell h.out.lt]; exact h.out.c0, by rw [b.cell h.out.lt]; exact h.out.c1, by rw [b.cell h.out.lt]; exact h.out.c2⟩
theorem kp_start (w : World) (id sp : Int) (nm : ByteArray) : Hid (Kp w id sp nm (w.alloc (.cells #[.int .i64 id, .int .i64 sp, .string nm] 24)).drew) := by
  obtain ⟨c0, c1, c2⟩ := box_cells w id sp nm (Below.refl _ _)
  exact hide ⟨(below_alloc w _).drew, by simp, c0, c1, c2⟩

set_option maxHeartbeats 4000000 in
theorem opensKinds_walk (id sp : Int) (nm : ByteArray) (k : Int) (w : World) :
    Calls Try.prog 3 #[.agg #[.int .i64 id, .int .i64 sp, .string nm], .int .i64 k] w fun e w' => e = .returned (.bool true) ∧ Below w.heap.size w w' := by
  have H1 := hide alive_any
  have H2 := hide (ends_any ⟨id, sp, nm⟩ k)
  have H3 := hide (rends_any ⟨id, sp, nm⟩ k)
  have H4 := hide (point_any ⟨id, sp, nm⟩)
  have H5 := hide (rpoint_any ⟨id, sp, nm⟩)
  have H6 := hide (special6_any ⟨id, sp, nm⟩)
  have H7 := hide (rspecial_any ⟨id, sp, nm⟩)
  generalize endsL ⟨id, sp, nm⟩ k = E at *
  generalize pointL ⟨id, sp, nm⟩ = P at *
  generalize specialL ⟨id, sp, nm⟩ = S at *
  simp only [] at H2 H3 H4 H5 H6 H7
  have KP := kp_start w id sp nm
  have HS : Hid (∀ W', Hid (Kp w id sp nm W') → W'.cell? ⟨w.heap.size, 0, none⟩ = some (.int .i64 id) ∧ W'.cell? ⟨w.heap.size, 1, none⟩ = some (.int .i64 sp) ∧ W'.cell? ⟨w.heap.size, 2, none⟩ = some (.string nm)) := hide fun W' h => ⟨h.out.c0, h.out.c1, h.out.c2⟩
  go_enter Try.func3, Try.ntmps3
  go_wp2_with fail
  go_region_held2 (fun W' => W'.cell? ⟨w.heap.size, 0, none⟩ = some (.int .i64 id) ∧ W'.cell? ⟨w.heap.size, 1, none⟩ = some (.int .i64 sp) ∧ W'.cell? ⟨w.heap.size, 2, none⟩ = some (.string nm)) (with_reducible exact HS.out _ (by with_reducible assumption)) (first | (go_at_call 9; refine (H1.out _).mono ?_; rintro e x1 ⟨rfl, b⟩; have KP1 := Kp.next KP b; clear b) | (go_at_call 10; refine (H2.out _).mono ?_; rintro e x2 ⟨rfl, b⟩; have KP2 := Kp.next (by with_reducible assumption) b; clear b) | (go_at_call 11; refine (H3.out _).mono ?_; rintro e x3 ⟨rfl, b⟩; have KP3 := Kp.next (by with_reducible assumption) b; clear b) | (go_at_call 12; refine (H4.out _).mono ?_; rintro e x4 ⟨rfl, b⟩; have KP4 := Kp.next (by with_reducible assumption) b; clear b) | (go_at_call 13; refine (H5.out _).mono ?_; rintro e x5 ⟨rfl, b⟩; have KP5 := Kp.next (by with_reducible assumption) b; clear b) | (go_at_call 14; refine (H6.out _).mono ?_; rintro e x6 ⟨rfl, b⟩; have KP6 := Kp.next (by with_reducible assumption) b; clear b) | (go_at_call 15; refine (H7.out _).mono ?_; rintro e x7 ⟨rfl, b⟩; have KP7 := Kp.next (by with_reducible assumption) b; clear b))
  all_goals
    go_wp2
    go_ret
    first
    | exact ⟨rfl, KP7.out.bel⟩
    | exact ⟨rfl, KP6.out.bel⟩
end Go.Proofs.Ytfknhpkpenhflaa
