/- OpensHas's walk. -/
import Derived.Test.YtfknhpkpenhflaaLA6
import Derived.Test.YtfknhpkpenhflaaRC6
set_option linter.unusedVariables false
set_option linter.unusedSimpArgs false
namespace Go.Proofs.Ytfknhpkpenhflaa
open Go.RowKit

set_option maxHeartbeats 1000000 in
theorem opensHas_walk (l : List OV) (names : List (List UInt8)) (k : Int) (v u : Value) (w : World) (hO : IsO w v l) (hW : IsW w u names) :
    Calls Try.prog 4 #[v, u, .int .i64 k] w fun e w' => e = .returned (.bool true) ∧ Below w.heap.size w w' := by
  have H1 := hide alive_any
  by_cases hl : l.length ≤ 60 ∧ names.length ≤ 60
  · have H2 := hide (fun w1 (b : Below w.heap.size w w1) => has_any l (by omega) names (by omega) k v u w1 (hO.below b) (hW.below b))
    have H3 := hide (fun w1 (b : Below w.heap.size w w1) => rhas_any l (by omega) names (by omega) k v u w1 (hO.below b) (hW.below b))
    obtain ⟨a, c, rfl⟩ := isO_form hO
    obtain ⟨a2, c2, rfl⟩ := isW_form hW
    have HS := hide (small_any a a2 l.length names.length c c2)
    rw [decide_eq_true hl.1, decide_eq_true hl.2] at HS
    generalize hasZ l names k = V at *
    clear hO hW hl
    go_enter Try.func4, Try.ntmps4
    go_wp2_with fail
    refine (HS.out _).mono ?_
    rintro e w0 ⟨rfl, rfl⟩
    go_wp2_with fail
    refine (H1.out _).mono ?_
    rintro e w1 ⟨rfl, b1⟩
    go_wp2_with fail
    refine (H2.out _ b1).mono ?_
    rintro e w2 ⟨rfl, b2⟩
    have c2 := b1.trans (b2.mono b1.size)
    go_wp2_with fail
    refine (H3.out _ c2).mono ?_
    rintro e w3 ⟨rfl, b3⟩
    have c3 := c2.trans (b3.mono c2.size)
    go_wp2
    go_ret
    exact ⟨by simp, c3⟩
  · obtain ⟨a, c, rfl⟩ := isO_form hO
    obtain ⟨a2, c2, rfl⟩ := isW_form hW
    have HS := hide (small_any a a2 l.length names.length c c2)
    rw [show (decide (l.length ≤ 60) && decide (names.length ≤ 60)) = false by rw [Bool.and_eq_false_iff, decide_eq_false_iff_not, decide_eq_false_iff_not]; omega] at HS
    clear hO hW hl
    go_enter Try.func4, Try.ntmps4
    go_wp2_with fail
    refine (HS.out _).mono ?_
    rintro e w0 ⟨rfl, rfl⟩
    go_wp2_with fail
    refine (H1.out _).mono ?_
    rintro e w1 ⟨rfl, b1⟩
    go_wp2
    go_ret
    exact ⟨rfl, b1⟩
end Go.Proofs.Ytfknhpkpenhflaa
