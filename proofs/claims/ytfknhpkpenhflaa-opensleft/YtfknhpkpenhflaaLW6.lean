/- OpensWider's walk. -/
import Derived.Test.YtfknhpkpenhflaaLA6
set_option linter.unusedVariables false
set_option linter.unusedSimpArgs false
namespace Go.Proofs.Ytfknhpkpenhflaa
open Go.RowKit

theorem not_small (l : List OV) (names : List (List UInt8)) (hl : ¬ (l.length ≤ 60 ∧ names.length ≤ 60)) : (decide (l.length ≤ 60) && decide (names.length ≤ 60)) = false := by
  rw [Bool.and_eq_false_iff, decide_eq_false_iff_not, decide_eq_false_iff_not]; omega
set_option maxHeartbeats 4000000 in
theorem opensWider_walk (l : List OV) (names : List (List UInt8)) (v u : Value) (w : World) (hO : IsO w v l) (hW : IsW w u names) :
    Calls Try.prog 6 #[v, u] w fun e w' => e = .returned (.bool true) ∧ Below w.heap.size w w' := by
  have H1 := hide alive_any
  by_cases hl : l.length ≤ 60 ∧ names.length ≤ 60
  · have H2 := hide (fun w1 (b : Below w.heap.size w w1) => has_any l (by omega) names (by omega) 1 v u w1 (hO.below b) (hW.below b))
    have H3 := hide (fun w1 (b : Below w.heap.size w w1) => has_any l (by omega) names (by omega) 2 v u w1 (hO.below b) (hW.below b))
    have H4 := hide (fun w1 (b : Below w.heap.size w w1) => has_any l (by omega) names (by omega) 3 v u w1 (hO.below b) (hW.below b))
    have H5 := hide (fun w1 (b : Below w.heap.size w w1) => has_any l (by omega) names (by omega) 4 v u w1 (hO.below b) (hW.below b))
    have H6 := hide (fun w1 (b : Below w.heap.size w w1) => cut_any l (by omega) names (by omega) v u w1 (hO.below b) (hW.below b))
    have p2 : hasZ l names 2 = true → hasZ l names 1 = true := has_wider names 2 (.inl rfl) l _ (Nat.le_refl _)
    have p3 : hasZ l names 3 = true → hasZ l names 1 = true := has_wider names 3 (.inr rfl) l _ (Nat.le_refl _)
    have q1 : hasZ l names 1 = true → 0 ≤ cutZ l names := has_cut names 1 l _ (Nat.le_refl _)
    have q4 : hasZ l names 4 = true → 0 ≤ cutZ l names := has_cut names 4 l _ (Nat.le_refl _)
    have hr : -1 ≤ cutZ l names ∧ cutZ l names < l.length := place_range (namedL names) l
    obtain ⟨a, c, rfl⟩ := isO_form hO
    obtain ⟨a2, c2, rfl⟩ := isW_form hW
    have HS := hide (small_any a a2 l.length names.length c c2)
    rw [decide_eq_true hl.1, decide_eq_true hl.2] at HS
    generalize hasZ l names 1 = V1 at *
    generalize hasZ l names 2 = V2 at *
    generalize hasZ l names 3 = V3 at *
    generalize hasZ l names 4 = V4 at *
    generalize cutZ l names = Z at *
    have hZ1 : ¬ ((l.length : Int) ≤ Z) := by omega
    have hZ0 : (V1 || V4) = true → ¬ (Z < 0) := by
      intro h
      rcases Bool.or_eq_true_iff.1 h with h | h
      · have := q1 h; omega
      · have := q4 h; omega
    clear hO hW hl q1 q4 hr
    cases V1 <;> cases V2 <;> cases V3 <;> cases V4
    all_goals try (exfalso; first | exact Bool.false_ne_true (p2 rfl) | exact Bool.false_ne_true (p3 rfl))
    all_goals try (have hZ2 := hZ0 rfl)
    all_goals clear p2 p3 hZ0
    all_goals
      go_enter Try.func6, Try.ntmps6
      go_wp2_with fail
      refine (HS.out _).mono ?_
      rintro e w0 ⟨rfl, rfl⟩
      go_wp2_with fail
      refine (H2.out _ (Below.refl _ _)).mono ?_
      rintro e w2 ⟨rfl, b2⟩
      go_wp2_with fail
      refine (H3.out _ b2).mono ?_
      rintro e w3 ⟨rfl, b3⟩
      have c3 := b2.trans (b3.mono b2.size)
      clear b2 b3
      go_wp2_with fail
      refine (H4.out _ c3).mono ?_
      rintro e w4 ⟨rfl, b4⟩
      have c4 := c3.trans (b4.mono c3.size)
      clear c3 b4
      go_wp2_with fail
      refine (H5.out _ c4).mono ?_
      rintro e w5 ⟨rfl, b5⟩
      have c5 := c4.trans (b5.mono c4.size)
      clear c4 b5
      go_wp2_with fail
      refine (H6.out _ c5).mono ?_
      rintro e w6 ⟨rfl, b6⟩
      have c6 := c5.trans (b6.mono c5.size)
      clear c5 b6
      go_wp2_with fail
      refine (H1.out _).mono ?_
      rintro e w7 ⟨rfl, b7⟩
      have c7 := c6.trans (b7.mono c6.size)
      clear c6 b7
      go_wp2
      go_ret
      refine ⟨?_, c7⟩
      first
      | rfl
      | exact ret_bool (by rw [decide_eq_false (by omega)]; rfl)
  · obtain ⟨a, c, rfl⟩ := isO_form hO
    obtain ⟨a2, c2, rfl⟩ := isW_form hW
    have HS := hide (small_any a a2 l.length names.length c c2)
    rw [not_small l names hl] at HS
    clear hO hW hl
    go_enter Try.func6, Try.ntmps6
    go_wp2_with fail
    refine (HS.out _).mono ?_
    rintro e w0 ⟨rfl, rfl⟩
    go_wp2_with fail
    refine (H1.out _).mono ?_
    rintro e w1 ⟨rfl, b1⟩
    go_wp2
    go_ret
    exact ⟨rfl, b1⟩
end Go.Proofs.Ytfknhpkpenhflaa
