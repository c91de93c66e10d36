/- What Space, Letter, Figure and great answer, the program's and the document's own: of whatever byte; the world stays as it was. -/
import Derived.Test.YtnbhcnpmbilflaaPlain
import Derived.Test.YtnbhcnpmbilflaaProg
import Derived.WalkKit
import Derived.WalkSpells
import Derived.WalkLawsBesides
set_option linter.unusedVariables false
set_option linter.unusedSimpArgs false
namespace Go.Proofs.Ytnbhcnpmbilflaa
open Go.RowKit

theorem hide {p : Prop} (h : p) : Hid p := h
theorem ret_bool {a b : Bool} (h : a = b) : Ending.returned (.bool a) = .returned (.bool b) := by rw [h]
theorem ret_str {a b : List UInt8} (h : a = b) : Ending.returned (.string ⟨a.toArray⟩) = .returned (.string ⟨b.toArray⟩) := by rw [h]
theorem ret_int {k : IntKind} {a b : Int} (h : a = b) : Ending.returned (.int k a) = .returned (.int k b) := by rw [h]

theorem ne_lit (n : Nat) (k : Int) (h : (n : Int) ≠ k) : ((n : Int) == k) = false := beq_eq_false_iff_ne.2 h

set_option maxHeartbeats 1000000 in
theorem space_any (n : Nat) (w : World) :
    Calls Try.prog 9 #[.int .u8 (n : Int)] w fun e w' => e = .returned (.bool (spaceN n)) ∧ w' = w := by
  by_cases h1 : n = 9
  · subst h1; go_enter Try.func9, Try.ntmps9; go_wp2; go_ret; exact ⟨rfl, rfl⟩
  by_cases h2 : n = 10
  · subst h2; go_enter Try.func9, Try.ntmps9; go_wp2; go_ret; exact ⟨rfl, rfl⟩
  by_cases h3 : n = 12
  · subst h3; go_enter Try.func9, Try.ntmps9; go_wp2; go_ret; exact ⟨rfl, rfl⟩
  by_cases h4 : n = 13
  · subst h4; go_enter Try.func9, Try.ntmps9; go_wp2; go_ret; exact ⟨rfl, rfl⟩
  by_cases h5 : n = 32
  · subst h5; go_enter Try.func9, Try.ntmps9; go_wp2; go_ret; exact ⟨rfl, rfl⟩
  have e1 := ne_lit n 9 (by omega)
  have e2 := ne_lit n 10 (by omega)
  have e3 := ne_lit n 12 (by omega)
  have e4 := ne_lit n 13 (by omega)
  have e5 := ne_lit n 32 (by omega)
  have hv : spaceN n = false := by simp [spaceN, h1, h2, h3, h4, h5]
  rw [hv]
  clear hv h1 h2 h3 h4 h5
  go_enter Try.func9, Try.ntmps9
  go_wp2
  go_ret
  exact ⟨rfl, rfl⟩

set_option maxHeartbeats 1000000 in
theorem rspace_any (n : Nat) (w : World) :
    Calls Try.prog 10 #[.int .u8 (n : Int)] w fun e w' => e = .returned (.bool (spaceN n)) ∧ w' = w := by
  by_cases h1 : n = 9
  · subst h1; go_enter Try.func10, Try.ntmps10; go_wp2; go_ret; exact ⟨rfl, rfl⟩
  by_cases h2 : n = 10
  · subst h2; go_enter Try.func10, Try.ntmps10; go_wp2; go_ret; exact ⟨rfl, rfl⟩
  by_cases h3 : n = 12
  · subst h3; go_enter Try.func10, Try.ntmps10; go_wp2; go_ret; exact ⟨rfl, rfl⟩
  by_cases h4 : n = 13
  · subst h4; go_enter Try.func10, Try.ntmps10; go_wp2; go_ret; exact ⟨rfl, rfl⟩
  by_cases h5 : n = 32
  · subst h5; go_enter Try.func10, Try.ntmps10; go_wp2; go_ret; exact ⟨rfl, rfl⟩
  have e1 := ne_lit n 9 (by omega)
  have e2 := ne_lit n 10 (by omega)
  have e3 := ne_lit n 12 (by omega)
  have e4 := ne_lit n 13 (by omega)
  have e5 := ne_lit n 32 (by omega)
  have hv : spaceN n = false := by simp [spaceN, h1, h2, h3, h4, h5]
  rw [hv]
  clear hv h1 h2 h3 h4 h5
  go_enter Try.func10, Try.ntmps10
  go_wp2
  go_ret
  exact ⟨rfl, rfl⟩

set_option maxHeartbeats 1000000 in
theorem great_any (n : Nat) (w : World) :
    Calls Try.prog 21 #[.int .u8 (n : Int)] w fun e w' => e = .returned (.bool (greatN n)) ∧ w' = w := by
  rcases (by omega : (n < 65) ∨ (65 ≤ n ∧ n ≤ 90) ∨ (90 < n)) with h | h | h
  · have hv : greatN n = false := by simp [letterN, greatN, figureN]; omega
    rw [hv]
    clear hv
    have d0 : ¬ ((65 : Int) ≤ n) := by omega
    clear h
    go_enter Try.func21, Try.ntmps21
    go_wp2
    go_ret
    exact ⟨by first | rfl | (simp; omega), rfl⟩
  · have hv : greatN n = true := by simp [letterN, greatN, figureN]; omega
    rw [hv]
    clear hv
    have d0 : ((65 : Int) ≤ n) := by omega
    have d1 : ((n : Int) ≤ 90) := by omega
    clear h
    go_enter Try.func21, Try.ntmps21
    go_wp2
    go_ret
    exact ⟨by first | rfl | (simp; omega), rfl⟩
  · have hv : greatN n = false := by simp [letterN, greatN, figureN]; omega
    rw [hv]
    clear hv
    have d0 : ((65 : Int) ≤ n) := by omega
    have d1 : ¬ ((n : Int) ≤ 90) := by omega
    clear h
    go_enter Try.func21, Try.ntmps21
    go_wp2
    go_ret
    exact ⟨by first | rfl | (simp; omega), rfl⟩

set_option maxHeartbeats 1000000 in
theorem figure_any (n : Nat) (w : World) :
    Calls Try.prog 13 #[.int .u8 (n : Int)] w fun e w' => e = .returned (.bool (figureN n)) ∧ w' = w := by
  rcases (by omega : (n < 48) ∨ (48 ≤ n ∧ n ≤ 57) ∨ (57 < n)) with h | h | h
  · have hv : figureN n = false := by simp [letterN, greatN, figureN]; omega
    rw [hv]
    clear hv
    have d0 : ¬ ((48 : Int) ≤ n) := by omega
    clear h
    go_enter Try.func13, Try.ntmps13
    go_wp2
    go_ret
    exact ⟨by first | rfl | (simp; omega), rfl⟩
  · have hv : figureN n = true := by simp [letterN, greatN, figureN]; omega
    rw [hv]
    clear hv
    have d0 : ((48 : Int) ≤ n) := by omega
    have d1 : ((n : Int) ≤ 57) := by omega
    clear h
    go_enter Try.func13, Try.ntmps13
    go_wp2
    go_ret
    exact ⟨by first | rfl | (simp; omega), rfl⟩
  · have hv : figureN n = false := by simp [letterN, greatN, figureN]; omega
    rw [hv]
    clear hv
    have d0 : ((48 : Int) ≤ n) := by omega
    have d1 : ¬ ((n : Int) ≤ 57) := by omega
    clear h
    go_enter Try.func13, Try.ntmps13
    go_wp2
    go_ret
    exact ⟨by first | rfl | (simp; omega), rfl⟩

set_option maxHeartbeats 1000000 in
theorem rfigure_any (n : Nat) (w : World) :
    Calls Try.prog 14 #[.int .u8 (n : Int)] w fun e w' => e = .returned (.bool (figureN n)) ∧ w' = w := by
  rcases (by omega : (n < 48) ∨ (48 ≤ n ∧ n ≤ 57) ∨ (57 < n)) with h | h | h
  · have hv : figureN n = false := by simp [letterN, greatN, figureN]; omega
    rw [hv]
    clear hv
    have d0 : ¬ ((48 : Int) ≤ n) := by omega
    clear h
    go_enter Try.func14, Try.ntmps14
    go_wp2
    go_ret
    exact ⟨by first | rfl | (simp; omega), rfl⟩
  · have hv : figureN n = true := by simp [letterN, greatN, figureN]; omega
    rw [hv]
    clear hv
    have d0 : ((48 : Int) ≤ n) := by omega
    have d1 : ((n : Int) ≤ 57) := by omega
    clear h
    go_enter Try.func14, Try.ntmps14
    go_wp2
    go_ret
    exact ⟨by first | rfl | (simp; omega), rfl⟩
  · have hv : figureN n = false := by simp [letterN, greatN, figureN]; omega
    rw [hv]
    clear hv
    have d0 : ((48 : Int) ≤ n) := by omega
    have d1 : ¬ ((n : Int) ≤ 57) := by omega
    clear h
    go_enter Try.func14, Try.ntmps14
    go_wp2
    go_ret
    exact ⟨by first | rfl | (simp; omega), rfl⟩

set_option maxHeartbeats 1000000 in
theorem letter_any (n : Nat) (w : World) :
    Calls Try.prog 11 #[.int .u8 (n : Int)] w fun e w' => e = .returned (.bool (letterN n)) ∧ w' = w := by
  rcases (by omega : (n < 65) ∨ (65 ≤ n ∧ n ≤ 90) ∨ (90 < n ∧ n < 97) ∨ (97 ≤ n ∧ n ≤ 122) ∨ (122 < n)) with h | h | h | h | h
  · have hv : letterN n = false := by simp [letterN, greatN, figureN]; omega
    rw [hv]
    clear hv
    have d0 : ¬ ((97 : Int) ≤ n) := by omega
    have hg : greatN n = false := by simp [greatN]; omega
    have H := hide (great_any n)
    rw [hg] at H
    clear hg
    clear h
    go_enter Try.func11, Try.ntmps11
    go_wp2_with fail
    refine (H.out _).mono ?_
    rintro e w1 ⟨rfl, rfl⟩
    go_wp2
    go_ret
    exact ⟨by first | rfl | (simp; omega), rfl⟩
  · have hv : letterN n = true := by simp [letterN, greatN, figureN]; omega
    rw [hv]
    clear hv
    have hg : greatN n = true := by simp [greatN]; omega
    have H := hide (great_any n)
    rw [hg] at H
    clear hg
    clear h
    go_enter Try.func11, Try.ntmps11
    go_wp2_with fail
    refine (H.out _).mono ?_
    rintro e w1 ⟨rfl, rfl⟩
    go_wp2
    go_ret
    exact ⟨by first | rfl | (simp; omega), rfl⟩
  · have hv : letterN n = false := by simp [letterN, greatN, figureN]; omega
    rw [hv]
    clear hv
    have d0 : ¬ ((97 : Int) ≤ n) := by omega
    have hg : greatN n = false := by simp [greatN]; omega
    have H := hide (great_any n)
    rw [hg] at H
    clear hg
    clear h
    go_enter Try.func11, Try.ntmps11
    go_wp2_with fail
    refine (H.out _).mono ?_
    rintro e w1 ⟨rfl, rfl⟩
    go_wp2
    go_ret
    exact ⟨by first | rfl | (simp; omega), rfl⟩
  · have hv : letterN n = true := by simp [letterN, greatN, figureN]; omega
    rw [hv]
    clear hv
    have d0 : ((97 : Int) ≤ n) := by omega
    have d1 : ((n : Int) ≤ 122) := by omega
    have hg : greatN n = false := by simp [greatN]; omega
    have H := hide (great_any n)
    rw [hg] at H
    clear hg
    clear h
    go_enter Try.func11, Try.ntmps11
    go_wp2_with fail
    refine (H.out _).mono ?_
    rintro e w1 ⟨rfl, rfl⟩
    go_wp2
    go_ret
    exact ⟨by first | rfl | (simp; omega), rfl⟩
  · have hv : letterN n = false := by simp [letterN, greatN, figureN]; omega
    rw [hv]
    clear hv
    have d0 : ((97 : Int) ≤ n) := by omega
    have d1 : ¬ ((n : Int) ≤ 122) := by omega
    have hg : greatN n = false := by simp [greatN]; omega
    have H := hide (great_any n)
    rw [hg] at H
    clear hg
    clear h
    go_enter Try.func11, Try.ntmps11
    go_wp2_with fail
    refine (H.out _).mono ?_
    rintro e w1 ⟨rfl, rfl⟩
    go_wp2
    go_ret
    exact ⟨by first | rfl | (simp; omega), rfl⟩

set_option maxHeartbeats 1000000 in
theorem rletter_any (n : Nat) (w : World) :
    Calls Try.prog 12 #[.int .u8 (n : Int)] w fun e w' => e = .returned (.bool (letterN n)) ∧ w' = w := by
  rcases (by omega : (n < 65) ∨ (65 ≤ n ∧ n ≤ 90) ∨ (90 < n ∧ n < 97) ∨ (97 ≤ n ∧ n ≤ 122) ∨ (122 < n)) with h | h | h | h | h
  · have hv : letterN n = false := by simp [letterN, greatN, figureN]; omega
    rw [hv]
    clear hv
    have d0 : ¬ ((65 : Int) ≤ n) := by omega
    have d1 : ¬ ((97 : Int) ≤ n) := by omega
    clear h
    go_enter Try.func12, Try.ntmps12
    go_wp2
    go_ret
    exact ⟨by first | rfl | (simp; omega), rfl⟩
  · have hv : letterN n = true := by simp [letterN, greatN, figureN]; omega
    rw [hv]
    clear hv
    have d0 : ((65 : Int) ≤ n) := by omega
    have d1 : ((n : Int) ≤ 90) := by omega
    clear h
    go_enter Try.func12, Try.ntmps12
    go_wp2
    go_ret
    exact ⟨by first | rfl | (simp; omega), rfl⟩
  · have hv : letterN n = false := by simp [letterN, greatN, figureN]; omega
    rw [hv]
    clear hv
    have d0 : ((65 : Int) ≤ n) := by omega
    have d1 : ¬ ((n : Int) ≤ 90) := by omega
    have d2 : ¬ ((97 : Int) ≤ n) := by omega
    clear h
    go_enter Try.func12, Try.ntmps12
    go_wp2
    go_ret
    exact ⟨by first | rfl | (simp; omega), rfl⟩
  · have hv : letterN n = true := by simp [letterN, greatN, figureN]; omega
    rw [hv]
    clear hv
    have d0 : ((65 : Int) ≤ n) := by omega
    have d1 : ¬ ((n : Int) ≤ 90) := by omega
    have d2 : ((97 : Int) ≤ n) := by omega
    have d3 : ((n : Int) ≤ 122) := by omega
    clear h
    go_enter Try.func12, Try.ntmps12
    go_wp2
    go_ret
    exact ⟨by first | rfl | (simp; omega), rfl⟩
  · have hv : letterN n = false := by simp [letterN, greatN, figureN]; omega
    rw [hv]
    clear hv
    have d0 : ((65 : Int) ≤ n) := by omega
    have d1 : ¬ ((n : Int) ≤ 90) := by omega
    have d2 : ((97 : Int) ≤ n) := by omega
    have d3 : ¬ ((n : Int) ≤ 122) := by omega
    clear h
    go_enter Try.func12, Try.ntmps12
    go_wp2
    go_ret
    exact ⟨by first | rfl | (simp; omega), rfl⟩

end Go.Proofs.Ytnbhcnpmbilflaa
