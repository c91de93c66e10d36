/- What the program's great, Letter, Figure, goesOn and digit answer, of whatever byte; the world stays as it was. -/
import Derived.Test.YthoibenncjbkdaaDoorS4Base
import Derived.Test.YthoibenncjbkdaaDoorS4PlainP
set_option linter.unusedVariables false
set_option linter.unusedSimpArgs false
set_option maxRecDepth 4000
namespace Go.Proofs.YthoibenncjbkdaaDoor.S4
open Go.RowKit

set_option maxHeartbeats 1000000 in
theorem great_any (n : Nat) (w : World) :
    Calls Tryd.prog 39 #[.int .u8 (n : Int)] w fun e w' => e = .returned (.bool (greatN n)) ∧ w' = w := by
  rcases (by omega : (n < 65) ∨ (65 ≤ n ∧ n ≤ 90) ∨ (90 < n)) with h | h | h
  · have hv : greatN n = false := by simp [letterN, greatN, figureN]; omega
    rw [hv]
    clear hv
    have d0 : ¬ ((65 : Int) ≤ n) := by omega
    clear h
    go_enter Tryd.func39, Tryd.ntmps39
    go_wp2
    go_ret
    exact ⟨by first | rfl | (simp; omega), rfl⟩
  · have hv : greatN n = true := by simp [letterN, greatN, figureN]; omega
    rw [hv]
    clear hv
    have d0 : ((65 : Int) ≤ n) := by omega
    have d1 : ((n : Int) ≤ 90) := by omega
    clear h
    go_enter Tryd.func39, Tryd.ntmps39
    go_wp2
    go_ret
    exact ⟨by first | rfl | (simp; omega), rfl⟩
  · have hv : greatN n = false := by simp [letterN, greatN, figureN]; omega
    rw [hv]
    clear hv
    have d0 : ((65 : Int) ≤ n) := by omega
    have d1 : ¬ ((n : Int) ≤ 90) := by omega
    clear h
    go_enter Tryd.func39, Tryd.ntmps39
    go_wp2
    go_ret
    exact ⟨by first | rfl | (simp; omega), rfl⟩

set_option maxHeartbeats 1000000 in
theorem figure_any (n : Nat) (w : World) :
    Calls Tryd.prog 30 #[.int .u8 (n : Int)] w fun e w' => e = .returned (.bool (figureN n)) ∧ w' = w := by
  rcases (by omega : (n < 48) ∨ (48 ≤ n ∧ n ≤ 57) ∨ (57 < n)) with h | h | h
  · have hv : figureN n = false := by simp [letterN, greatN, figureN]; omega
    rw [hv]
    clear hv
    have d0 : ¬ ((48 : Int) ≤ n) := by omega
    clear h
    go_enter Tryd.func30, Tryd.ntmps30
    go_wp2
    go_ret
    exact ⟨by first | rfl | (simp; omega), rfl⟩
  · have hv : figureN n = true := by simp [letterN, greatN, figureN]; omega
    rw [hv]
    clear hv
    have d0 : ((48 : Int) ≤ n) := by omega
    have d1 : ((n : Int) ≤ 57) := by omega
    clear h
    go_enter Tryd.func30, Tryd.ntmps30
    go_wp2
    go_ret
    exact ⟨by first | rfl | (simp; omega), rfl⟩
  · have hv : figureN n = false := by simp [letterN, greatN, figureN]; omega
    rw [hv]
    clear hv
    have d0 : ((48 : Int) ≤ n) := by omega
    have d1 : ¬ ((n : Int) ≤ 57) := by omega
    clear h
    go_enter Tryd.func30, Tryd.ntmps30
    go_wp2
    go_ret
    exact ⟨by first | rfl | (simp; omega), rfl⟩

set_option maxHeartbeats 1000000 in
theorem letter_any (n : Nat) (w : World) :
    Calls Tryd.prog 34 #[.int .u8 (n : Int)] w fun e w' => e = .returned (.bool (letterN n)) ∧ w' = w := by
  rcases (by omega : (n < 65) ∨ (65 ≤ n ∧ n ≤ 90) ∨ (90 < n ∧ n < 97) ∨ (97 ≤ n ∧ n ≤ 122) ∨ (122 < n)) with h | h | h | h | h
  · have hv : letterN n = false := by simp [letterN, greatN, figureN]; omega
    rw [hv]
    clear hv
    have d0 : ¬ ((97 : Int) ≤ n) := by omega
    have hg : greatN n = false := by simp [greatN]; omega
    have H := hide (great_any n)
    rw [hg] at H
    clear hg
    clear h
    go_enter Tryd.func34, Tryd.ntmps34
    go_wp2_with fail
    refine (H.out _).mono ?_
    rintro e w1 ⟨rfl, rfl⟩
    go_wp2
    go_ret
    exact ⟨by first | rfl | (simp; omega), rfl⟩
  · have hv : letterN n = true := by simp [letterN, greatN, figureN]; omega
    rw [hv]
    clear hv
    have hg : greatN n = true := by simp [greatN]; omega
    have H := hide (great_any n)
    rw [hg] at H
    clear hg
    clear h
    go_enter Tryd.func34, Tryd.ntmps34
    go_wp2_with fail
    refine (H.out _).mono ?_
    rintro e w1 ⟨rfl, rfl⟩
    go_wp2
    go_ret
    exact ⟨by first | rfl | (simp; omega), rfl⟩
  · have hv : letterN n = false := by simp [letterN, greatN, figureN]; omega
    rw [hv]
    clear hv
    have d0 : ¬ ((97 : Int) ≤ n) := by omega
    have hg : greatN n = false := by simp [greatN]; omega
    have H := hide (great_any n)
    rw [hg] at H
    clear hg
    clear h
    go_enter Tryd.func34, Tryd.ntmps34
    go_wp2_with fail
    refine (H.out _).mono ?_
    rintro e w1 ⟨rfl, rfl⟩
    go_wp2
    go_ret
    exact ⟨by first | rfl | (simp; omega), rfl⟩
  · have hv : letterN n = true := by simp [letterN, greatN, figureN]; omega
    rw [hv]
    clear hv
    have d0 : ((97 : Int) ≤ n) := by omega
    have d1 : ((n : Int) ≤ 122) := by omega
    have hg : greatN n = false := by simp [greatN]; omega
    have H := hide (great_any n)
    rw [hg] at H
    clear hg
    clear h
    go_enter Tryd.func34, Tryd.ntmps34
    go_wp2_with fail
    refine (H.out _).mono ?_
    rintro e w1 ⟨rfl, rfl⟩
    go_wp2
    go_ret
    exact ⟨by first | rfl | (simp; omega), rfl⟩
  · have hv : letterN n = false := by simp [letterN, greatN, figureN]; omega
    rw [hv]
    clear hv
    have d0 : ((97 : Int) ≤ n) := by omega
    have d1 : ¬ ((n : Int) ≤ 122) := by omega
    have hg : greatN n = false := by simp [greatN]; omega
    have H := hide (great_any n)
    rw [hg] at H
    clear hg
    clear h
    go_enter Tryd.func34, Tryd.ntmps34
    go_wp2_with fail
    refine (H.out _).mono ?_
    rintro e w1 ⟨rfl, rfl⟩
    go_wp2
    go_ret
    exact ⟨by first | rfl | (simp; omega), rfl⟩


def goesN (n : Nat) : Bool := n == 61 || letterN n || figureN n
set_option maxHeartbeats 1000000 in
theorem goes_any (n : Nat) (w : World) :
    Calls Tryd.prog 26 #[.int .u8 (n : Int)] w fun e w' => e = .returned (.bool (goesN n)) ∧ w' = w := by
  have HL := hide (letter_any n)
  have HF := hide (figure_any n)
  by_cases h : n = 61
  · subst h
    go_enter Tryd.func26, Tryd.ntmps26
    go_wp2
    go_ret
    exact ⟨rfl, rfl⟩
  · have e1 := ne_lit n 61 (by omega)
    have hv : goesN n = (letterN n || figureN n) := by unfold goesN; rw [show (n == 61) = false from beq_eq_false_iff_ne.2 h, Bool.false_or]
    rw [hv]
    generalize letterN n = B at *
    generalize figureN n = C at *
    clear h hv
    cases B
    · go_enter Tryd.func26, Tryd.ntmps26
      go_wp2_with fail
      refine (HL.out _).mono ?_
      rintro e w1 ⟨rfl, rfl⟩
      go_wp2_with fail
      refine (HF.out _).mono ?_
      rintro e w1 ⟨rfl, rfl⟩
      go_wp2
      go_ret
      exact ⟨rfl, rfl⟩
    · go_enter Tryd.func26, Tryd.ntmps26
      go_wp2_with fail
      refine (HL.out _).mono ?_
      rintro e w1 ⟨rfl, rfl⟩
      go_wp2
      go_ret
      exact ⟨rfl, rfl⟩

/-- A digit's value, as the program's digit tells it: 16 where there is none. -/
def digitP (n : Nat) : Int := if 48 ≤ n ∧ n ≤ 57 then (n : Int) - 48 else if 97 ≤ n ∧ n ≤ 102 then (n : Int) - 97 + 10 else if 65 ≤ n ∧ n ≤ 70 then (n : Int) - 65 + 10 else 16
theorem digitP_some (β : Nat) (c : UInt8) (d : Nat) (h : digitB β c = some d) : digitP c.toNat = d := by
  unfold digitB at h
  unfold digitP
  simp only at h
  by_cases h1 : 48 ≤ c.toNat ∧ c.toNat ≤ 57
  · have hf : figureN c.toNat = true := by simp [figureN, h1]
    rw [hf, if_pos rfl] at h
    rw [if_pos h1]
    simp only at h
    split at h
    · cases h; omega
    · simp at h
  · have hf : figureN c.toNat = false := by simp [figureN]; omega
    rw [hf] at h
    simp only [Bool.false_eq_true, if_false] at h
    rw [if_neg h1]
    by_cases h2 : 97 ≤ c.toNat ∧ c.toNat ≤ 102
    · rw [if_pos h2] at h
      rw [if_pos h2]
      simp only at h
      split at h
      · cases h; omega
      · simp at h
    · rw [if_neg h2] at h
      rw [if_neg h2]
      by_cases h3 : 65 ≤ c.toNat ∧ c.toNat ≤ 70
      · rw [if_pos h3] at h
        rw [if_pos h3]
        simp only at h
        split at h
        · cases h; omega
        · simp at h
      · rw [if_neg h3] at h
        simp at h
theorem digitP_none (β : Nat) (hβ : β ≤ 16) (c : UInt8) (h : digitB β c = none) : (β : Int) ≤ digitP c.toNat := by
  unfold digitB at h
  unfold digitP
  simp only at h
  by_cases h1 : 48 ≤ c.toNat ∧ c.toNat ≤ 57
  · have hf : figureN c.toNat = true := by simp [figureN, h1]
    rw [hf, if_pos rfl] at h
    rw [if_pos h1]
    simp only at h
    split at h
    · simp at h
    · omega
  · have hf : figureN c.toNat = false := by simp [figureN]; omega
    rw [hf] at h
    simp only [Bool.false_eq_true, if_false] at h
    rw [if_neg h1]
    by_cases h2 : 97 ≤ c.toNat ∧ c.toNat ≤ 102
    · rw [if_pos h2] at h
      rw [if_pos h2]
      simp only at h
      split at h
      · simp at h
      · omega
    · rw [if_neg h2] at h
      rw [if_neg h2]
      by_cases h3 : 65 ≤ c.toNat ∧ c.toNat ≤ 70
      · rw [if_pos h3] at h
        rw [if_pos h3]
        simp only at h
        split at h
        · simp at h
        · omega
      · rw [if_neg h3]
        omega
set_option maxHeartbeats 2000000 in
theorem digit_any (n : Nat) (w : World) :
    Calls Tryd.prog 23 #[.int .u8 (n : Int)] w fun e w' => e = .returned (.int .i64 (digitP n)) ∧ w' = w := by
  have HF := hide (figure_any n)
  rcases (by omega : (48 ≤ n ∧ n ≤ 57) ∨ (97 ≤ n ∧ n ≤ 102) ∨ (65 ≤ n ∧ n ≤ 70) ∨ (n < 48) ∨ (57 < n ∧ n < 65) ∨ (70 < n ∧ n < 97) ∨ (102 < n)) with h | h | h | h | h | h | h
  · have hv : digitP n = (n : Int) - 48 := by unfold digitP; (repeat' split) <;> omega
    have hf : figureN n = true := by simp [figureN]; omega
    rw [hv]
    rw [hf] at HF
    clear hv hf
    have d0 : (48 : Int) ≤ n := by omega
    have d1 : (n : Int) ≤ 57 := by omega
    clear h
    go_enter Tryd.func23, Tryd.ntmps23
    go_wp2_with fail
    refine (HF.out _).mono ?_
    rintro e w1 ⟨rfl, rfl⟩
    go_wp2
    go_ret
    exact ⟨rfl, rfl⟩
  · have hv : digitP n = (n : Int) - 97 + 10 := by unfold digitP; (repeat' split) <;> omega
    have hf : figureN n = false := by simp [figureN]; omega
    rw [hv]
    rw [hf] at HF
    clear hv hf
    have d0 : (97 : Int) ≤ n := by omega
    have d1 : (n : Int) ≤ 102 := by omega
    clear h
    go_enter Tryd.func23, Tryd.ntmps23
    go_wp2_with fail
    refine (HF.out _).mono ?_
    rintro e w1 ⟨rfl, rfl⟩
    go_wp2
    go_ret
    exact ⟨rfl, rfl⟩
  · have hv : digitP n = (n : Int) - 65 + 10 := by unfold digitP; (repeat' split) <;> omega
    have hf : figureN n = false := by simp [figureN]; omega
    rw [hv]
    rw [hf] at HF
    clear hv hf
    have d0 : ¬ (97 : Int) ≤ n := by omega
    have d1 : (65 : Int) ≤ n := by omega
    have d2 : (n : Int) ≤ 70 := by omega
    clear h
    go_enter Tryd.func23, Tryd.ntmps23
    go_wp2_with fail
    refine (HF.out _).mono ?_
    rintro e w1 ⟨rfl, rfl⟩
    go_wp2
    go_ret
    exact ⟨rfl, rfl⟩
  · have hv : digitP n = 16 := by unfold digitP; (repeat' split) <;> omega
    have hf : figureN n = false := by simp [figureN]; omega
    rw [hv]
    rw [hf] at HF
    clear hv hf
    have d0 : ¬ (97 : Int) ≤ n := by omega
    have d1 : ¬ (65 : Int) ≤ n := by omega
    clear h
    go_enter Tryd.func23, Tryd.ntmps23
    go_wp2_with fail
    refine (HF.out _).mono ?_
    rintro e w1 ⟨rfl, rfl⟩
    go_wp2
    go_ret
    exact ⟨rfl, rfl⟩
  · have hv : digitP n = 16 := by unfold digitP; (repeat' split) <;> omega
    have hf : figureN n = false := by simp [figureN]; omega
    rw [hv]
    rw [hf] at HF
    clear hv hf
    have d0 : ¬ (97 : Int) ≤ n := by omega
    have d1 : ¬ (65 : Int) ≤ n := by omega
    clear h
    go_enter Tryd.func23, Tryd.ntmps23
    go_wp2_with fail
    refine (HF.out _).mono ?_
    rintro e w1 ⟨rfl, rfl⟩
    go_wp2
    go_ret
    exact ⟨rfl, rfl⟩
  · have hv : digitP n = 16 := by unfold digitP; (repeat' split) <;> omega
    have hf : figureN n = false := by simp [figureN]; omega
    rw [hv]
    rw [hf] at HF
    clear hv hf
    have d0 : ¬ (97 : Int) ≤ n := by omega
    have d1 : (65 : Int) ≤ n := by omega
    have d2 : ¬ (n : Int) ≤ 70 := by omega
    clear h
    go_enter Tryd.func23, Tryd.ntmps23
    go_wp2_with fail
    refine (HF.out _).mono ?_
    rintro e w1 ⟨rfl, rfl⟩
    go_wp2
    go_ret
    exact ⟨rfl, rfl⟩
  · have hv : digitP n = 16 := by unfold digitP; (repeat' split) <;> omega
    have hf : figureN n = false := by simp [figureN]; omega
    rw [hv]
    rw [hf] at HF
    clear hv hf
    have d0 : (97 : Int) ≤ n := by omega
    have d1 : ¬ (n : Int) ≤ 102 := by omega
    have d2 : (65 : Int) ≤ n := by omega
    have d3 : ¬ (n : Int) ≤ 70 := by omega
    clear h
    go_enter Tryd.func23, Tryd.ntmps23
    go_wp2_with fail
    refine (HF.out _).mono ?_
    rintro e w1 ⟨rfl, rfl⟩
    go_wp2
    go_ret
    exact ⟨rfl, rfl⟩
end Go.Proofs.YthoibenncjbkdaaDoor.S4
