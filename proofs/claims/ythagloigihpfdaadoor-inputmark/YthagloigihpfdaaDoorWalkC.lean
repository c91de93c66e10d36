/- What the document's own long, fits, Marked and the statement's marked answer; the world stays as it was. -/
import Derived.Test.YthagloigihpfdaaDoorWalkB
set_option linter.unusedVariables false
set_option linter.unusedSimpArgs false
namespace Go.Proofs.YthagloigihpfdaaDoor
open Go.RowKit

def longP (b : Nat) : Nat := if b < 128 then 1 else if need b = 0 then 0 else need b + 1

set_option maxHeartbeats 1000000 in
theorem long_0 (n : Nat) (c : n < 128) (w : World) :
    Calls Tryd.prog 37 #[.int .u8 (n : Int)] w fun e w' => e = .returned (.int .i64 1) ∧ w' = w := by
  have d0 : (n : Int) < 128 := by omega
  clear c
  go_enter Tryd.func37, Tryd.ntmps37
  go_wp2
  go_ret
  exact ⟨rfl, rfl⟩
theorem longF_0 (n : Nat) (c : n < 128) : longP n = 1 := by
  unfold longP need; (repeat' split) <;> omega
set_option maxHeartbeats 1000000 in
theorem long_1 (n : Nat) (c : 128 ≤ n ∧ n < 194) (w : World) :
    Calls Tryd.prog 37 #[.int .u8 (n : Int)] w fun e w' => e = .returned (.int .i64 0) ∧ w' = w := by
  have d0 : ¬ ((n : Int) < 128) := by omega
  have d1 : ¬ ((194 : Int) ≤ n) := by omega
  have d2 : ¬ ((224 : Int) ≤ n) := by omega
  have d3 : ¬ ((240 : Int) ≤ n) := by omega
  clear c
  go_enter Tryd.func37, Tryd.ntmps37
  go_wp2
  go_ret
  exact ⟨rfl, rfl⟩
theorem longF_1 (n : Nat) (c : 128 ≤ n ∧ n < 194) : longP n = 0 := by
  unfold longP need; (repeat' split) <;> omega
set_option maxHeartbeats 1000000 in
theorem long_2 (n : Nat) (c : 194 ≤ n ∧ n ≤ 223) (w : World) :
    Calls Tryd.prog 37 #[.int .u8 (n : Int)] w fun e w' => e = .returned (.int .i64 2) ∧ w' = w := by
  have d0 : ¬ ((n : Int) < 128) := by omega
  have d1 : ((194 : Int) ≤ n) := by omega
  have d2 : (n : Int) ≤ 223 := by omega
  clear c
  go_enter Tryd.func37, Tryd.ntmps37
  go_wp2
  go_ret
  exact ⟨rfl, rfl⟩
theorem longF_2 (n : Nat) (c : 194 ≤ n ∧ n ≤ 223) : longP n = 2 := by
  unfold longP need; (repeat' split) <;> omega
set_option maxHeartbeats 1000000 in
theorem long_3 (n : Nat) (c : 224 ≤ n ∧ n ≤ 239) (w : World) :
    Calls Tryd.prog 37 #[.int .u8 (n : Int)] w fun e w' => e = .returned (.int .i64 3) ∧ w' = w := by
  have d0 : ¬ ((n : Int) < 128) := by omega
  have d1 : ((194 : Int) ≤ n) := by omega
  have d2 : ¬ (n : Int) ≤ 223 := by omega
  have d3 : ((224 : Int) ≤ n) := by omega
  have d4 : (n : Int) ≤ 239 := by omega
  clear c
  go_enter Tryd.func37, Tryd.ntmps37
  go_wp2
  go_ret
  exact ⟨rfl, rfl⟩
theorem longF_3 (n : Nat) (c : 224 ≤ n ∧ n ≤ 239) : longP n = 3 := by
  unfold longP need; (repeat' split) <;> omega
set_option maxHeartbeats 1000000 in
theorem long_4 (n : Nat) (c : 240 ≤ n ∧ n ≤ 244) (w : World) :
    Calls Tryd.prog 37 #[.int .u8 (n : Int)] w fun e w' => e = .returned (.int .i64 4) ∧ w' = w := by
  have d0 : ¬ ((n : Int) < 128) := by omega
  have d1 : ((194 : Int) ≤ n) := by omega
  have d2 : ¬ (n : Int) ≤ 223 := by omega
  have d3 : ((224 : Int) ≤ n) := by omega
  have d4 : ¬ (n : Int) ≤ 239 := by omega
  have d5 : ((240 : Int) ≤ n) := by omega
  have d6 : (n : Int) ≤ 244 := by omega
  clear c
  go_enter Tryd.func37, Tryd.ntmps37
  go_wp2
  go_ret
  exact ⟨rfl, rfl⟩
theorem longF_4 (n : Nat) (c : 240 ≤ n ∧ n ≤ 244) : longP n = 4 := by
  unfold longP need; (repeat' split) <;> omega
set_option maxHeartbeats 1000000 in
theorem long_5 (n : Nat) (c : 245 ≤ n ∧ n < 256) (w : World) :
    Calls Tryd.prog 37 #[.int .u8 (n : Int)] w fun e w' => e = .returned (.int .i64 0) ∧ w' = w := by
  have d0 : ¬ ((n : Int) < 128) := by omega
  have d1 : ((194 : Int) ≤ n) := by omega
  have d2 : ¬ (n : Int) ≤ 223 := by omega
  have d3 : ((224 : Int) ≤ n) := by omega
  have d4 : ¬ (n : Int) ≤ 239 := by omega
  have d5 : ((240 : Int) ≤ n) := by omega
  have d6 : ¬ (n : Int) ≤ 244 := by omega
  clear c
  go_enter Tryd.func37, Tryd.ntmps37
  go_wp2
  go_ret
  exact ⟨rfl, rfl⟩
theorem longF_5 (n : Nat) (c : 245 ≤ n ∧ n < 256) : longP n = 0 := by
  unfold longP need; (repeat' split) <;> omega
theorem long_any (n : Nat) (hn : n < 256) (w : World) :
    Calls Tryd.prog 37 #[.int .u8 (n : Int)] w fun e w' => e = .returned (.int .i64 (longP n : Nat)) ∧ w' = w := by
  have key : (n < 128) ∨ (128 ≤ n ∧ n < 194) ∨ (194 ≤ n ∧ n ≤ 223) ∨ (224 ≤ n ∧ n ≤ 239) ∨ (240 ≤ n ∧ n ≤ 244) ∨ (245 ≤ n ∧ n < 256) := by omega
  rcases key with c | c | c | c | c | c
  · rw [longF_0 n c]; exact long_0 n c w
  · rw [longF_1 n c]; exact long_1 n c w
  · rw [longF_2 n c]; exact long_2 n c w
  · rw [longF_3 n c]; exact long_3 n c w
  · rw [longF_4 n c]; exact long_4 n c w
  · rw [longF_5 n c]; exact long_5 n c w

def loK (b k : Nat) : Nat := if k = 1 then secLo b else 128
def hiK (b k : Nat) : Nat := if k = 1 then secHi b else 191
def fitsB (b k c : Nat) : Bool := decide (loK b k ≤ c) && decide (c ≤ hiK b k)

set_option maxHeartbeats 1000000 in
theorem fits_0 (b k c : Nat) (hk : k ≠ 1) (w : World) :
    Calls Tryd.prog 38 #[.int .u8 (b : Int), .int .i64 (k : Int), .int .u8 (c : Int)] w fun e w' => e = .returned (.bool (fitsB b k c)) ∧ w' = w := by
  have hv : fitsB b k c = (decide (128 ≤ c) && decide (c ≤ 191)) := by
    have q : loK b k = 128 ∧ hiK b k = 191 := by simp [loK, hiK, hk]
    unfold fitsB; rw [q.1, q.2]
  rw [hv]; clear hv
  have d0 : ((k : Int) == 1) = false := beq_eq_false_iff_ne.2 (by omega)
  clear  hk
  by_cases c1 : 128 ≤ c
  · by_cases c2 : c ≤ 191
    · have hv : (decide (128 ≤ c) && decide (c ≤ 191)) = true := by simp [c1, c2]
      rw [hv]; clear hv
      have e1 : (128 : Int) ≤ c := by omega
      have e2 : (c : Int) ≤ 191 := by omega
      clear c1 c2
      go_enter Tryd.func38, Tryd.ntmps38
      go_wp2
      go_ret
      exact ⟨rfl, rfl⟩
    · have hv : (decide (128 ≤ c) && decide (c ≤ 191)) = false := by simp [c1, c2]
      rw [hv]; clear hv
      have e1 : (128 : Int) ≤ c := by omega
      have e2 : ¬ (c : Int) ≤ 191 := by omega
      clear c1 c2
      go_enter Tryd.func38, Tryd.ntmps38
      go_wp2
      go_ret
      exact ⟨rfl, rfl⟩
  · have hv : (decide (128 ≤ c) && decide (c ≤ 191)) = false := by simp [c1]
    rw [hv]; clear hv
    have e1 : ¬ (128 : Int) ≤ c := by omega
    clear c1
    go_enter Tryd.func38, Tryd.ntmps38
    go_wp2
    go_ret
    exact ⟨rfl, rfl⟩
set_option maxHeartbeats 1000000 in
theorem fits_1 (c : Nat) (w : World) :
    Calls Tryd.prog 38 #[.int .u8 224, .int .i64 1, .int .u8 (c : Int)] w fun e w' => e = .returned (.bool (fitsB 224 1 c)) ∧ w' = w := by
  have hv : fitsB 224 1 c = (decide (160 ≤ c) && decide (c ≤ 191)) := by
    have q : loK 224 1 = 160 ∧ hiK 224 1 = 191 := by decide
    unfold fitsB; rw [q.1, q.2]
  rw [hv]; clear hv
  by_cases c1 : 160 ≤ c
  · by_cases c2 : c ≤ 191
    · have hv : (decide (160 ≤ c) && decide (c ≤ 191)) = true := by simp [c1, c2]
      rw [hv]; clear hv
      have e1 : (160 : Int) ≤ c := by omega
      have e2 : (c : Int) ≤ 191 := by omega
      clear c1 c2
      go_enter Tryd.func38, Tryd.ntmps38
      go_wp2
      go_ret
      exact ⟨rfl, rfl⟩
    · have hv : (decide (160 ≤ c) && decide (c ≤ 191)) = false := by simp [c1, c2]
      rw [hv]; clear hv
      have e1 : (160 : Int) ≤ c := by omega
      have e2 : ¬ (c : Int) ≤ 191 := by omega
      clear c1 c2
      go_enter Tryd.func38, Tryd.ntmps38
      go_wp2
      go_ret
      exact ⟨rfl, rfl⟩
  · have hv : (decide (160 ≤ c) && decide (c ≤ 191)) = false := by simp [c1]
    rw [hv]; clear hv
    have e1 : ¬ (160 : Int) ≤ c := by omega
    clear c1
    go_enter Tryd.func38, Tryd.ntmps38
    go_wp2
    go_ret
    exact ⟨rfl, rfl⟩
set_option maxHeartbeats 1000000 in
theorem fits_2 (c : Nat) (w : World) :
    Calls Tryd.prog 38 #[.int .u8 237, .int .i64 1, .int .u8 (c : Int)] w fun e w' => e = .returned (.bool (fitsB 237 1 c)) ∧ w' = w := by
  have hv : fitsB 237 1 c = (decide (128 ≤ c) && decide (c ≤ 159)) := by
    have q : loK 237 1 = 128 ∧ hiK 237 1 = 159 := by decide
    unfold fitsB; rw [q.1, q.2]
  rw [hv]; clear hv
  by_cases c1 : 128 ≤ c
  · by_cases c2 : c ≤ 159
    · have hv : (decide (128 ≤ c) && decide (c ≤ 159)) = true := by simp [c1, c2]
      rw [hv]; clear hv
      have e1 : (128 : Int) ≤ c := by omega
      have e2 : (c : Int) ≤ 159 := by omega
      clear c1 c2
      go_enter Tryd.func38, Tryd.ntmps38
      go_wp2
      go_ret
      exact ⟨rfl, rfl⟩
    · have hv : (decide (128 ≤ c) && decide (c ≤ 159)) = false := by simp [c1, c2]
      rw [hv]; clear hv
      have e1 : (128 : Int) ≤ c := by omega
      have e2 : ¬ (c : Int) ≤ 159 := by omega
      clear c1 c2
      go_enter Tryd.func38, Tryd.ntmps38
      go_wp2
      go_ret
      exact ⟨rfl, rfl⟩
  · have hv : (decide (128 ≤ c) && decide (c ≤ 159)) = false := by simp [c1]
    rw [hv]; clear hv
    have e1 : ¬ (128 : Int) ≤ c := by omega
    clear c1
    go_enter Tryd.func38, Tryd.ntmps38
    go_wp2
    go_ret
    exact ⟨rfl, rfl⟩
set_option maxHeartbeats 1000000 in
theorem fits_3 (c : Nat) (w : World) :
    Calls Tryd.prog 38 #[.int .u8 240, .int .i64 1, .int .u8 (c : Int)] w fun e w' => e = .returned (.bool (fitsB 240 1 c)) ∧ w' = w := by
  have hv : fitsB 240 1 c = (decide (144 ≤ c) && decide (c ≤ 191)) := by
    have q : loK 240 1 = 144 ∧ hiK 240 1 = 191 := by decide
    unfold fitsB; rw [q.1, q.2]
  rw [hv]; clear hv
  by_cases c1 : 144 ≤ c
  · by_cases c2 : c ≤ 191
    · have hv : (decide (144 ≤ c) && decide (c ≤ 191)) = true := by simp [c1, c2]
      rw [hv]; clear hv
      have e1 : (144 : Int) ≤ c := by omega
      have e2 : (c : Int) ≤ 191 := by omega
      clear c1 c2
      go_enter Tryd.func38, Tryd.ntmps38
      go_wp2
      go_ret
      exact ⟨rfl, rfl⟩
    · have hv : (decide (144 ≤ c) && decide (c ≤ 191)) = false := by simp [c1, c2]
      rw [hv]; clear hv
      have e1 : (144 : Int) ≤ c := by omega
      have e2 : ¬ (c : Int) ≤ 191 := by omega
      clear c1 c2
      go_enter Tryd.func38, Tryd.ntmps38
      go_wp2
      go_ret
      exact ⟨rfl, rfl⟩
  · have hv : (decide (144 ≤ c) && decide (c ≤ 191)) = false := by simp [c1]
    rw [hv]; clear hv
    have e1 : ¬ (144 : Int) ≤ c := by omega
    clear c1
    go_enter Tryd.func38, Tryd.ntmps38
    go_wp2
    go_ret
    exact ⟨rfl, rfl⟩
set_option maxHeartbeats 1000000 in
theorem fits_4 (c : Nat) (w : World) :
    Calls Tryd.prog 38 #[.int .u8 244, .int .i64 1, .int .u8 (c : Int)] w fun e w' => e = .returned (.bool (fitsB 244 1 c)) ∧ w' = w := by
  have hv : fitsB 244 1 c = (decide (128 ≤ c) && decide (c ≤ 143)) := by
    have q : loK 244 1 = 128 ∧ hiK 244 1 = 143 := by decide
    unfold fitsB; rw [q.1, q.2]
  rw [hv]; clear hv
  by_cases c1 : 128 ≤ c
  · by_cases c2 : c ≤ 143
    · have hv : (decide (128 ≤ c) && decide (c ≤ 143)) = true := by simp [c1, c2]
      rw [hv]; clear hv
      have e1 : (128 : Int) ≤ c := by omega
      have e2 : (c : Int) ≤ 143 := by omega
      clear c1 c2
      go_enter Tryd.func38, Tryd.ntmps38
      go_wp2
      go_ret
      exact ⟨rfl, rfl⟩
    · have hv : (decide (128 ≤ c) && decide (c ≤ 143)) = false := by simp [c1, c2]
      rw [hv]; clear hv
      have e1 : (128 : Int) ≤ c := by omega
      have e2 : ¬ (c : Int) ≤ 143 := by omega
      clear c1 c2
      go_enter Tryd.func38, Tryd.ntmps38
      go_wp2
      go_ret
      exact ⟨rfl, rfl⟩
  · have hv : (decide (128 ≤ c) && decide (c ≤ 143)) = false := by simp [c1]
    rw [hv]; clear hv
    have e1 : ¬ (128 : Int) ≤ c := by omega
    clear c1
    go_enter Tryd.func38, Tryd.ntmps38
    go_wp2
    go_ret
    exact ⟨rfl, rfl⟩
set_option maxHeartbeats 1000000 in
theorem fits_5 (b c : Nat) (h1 : b ≠ 224) (h2 : b ≠ 237) (h3 : b ≠ 240) (h4 : b ≠ 244) (w : World) :
    Calls Tryd.prog 38 #[.int .u8 (b : Int), .int .i64 1, .int .u8 (c : Int)] w fun e w' => e = .returned (.bool (fitsB b 1 c)) ∧ w' = w := by
  have hv : fitsB b 1 c = (decide (128 ≤ c) && decide (c ≤ 191)) := by
    have q : loK b 1 = 128 ∧ hiK b 1 = 191 := by simp [loK, hiK, secLo, secHi, h1, h2, h3, h4]
    unfold fitsB; rw [q.1, q.2]
  rw [hv]; clear hv
  have d0 : ((b : Int) == 224) = false := beq_eq_false_iff_ne.2 (by omega)
  have d1 : ((b : Int) == 237) = false := beq_eq_false_iff_ne.2 (by omega)
  have d2 : ((b : Int) == 240) = false := beq_eq_false_iff_ne.2 (by omega)
  have d3 : ((b : Int) == 244) = false := beq_eq_false_iff_ne.2 (by omega)
  clear h1 h2 h3 h4
  by_cases c1 : 128 ≤ c
  · by_cases c2 : c ≤ 191
    · have hv : (decide (128 ≤ c) && decide (c ≤ 191)) = true := by simp [c1, c2]
      rw [hv]; clear hv
      have e1 : (128 : Int) ≤ c := by omega
      have e2 : (c : Int) ≤ 191 := by omega
      clear c1 c2
      go_enter Tryd.func38, Tryd.ntmps38
      go_wp2
      go_ret
      exact ⟨rfl, rfl⟩
    · have hv : (decide (128 ≤ c) && decide (c ≤ 191)) = false := by simp [c1, c2]
      rw [hv]; clear hv
      have e1 : (128 : Int) ≤ c := by omega
      have e2 : ¬ (c : Int) ≤ 191 := by omega
      clear c1 c2
      go_enter Tryd.func38, Tryd.ntmps38
      go_wp2
      go_ret
      exact ⟨rfl, rfl⟩
  · have hv : (decide (128 ≤ c) && decide (c ≤ 191)) = false := by simp [c1]
    rw [hv]; clear hv
    have e1 : ¬ (128 : Int) ≤ c := by omega
    clear c1
    go_enter Tryd.func38, Tryd.ntmps38
    go_wp2
    go_ret
    exact ⟨rfl, rfl⟩
theorem fits_any (b k c : Nat) (w : World) :
    Calls Tryd.prog 38 #[.int .u8 (b : Int), .int .i64 (k : Int), .int .u8 (c : Int)] w fun e w' => e = .returned (.bool (fitsB b k c)) ∧ w' = w := by
  by_cases hk : k = 1
  · subst hk
    by_cases h1 : b = 224
    · subst h1; exact fits_1 c w
    · by_cases h2 : b = 237
      · subst h2; exact fits_2 c w
      · by_cases h3 : b = 240
        · subst h3; exact fits_3 c w
        · by_cases h4 : b = 244
          · subst h4; exact fits_4 c w
          · exact fits_5 b c h1 h2 h3 h4 w
  · exact fits_0 b k c hk w
end Go.Proofs.YthagloigihpfdaaDoor
