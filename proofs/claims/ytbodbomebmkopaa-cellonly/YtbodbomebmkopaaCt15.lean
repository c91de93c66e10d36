/- What the document's turned answers. -/
import Derived.Test.YtbodbomebmkopaaCs15
set_option linter.unusedVariables false
set_option linter.unusedSimpArgs false
set_option maxRecDepth 4000
namespace Go.Proofs.Ytbodbomebmkopaa
open Go.RowKit

def revN (x : Nat) : Nat := (BitVec.ofNat 32 x).reverse.toNat
theorem revN_lt (x : Nat) : revN x < 4294967296 := (BitVec.ofNat 32 x).reverse.isLt
theorem revN_bit (x i : Nat) (hi : i < 32) : revN x / 2 ^ (31 - i) % 2 = x / 2 ^ i % 2 := by
  have h : (revN x).testBit (31 - i) = x.testBit i := by
    show (BitVec.ofNat 32 x).reverse.getLsbD (31 - i) = _
    rw [rev_bit _ _ (by omega), BitVec.getLsbD_ofNat, show 31 - (31 - i) = i by omega, decide_eq_true hi, Bool.true_and]
  rw [← Nat.toNat_testBit, ← Nat.toNat_testBit, h]
theorem revN_step (x i : Nat) (hi : i < 32) : revN x / 2 ^ (32 - (i + 1)) = revN x / 2 ^ (32 - i) * 2 + x / 2 ^ i % 2 := by
  rw [← revN_bit x i hi, show 32 - (i + 1) = 31 - i by omega, show 32 - i = (31 - i) + 1 by omega, Nat.pow_succ, ← Nat.div_div_eq_div_mul]
  omega
theorem half_step (x i : Nat) : x / 2 ^ (i + 1) = x / 2 ^ i / 2 := by rw [Nat.pow_succ, Nat.div_div_eq_div_mul]
set_option maxHeartbeats 1000000 in
theorem rturned_any (x : Nat) (hx : x < 4294967296) (w : World) : Calls Try.prog 36 #[.int .u32 (x : Int)] w fun e w' => e = .returned (.int .u32 (revN x : Int)) ∧ w' = w := by
  have H1 := hide (revN_step x)
  have H2 := hide (half_step x)
  have H3 := hide (revN_lt x)
  go_enter Try.func36, Try.ntmps36
  go_wp2
  go_loop [0, 3, 4] (fun xv yv iv => ∃ i X Y : Nat, iv = .int .i64 (i : Int) ∧ i ≤ 32 ∧ xv = .int .u32 (X : Int) ∧ yv = .int .u32 (Y : Int) ∧ X < 4294967296 ∧ Hid (X = x / 2 ^ i) ∧ Hid (Y = revN x / 2 ^ (32 - i))) (fun _ _ iv => 32 - (intOf iv).toNat)
  case atStart => exact ⟨0, x, 0, rfl, Nat.zero_le _, rfl, rfl, hx, hide (by simp), hide (by rw [Nat.div_eq_of_lt H3.out])⟩
  case round =>
    obtain ⟨i, X, Y, rfl, hi, rfl, rfl, hX, HX, HY⟩ := hrel
    by_cases hlt : i < 32
    · have hlt2 : (i : Int) < 32 := by omega
      have hs := H1.out i hlt
      rw [← HX.out, ← HY.out] at hs
      have hb : Y * 2 + X % 2 < 4294967296 := by rw [← hs]; exact Nat.lt_of_le_of_lt (Nat.div_le_self _ _) H3.out
      have HX2 : Hid (X / 2 = x / 2 ^ (i + 1)) := hide (by rw [H2.out i, ← HX.out])
      have HY2 : Hid (Y * 2 + X % 2 = revN x / 2 ^ (32 - (i + 1))) := hide hs.symm
      have ht1 : (X : Int).tmod 2 = ((X % 2 : Nat) : Int) := by rw [Int.tmod_eq_emod_of_nonneg (by omega)]; omega
      have ht2 : (X : Int).tdiv 2 = ((X / 2 : Nat) : Int) := by rw [Int.tdiv_eq_ediv_of_nonneg (by omega)]; omega
      clear hs HX HY
      go_wp2
      go_round
      case rel => exact ⟨i + 1, X / 2, Y * 2 + X % 2, by go_num, by omega, by go_num, by go_num, by omega, HX2, HY2⟩
      case measure => simp [intOf]; omega
    · have hlt2 : ¬ (i : Int) < 32 := by omega
      obtain rfl : i = 32 := by omega
      have hy := HY.out
      rw [Nat.sub_self, Nat.pow_zero, Nat.div_one] at hy
      subst hy
      go_wp2
      go_ret
      exact ⟨rfl, rfl⟩
end Go.Proofs.Ytbodbomebmkopaa
