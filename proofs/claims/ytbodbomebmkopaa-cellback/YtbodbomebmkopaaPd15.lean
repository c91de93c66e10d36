/- What the program's divide answers. -/
import Derived.Test.YtbodbomebmkopaaCu15
set_option linter.unusedVariables false
set_option linter.unusedSimpArgs false
set_option maxRecDepth 40000
namespace Go.Proofs.Ytbodbomebmkopaa
open Go.RowKit
theorem and_is (X Y : BitVec 32) : bits BinOp.and IntKind.u32 (X.toNat : Int) (Y.toNat : Int) = ((X &&& Y).toNat : Int) := by
  have h1 : BitVec.ofInt 32 (X.toNat : Int) = X := by rw [BitVec.ofInt_natCast]; simp
  have h2 : BitVec.ofInt 32 (Y.toNat : Int) = Y := by rw [BitVec.ofInt_natCast]; simp
  have h3 : ((X &&& Y).toNat : Int) < 4294967296 := by have := (X &&& Y).isLt; omega
  show IntKind.u32.wrap ((BitVec.ofInt 32 (X.toNat : Int) &&& BitVec.ofInt 32 (Y.toNat : Int)).toNat : Int) = _
  rw [h1, h2]
  simp only [IntKind.wrap]
  rw [show IntKind.u32.signed = false from rfl, Bool.false_and, if_neg (by simp)]
  show ((X &&& Y).toNat : Int) % 4294967296 = _
  omega
theorem low_bit (X : BitVec 32) : X.getLsbD 0 = decide (X.toNat % 2 = 1) := by
  rw [BitVec.getLsbD, Nat.testBit_zero]
theorem low_is (X : BitVec 32) : bits BinOp.and IntKind.u32 (X.toNat : Int) 1 = ((X.toNat % 2 : Nat) : Int) := by
  have h := and_is X 1#32
  rw [show ((1#32 : BitVec 32).toNat : Int) = 1 from rfl] at h
  rw [h, BitVec.toNat_and, show (1#32 : BitVec 32).toNat = 1 from rfl, Nat.and_one_is_mod]
theorem half_is (X : BitVec 32) : (X.toNat : Int) / (2 : Int) = ((X >>> 1).toNat : Int) := by
  rw [BitVec.toNat_ushiftRight, Nat.shiftRight_eq_div_pow]
  omega
theorem tB_one {X : BitVec 32} (h : X.toNat % 2 = 1) : tB X = X >>> 1 ^^^ 0xEDB88320#32 := by
  unfold tB
  rw [low_bit, decide_eq_true h, if_pos rfl]
theorem tB_none {X : BitVec 32} (h : ¬ X.toNat % 2 = 1) : tB X = X >>> 1 := by
  unfold tB
  rw [low_bit, decide_eq_false h, if_neg (by simp), BitVec.xor_zero]
set_option maxHeartbeats 2000000 in
theorem pdivide_any (x : BitVec 32) (w : World) : Calls Try.prog 35 #[.int .u32 (x.toNat : Int)] w fun e w' => e = .returned (.int .u32 ((tN 8 x).toNat : Int)) ∧ w' = w := by
  go_enter Try.func35, Try.ntmps35
  go_wp2
  go_loop [0, 4] (fun xv iv => ∃ (i : Nat) (X : BitVec 32), iv = .int .i64 (i : Int) ∧ i ≤ 8 ∧ xv = .int .u32 (X.toNat : Int) ∧ Hid (tN (8 - i) X = tN 8 x)) (fun _ iv => 8 - (intOf iv).toNat)
  case atStart => exact ⟨0, x, rfl, Nat.zero_le _, rfl, hide rfl⟩
  case round =>
    obtain ⟨i, X, rfl, hi, rfl, HX⟩ := hrel
    by_cases hlt : i < 8
    · have hlt2 : (i : Int) < 8 := by omega
      have hX := X.isLt
      have hn := HX.out
      rw [show 8 - i = (8 - (i + 1)) + 1 by omega, tN] at hn
      have hlow := low_is X
      have HHALF := hide (half_is X)
      by_cases hb : X.toNat % 2 = 1
      · rw [tB_one hb] at hn
        have HN := hide hn
        have HXX : Hid (bits BinOp.xor IntKind.u32 ((X.toNat : Int) / 2) 3988292384 = ((X >>> 1 ^^^ 0xEDB88320#32).toNat : Int)) := hide (by rw [HHALF.out]; exact xor_is (X >>> 1) 0xEDB88320#32)
        rw [hb] at hlow
        have hlow2 : (bits BinOp.and IntKind.u32 (X.toNat : Int) 1 == 1) = true := by rw [hlow]; rfl
        clear hn HX hlow hb HHALF
        go_wp2
        go_round
        case rel => exact ⟨i + 1, X >>> 1 ^^^ 0xEDB88320#32, by go_num, by omega, by rw [HXX.out], HN⟩
        case measure => simp [intOf]; omega
      · rw [tB_none hb] at hn
        have HN := hide hn
        have hb2 : X.toNat % 2 = 0 := by omega
        rw [hb2] at hlow
        have hlow2 : (bits BinOp.and IntKind.u32 (X.toNat : Int) 1 == 1) = false := by rw [hlow]; rfl
        clear hn HX hlow hb hb2
        go_wp2
        go_round
        case rel => exact ⟨i + 1, X >>> 1, by go_num, by omega, by rw [HHALF.out], HN⟩
        case measure => simp [intOf]; omega
    · have hlt2 : ¬ (i : Int) < 8 := by omega
      obtain rfl : i = 8 := by omega
      have hn := HX.out
      rw [Nat.sub_self, tN] at hn
      subst hn
      go_wp2
      go_ret
      exact ⟨rfl, rfl⟩
end Go.Proofs.Ytbodbomebmkopaa
