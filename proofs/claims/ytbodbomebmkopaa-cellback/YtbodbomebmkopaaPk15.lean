/- What the program's Sum and More answer. -/
import Derived.Test.YtbodbomebmkopaaPd15
set_option linter.unusedVariables false
set_option linter.unusedSimpArgs false
set_option maxRecDepth 40000
namespace Go.Proofs.Ytbodbomebmkopaa
open Go.RowKit
theorem not_is (X : BitVec 32) : bits BinOp.xor IntKind.u32 IntKind.u32.max (X.toNat : Int) = ((X ^^^ 0xFFFFFFFF#32).toNat : Int) := by
  have h := xor_is 0xFFFFFFFF#32 X
  rw [BitVec.xor_comm] at h
  exact h
theorem byte_is (X : BitVec 32) (c : UInt8) : bits BinOp.xor IntKind.u32 (X.toNat : Int) (c.toNat : Int) = ((X ^^^ c.toBitVec.zeroExtend 32).toNat : Int) := by
  have h := xor_is X (c.toBitVec.zeroExtend 32)
  have hc : ((c.toBitVec.zeroExtend 32).toNat : Int) = (c.toNat : Int) := by
    simp only [BitVec.truncate_eq_setWidth, BitVec.toNat_setWidth, UInt8.toNat_toBitVec]
    have := c.toNat_lt
    omega
  rw [hc] at h
  exact h
set_option maxHeartbeats 2000000 in
theorem pmore_one (s : BitVec 32) (bv : Value) (b : Bs) (w : World) (hY : IsY w bv b) (hl : b.length ≤ 1000000) : Calls Try.prog 33 #[.int .u32 (s.toNat : Int), bv] w fun e w' => e = .returned (.int .u32 ((moreB s b).toNat : Int)) ∧ w' = w := by
  have HM : Hid (moreB s b = foldB (s ^^^ 0xFFFFFFFF#32) b ^^^ 0xFFFFFFFF#32) := hide rfl
  have hn0 := not_is s
  generalize moreB s b = RES at *
  generalize s ^^^ 0xFFFFFFFF#32 = X0 at *
  have hs := s.isLt
  obtain ⟨ba, bc, rfl⟩ := hY.form
  have HY := hide hY
  clear hY
  have HNI := hide not_is
  have HBI := hide byte_is
  have HDV := hide (fun x => pdivide_any x w)
  go_enter Try.func33, Try.ntmps33
  go_wp2
  clear hn0
  go_loop [5, 12] (fun xv iv => ∃ (i : Nat) (X : BitVec 32), iv = .int .i64 (i : Int) ∧ i ≤ b.length ∧ xv = .int .u32 (X.toNat : Int) ∧ Hid (foldB X (b.drop i) = foldB X0 b)) (fun _ iv => b.length - (intOf iv).toNat)
  case atStart => exact ⟨0, X0, rfl, Nat.zero_le _, rfl, hide (by rw [List.drop_zero])⟩
  case round =>
    obtain ⟨i, X, rfl, hi, rfl, HQ⟩ := hrel
    by_cases hlt : i < b.length
    · have hlt2 : (i : Int) < b.length := by omega
      have hnow := HQ.out
      rw [List.drop_eq_getElem_cons hlt, foldB, List.foldl_cons] at hnow
      rcases HY.out with ⟨h0, _⟩ | ⟨bb, bo, cap, e, hc1, hc2⟩
      · rw [h0] at hlt; simp at hlt
      injection e with e _ e3
      subst e e3
      have hcell := hc2 i hlt
      have hc0 : b[i].toNat < 256 := b[i].toNat_lt
      have HX := hide (HBI.out X b[i])
      have HDV2 := hide (HDV.out (X ^^^ b[i].toBitVec.zeroExtend 32))
      have HNOW : Hid (foldB (tN 8 (X ^^^ b[i].toBitVec.zeroExtend 32)) (b.drop (i + 1)) = foldB X0 b) := hide hnow
      clear hnow HQ hc1 hc2
      generalize X ^^^ b[i].toBitVec.zeroExtend 32 = X1 at *
      generalize b[i].toNat = c0 at *
      have hx := HX.out
      go_wp2_with fail
      refine HDV2.out.mono ?_
      rintro e w1 ⟨rfl, rfl⟩
      clear hx HX HDV2
      go_wp2
      go_round
      case rel => exact ⟨i + 1, _, by go_num, by omega, rfl, HNOW⟩
      case measure => simp [intOf]; omega
    · have hlt2 : ¬ (i : Int) < b.length := by omega
      obtain rfl : i = b.length := by omega
      have hnow := HQ.out
      rw [List.drop_length, foldB, List.foldl_nil] at hnow
      have hm := HM.out
      rw [← hnow] at hm
      have hx := HNI.out X
      rw [← hm] at hx
      clear hnow hm HQ
      go_wp2
      go_ret
      exact ⟨rfl, rfl⟩
theorem pmore_any (s : BitVec 32) (bv : Value) (b : Bs) (w : World) (hY : IsY w bv b) (hl : b.length ≤ 1000000) : Calls Try.prog 33 #[.int .u32 (s.toNat : Int), bv] w fun e w' => e = .returned (.int .u32 ((moreB s b).toNat : Int)) ∧ Below w.heap.size w w' :=
  (pmore_one s bv b w hY hl).mono fun e w' hh => ⟨hh.1, by rw [hh.2]; exact Below.refl _ _⟩
set_option maxHeartbeats 2000000 in
theorem psum_any (bv : Value) (b : Bs) (w : World) (hY : IsY w bv b) (hl : b.length ≤ 1000000) : Calls Try.prog 23 #[bv] w fun e w' => e = .returned (.int .u32 ((sumB b).toNat : Int)) ∧ Below w.heap.size w w' := by
  have HM : Hid (Calls Try.prog 33 #[.int .u32 0, bv] w fun e w' => e = .returned (.int .u32 ((sumB b).toNat : Int)) ∧ w' = w) := hide (pmore_one 0#32 bv b w hY hl)
  obtain ⟨a, c, rfl⟩ := hY.form
  clear hY
  generalize (sumB b).toNat = X at *
  generalize b.length = n at *
  go_enter Try.func23, Try.ntmps23
  go_wp2_with fail
  refine HM.out.mono ?_
  rintro e w1 ⟨rfl, rfl⟩
  clear HM
  go_wp2
  go_ret
  exact ⟨rfl, Below.refl _ _⟩
end Go.Proofs.Ytbodbomebmkopaa
