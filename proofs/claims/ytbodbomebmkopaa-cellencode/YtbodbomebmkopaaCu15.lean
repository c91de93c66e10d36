/- What the document's More answers. -/
import Derived.Test.YtbodbomebmkopaaCt15
set_option linter.unusedVariables false
set_option linter.unusedSimpArgs false
set_option maxRecDepth 40000
namespace Go.Proofs.Ytbodbomebmkopaa
open Go.RowKit

theorem xor_is (X Y : BitVec 32) : bits BinOp.xor IntKind.u32 (X.toNat : Int) (Y.toNat : Int) = ((X ^^^ Y).toNat : Int) := by
  have h1 : BitVec.ofInt 32 (X.toNat : Int) = X := by rw [BitVec.ofInt_natCast]; simp
  have h2 : BitVec.ofInt 32 (Y.toNat : Int) = Y := by rw [BitVec.ofInt_natCast]; simp
  have h3 : ((X ^^^ Y).toNat : Int) < 4294967296 := by have := (X ^^^ Y).isLt; omega
  show IntKind.u32.wrap ((BitVec.ofInt 32 (X.toNat : Int) ^^^ BitVec.ofInt 32 (Y.toNat : Int)).toNat : Int) = _
  rw [h1, h2]
  simp only [IntKind.wrap]
  rw [show IntKind.u32.signed = false from rfl, Bool.false_and, if_neg (by simp)]
  show ((X ^^^ Y).toNat : Int) % 4294967296 = _
  omega
theorem top_is (X : BitVec 32) : decide ((2147483648 : Int) ≤ (X.toNat : Int)) = X.getLsbD 31 := by
  have h : X.getLsbD 31 = decide (2147483648 ≤ X.toNat) := by
    rw [BitVec.getLsbD, Nat.testBit_eq_decide_div_mod_eq]
    have := X.isLt
    by_cases hx : 2147483648 ≤ X.toNat
    · rw [decide_eq_true hx, decide_eq_true_eq]
      omega
    · rw [decide_eq_false hx, decide_eq_false_iff_not]
      omega
  rw [h]
  by_cases hx : 2147483648 ≤ X.toNat
  · rw [decide_eq_true hx, decide_eq_true (by omega)]
  · rw [decide_eq_false hx, decide_eq_false (by omega)]
theorem shl_is (X : BitVec 32) : (X <<< 1).toNat = X.toNat * 2 % 4294967296 := by
  rw [BitVec.toNat_shiftLeft, Nat.shiftLeft_eq]
set_option maxHeartbeats 4000000 in
theorem rmore_any (s : Nat) (hs : s < 4294967296) (bv : Value) (b : Bs) (w : World) (hY : IsY w bv b) (hl : b.length ≤ 1000000) : Calls Try.prog 34 #[.int .u32 (s : Int), bv] w fun e w' => e = .returned (.int .u32 ((moreD (BitVec.ofNat 32 s) b).toNat : Int)) ∧ w' = w := by
  have HT := hide (fun x hx => rturned_any x hx w)
  have hsn : (BitVec.ofNat 32 s).toNat = s := by rw [BitVec.toNat_ofNat]; exact Nat.mod_eq_of_lt hs
  have hx0 := xor_is (BitVec.ofNat 32 s) 0xFFFFFFFF#32
  rw [hsn] at hx0
  have hx1 : bits BinOp.xor IntKind.u32 (s : Int) 4294967295 = ((BitVec.ofNat 32 s ^^^ 0xFFFFFFFF#32).toNat : Int) := hx0
  have HM : Hid (moreD (BitVec.ofNat 32 s) b = (b.foldl (fun x c => bitsD 8 x c.toNat) (BitVec.ofNat 32 s ^^^ 0xFFFFFFFF#32).reverse).reverse ^^^ 0xFFFFFFFF#32) := hide rfl
  have HRV : Hid (∀ X : BitVec 32, revN X.toNat = X.reverse.toNat) := hide (fun X => by unfold revN; rw [BitVec.ofNat_toNat]; simp)
  generalize moreD (BitVec.ofNat 32 s) b = RES at *
  generalize BitVec.ofNat 32 s ^^^ 0xFFFFFFFF#32 = X0 at *
  clear hx0 hsn
  have HXI := hide xor_is
  have HTI := hide top_is
  have HSH := hide shl_is
  obtain ⟨ba, bc, rfl⟩ := hY.form
  have HY := hide hY
  clear hY
  have hX0 := X0.isLt
  have HT0 := hide (HT.out X0.toNat hX0)
  rw [HRV.out X0] at HT0
  go_enter Try.func34, Try.ntmps34
  go_wp2_with fail
  refine HT0.out.mono ?_
  rintro e w1 ⟨rfl, rfl⟩
  clear hx1 HT0 hX0
  go_wp2
  go_loop [5, 6] (fun xv iv => ∃ (i : Nat) (X : BitVec 32), iv = .int .i64 (i : Int) ∧ i ≤ b.length ∧ xv = .int .u32 (X.toNat : Int) ∧ Hid ((b.drop i).foldl (fun x c => bitsD 8 x c.toNat) X = b.foldl (fun x c => bitsD 8 x c.toNat) X0.reverse)) (fun _ iv => b.length - (intOf iv).toNat)
  case atStart => exact ⟨0, X0.reverse, rfl, Nat.zero_le _, rfl, hide (by rw [List.drop_zero])⟩
  case round =>
    obtain ⟨i, X, rfl, hi, rfl, HQ⟩ := hrel
    by_cases hlt : i < b.length
    · have hlt2 : (i : Int) < b.length := by omega
      have hnow := HQ.out
      rw [List.drop_eq_getElem_cons hlt, List.foldl_cons] at hnow
      rcases HY.out with ⟨h0, _⟩ | ⟨bb, bo, cap, e, hc1, hc2⟩
      · rw [h0] at hlt; simp at hlt
      injection e with e _ e3
      subst e e3
      have hcell := hc2 i hlt
      have hc0 : b[i].toNat < 256 := b[i].toNat_lt
      have HNOW := hide hnow
      clear hnow HQ hc1 hc2
      generalize b[i].toNat = c0 at *
      go_wp2
      go_loop [5, 7, 8] (fun xv cv kv => ∃ (k c : Nat) (Y : BitVec 32), kv = .int .i64 (k : Int) ∧ k ≤ 8 ∧ cv = .int .u8 (c : Int) ∧ c < 256 ∧ xv = .int .u32 (Y.toNat : Int) ∧ Hid (bitsD (8 - k) Y c = bitsD 8 X c0)) (fun _ _ kv => 8 - (intOf kv).toNat)
      case atStart => exact ⟨0, c0, X, rfl, Nat.zero_le _, rfl, hc0, rfl, hide rfl⟩
      case round =>
        obtain ⟨k, c, Y, rfl, hk, rfl, hc, rfl, HK⟩ := hrel
        by_cases hkl : k < 8
        · have hkl2 : (k : Int) < 8 := by omega
          have hn2 := HK.out
          rw [show 8 - k = (8 - (k + 1)) + 1 by omega, bitsD] at hn2
          have htop := HTI.out Y
          have hsh := HSH.out Y
          have hx3 := HXI.out (Y <<< 1) 0x04C11DB7#32
          have hx4 : bits BinOp.xor IntKind.u32 (((Y <<< 1).toNat : Nat) : Int) 79764919 = ((Y <<< 1 ^^^ 0x04C11DB7#32).toNat : Int) := hx3
          have hY32 := Y.isLt
          have ht1 : (c : Int).tmod 2 = ((c % 2 : Nat) : Int) := by rw [Int.tmod_eq_emod_of_nonneg (by omega)]; omega
          have ht2 : (c : Int).tdiv 2 = ((c / 2 : Nat) : Int) := by rw [Int.tdiv_eq_ediv_of_nonneg (by omega)]; omega
          clear hx3 HK
          have hwz : IntKind.u32.wrap ((Y.toNat : Int) * 2) = (((Y <<< 1).toNat : Nat) : Int) := by
            simp only [IntKind.wrap]
            rw [show IntKind.u32.signed = false from rfl, Bool.false_and, if_neg (by simp)]
            show ((Y.toNat : Int) * 2) % 4294967296 = _
            rw [hsh]
            omega
          have hwz2 : ((Y.toNat : Int) * 2) % 4294967296 = (((Y <<< 1).toNat : Nat) : Int) := by rw [hsh]; omega
          have hlt32 := (Y <<< 1).isLt
          have hdiv : (c / 2 : Nat) < 256 := by omega
          clear hsh
          by_cases htp : (2147483648 : Int) ≤ (Y.toNat : Int)
          · rw [decide_eq_true htp] at htop
            by_cases hod : c % 2 = 1
            · have hodb : (((c % 2 : Nat) : Int) == 1) = true := by rw [hod]; rfl
              have hodb2 : (((c : Int) % 2) == 1) = true := by rw [beq_iff_eq]; omega
              have hstep : stepD Y (c % 2 == 1) = Y <<< 1 := by unfold stepD; rw [← htop, hod]; simp
              rw [hstep] at hn2
              have HN2 := hide hn2
              clear hn2 hstep htop
              generalize hy2 : (Y <<< 1).toNat = y2 at *
              clear hx4
              go_wp2
              go_round
              case rel => exact ⟨k + 1, c / 2, Y <<< 1, by go_num, by omega, by go_num, hdiv, by rw [hy2], HN2⟩
              case measure => simp [intOf]; omega
            · have hod0 : c % 2 = 0 := by omega
              have hodb : (((c % 2 : Nat) : Int) == 1) = false := by rw [hod0]; rfl
              have hodb2 : (((c : Int) % 2) == 1) = false := by rw [beq_eq_false_iff_ne]; omega
              have hstep : stepD Y (c % 2 == 1) = Y <<< 1 ^^^ 0x04C11DB7#32 := by unfold stepD; rw [← htop, hod0]; simp
              rw [hstep] at hn2
              have HN2 := hide hn2
              clear hn2 hstep htop
              generalize hy2 : (Y <<< 1).toNat = y2 at *
              generalize Y <<< 1 ^^^ 0x04C11DB7#32 = Y2 at *
              go_wp2
              go_round
              case rel => exact ⟨k + 1, c / 2, Y2, by go_num, by omega, by go_num, hdiv, rfl, HN2⟩
              case measure => simp [intOf]; omega
          · rw [decide_eq_false htp] at htop
            by_cases hod : c % 2 = 1
            · have hodb : (((c % 2 : Nat) : Int) == 1) = true := by rw [hod]; rfl
              have hodb2 : (((c : Int) % 2) == 1) = true := by rw [beq_iff_eq]; omega
              have hstep : stepD Y (c % 2 == 1) = Y <<< 1 ^^^ 0x04C11DB7#32 := by unfold stepD; rw [← htop, hod]; simp
              rw [hstep] at hn2
              have HN2 := hide hn2
              clear hn2 hstep htop
              generalize hy2 : (Y <<< 1).toNat = y2 at *
              generalize Y <<< 1 ^^^ 0x04C11DB7#32 = Y2 at *
              go_wp2
              go_round
              case rel => exact ⟨k + 1, c / 2, Y2, by go_num, by omega, by go_num, hdiv, rfl, HN2⟩
              case measure => simp [intOf]; omega
            · have hod0 : c % 2 = 0 := by omega
              have hodb : (((c % 2 : Nat) : Int) == 1) = false := by rw [hod0]; rfl
              have hodb2 : (((c : Int) % 2) == 1) = false := by rw [beq_eq_false_iff_ne]; omega
              have hstep : stepD Y (c % 2 == 1) = Y <<< 1 := by unfold stepD; rw [← htop, hod0]; simp
              rw [hstep] at hn2
              have HN2 := hide hn2
              clear hn2 hstep htop
              generalize hy2 : (Y <<< 1).toNat = y2 at *
              clear hx4
              go_wp2
              go_round
              case rel => exact ⟨k + 1, c / 2, Y <<< 1, by go_num, by omega, by go_num, hdiv, by rw [hy2], HN2⟩
              case measure => simp [intOf]; omega
        · have hkl2 : ¬ (k : Int) < 8 := by omega
          obtain rfl : k = 8 := by omega
          have hn2 := HK.out
          rw [Nat.sub_self, bitsD] at hn2
          subst hn2
          go_wp2
          go_round
          case rel => exact ⟨i + 1, _, by go_num, by omega, rfl, HNOW⟩
          case measure => simp [intOf]; omega
    · have hlt2 : ¬ (i : Int) < b.length := by omega
      obtain rfl : i = b.length := by omega
      have hnow := HQ.out
      rw [List.drop_length, List.foldl_nil] at hnow
      have hm := HM.out
      rw [← hnow] at hm
      have hX := X.isLt
      have HT1 := hide (HT.out X.toNat hX)
      rw [HRV.out X] at HT1
      have hx5 := HXI.out X.reverse 0xFFFFFFFF#32
      have hx6 : bits BinOp.xor IntKind.u32 ((X.reverse.toNat : Nat) : Int) 4294967295 = ((X.reverse ^^^ 0xFFFFFFFF#32).toNat : Int) := hx5
      rw [← hm] at hx6
      clear hx5 hnow hm HQ hX
      generalize X.reverse.toNat = xr at *
      go_wp2_with fail
      refine HT1.out.mono ?_
      rintro e w2 ⟨rfl, rfl⟩
      go_wp2
      go_ret
      exact ⟨rfl, rfl⟩
end Go.Proofs.Ytbodbomebmkopaa
