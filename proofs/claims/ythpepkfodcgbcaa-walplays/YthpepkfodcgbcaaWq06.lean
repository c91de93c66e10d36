import Derived.Test.YthpepkfodcgbcaaWq04
import Derived.Test.YthpepkfodcgbcaaWq05
/- The check sum as the document says it: the highest bit first, turned round. No program in it. -/
set_option linter.unusedVariables false
set_option linter.unusedSimpArgs false
namespace Go.Proofs.Ythpepkfodcgbcaa

/-- The document's step: a bit more, the highest one goes. -/
def stepD (x : BitVec 32) (b : Bool) : BitVec 32 := (x <<< 1) ^^^ (if (x.getLsbD 31 != b) then 0x04C11DB7#32 else 0#32)
theorem rev_poly : (0x04C11DB7#32).reverse = 0xEDB88320#32 := by decide +kernel
theorem rev_bit (x : BitVec 32) (i : Nat) (h : i < 32) : x.reverse.getLsbD i = x.getLsbD (31 - i) := by
  rw [BitVec.getLsbD_reverse, BitVec.getMsbD_eq_getLsbD]
  simp [h]
theorem rev_rev (x : BitVec 32) : x.reverse.reverse = x := by
  apply BitVec.eq_of_getLsbD_eq
  intro i hi
  rw [rev_bit _ i hi, rev_bit _ _ (by omega)]
  congr 1
  omega
theorem rev_xor (x y : BitVec 32) : (x ^^^ y).reverse = x.reverse ^^^ y.reverse := by
  apply BitVec.eq_of_getLsbD_eq
  intro i hi
  rw [rev_bit _ i hi, BitVec.getLsbD_xor, BitVec.getLsbD_xor, rev_bit _ i hi, rev_bit _ i hi]
theorem rev_shift (x : BitVec 32) : (x <<< 1).reverse = x.reverse >>> 1 := by
  apply BitVec.eq_of_getLsbD_eq
  intro i hi
  rw [rev_bit _ i hi, BitVec.getLsbD_ushiftRight, BitVec.getLsbD_shiftLeft]
  by_cases h : i = 31
  · subst h
    simp [BitVec.getLsbD_of_ge]
  · rw [rev_bit _ (1 + i) (by omega)]
    have h1 : 31 - i < 32 := by omega
    have h2 : ¬ (31 - i < 1) := by omega
    simp only [h1, h2, decide_true, decide_false, Bool.not_false, Bool.true_and]
    congr 1
    omega
theorem rev_zero : (0#32).reverse = 0#32 := by decide +kernel
theorem rev_step (x : BitVec 32) (b : Bool) : (stepD x b).reverse = tB (x.reverse ^^^ (if b then 1#32 else 0#32)) := by
  unfold stepD tB
  rw [rev_xor, rev_shift, BitVec.getLsbD_xor, rev_bit x 0 (by decide), BitVec.ushiftRight_xor_distrib]
  have e1 : ((if b then 1#32 else 0#32) >>> 1 : BitVec 32) = 0#32 := by cases b <;> decide
  have e2 : ((if b then 1#32 else 0#32) : BitVec 32).getLsbD 0 = b := by cases b <;> decide
  rw [e1, e2, BitVec.xor_zero]
  congr 1
  show (if (x.getLsbD 31 != b) = true then 0x04C11DB7#32 else 0#32).reverse = _
  cases x.getLsbD 31 <;> cases b <;> decide +kernel
/-- The bits of a byte, the lowest one first. -/
def bitsD : Nat → BitVec 32 → Nat → BitVec 32
  | 0, x, _ => x
  | n + 1, x, c => bitsD n (stepD x (c % 2 == 1)) (c / 2)
def bitsR : Nat → BitVec 32 → Nat → BitVec 32
  | 0, x, _ => x
  | n + 1, x, c => bitsR n (tB (x ^^^ (if (c % 2 == 1) then 1#32 else 0#32))) (c / 2)
theorem rev_bits : ∀ (n : Nat) (x : BitVec 32) (c : Nat), (bitsD n x c).reverse = bitsR n x.reverse c
  | 0, _, _ => rfl
  | n + 1, x, c => by rw [bitsD, bitsR, rev_bits n, rev_step]
theorem tB_even (y : BitVec 32) (h : y.getLsbD 31 = false) : tB (y <<< 1) = y := by
  unfold tB
  have h0 : (y <<< 1).getLsbD 0 = false := by rw [BitVec.getLsbD_shiftLeft]; simp
  rw [h0]
  apply BitVec.eq_of_getLsbD_eq
  intro i hi
  simp only [Bool.false_eq_true, if_false, BitVec.xor_zero, BitVec.getLsbD_ushiftRight, BitVec.getLsbD_shiftLeft]
  by_cases h31 : i = 31
  · subst h31
    rw [h]
    simp
  · have h1 : 1 + i < 32 := by omega
    have h2 : ¬ (1 + i < 1) := by omega
    simp only [h1, h2, decide_true, decide_false, Bool.not_false, Bool.true_and]
    congr 1
    omega
theorem low_all : (List.range 256).all (fun c => BitVec.ofNat 32 c == ((if (c % 2 == 1) then 1#32 else 0#32) ^^^ (BitVec.ofNat 32 (c / 2) <<< 1))) = true := by decide +kernel
theorem low_split (c : Nat) (h : c < 256) : BitVec.ofNat 32 c = (if (c % 2 == 1) then 1#32 else 0#32) ^^^ (BitVec.ofNat 32 (c / 2) <<< 1) := beq_iff_eq.1 (List.all_eq_true.1 low_all c (List.mem_range.2 h))
theorem bits_fold : ∀ (n : Nat) (x : BitVec 32) (c : Nat), c < 256 → c < 2 ^ n → bitsR n x c = tN n (x ^^^ BitVec.ofNat 32 c)
  | 0, x, c, h, h2 => by
    obtain rfl : c = 0 := by simpa using h2
    show x = x ^^^ 0#32
    rw [BitVec.xor_zero]
  | n + 1, x, c, h, h2 => by
    rw [bitsR, tN, bits_fold n _ (c / 2) (by omega) (by rw [Nat.pow_succ] at h2; omega)]
    congr 1
    rw [low_split c h, ← BitVec.xor_assoc, tB_xor _ (BitVec.ofNat 32 (c / 2) <<< 1), tB_even]
    rw [BitVec.getLsbD_ofNat]
    have : (c / 2).testBit 31 = false := Nat.testBit_lt_two_pow (by omega)
    rw [this]
    rfl
/-- A byte, as the document takes it. -/
theorem rev_byte (x : BitVec 32) (c : UInt8) : (bitsD 8 x c.toNat).reverse = byB x.reverse c := by
  have hc : c.toNat < 256 := c.toNat_lt
  rw [rev_bits, bits_fold 8 _ _ hc (by simpa using hc)]
  unfold byB
  congr 2
  apply BitVec.eq_of_toNat_eq
  simp
def moreD (s : BitVec 32) (l : List UInt8) : BitVec 32 := (l.foldl (fun x c => bitsD 8 x c.toNat) (s ^^^ 0xFFFFFFFF#32).reverse).reverse ^^^ 0xFFFFFFFF#32
theorem fold_rev : ∀ (l : List UInt8) (x : BitVec 32), (l.foldl (fun x c => bitsD 8 x c.toNat) x).reverse = foldB x.reverse l
  | [], _ => rfl
  | c :: r, x => by
    rw [List.foldl_cons, fold_rev r, rev_byte]
    rfl
theorem moreD_is (s : BitVec 32) (l : List UInt8) : moreD s l = moreB s l := by
  unfold moreD moreB
  rw [fold_rev, rev_rev]
end Go.Proofs.Ythpepkfodcgbcaa
/- What the document's turned answers. -/
set_option linter.unusedVariables false
set_option linter.unusedSimpArgs false
set_option maxRecDepth 4000
namespace Go.Proofs.Ythpepkfodcgbcaa
open Go.RowKit

def revN (x : Nat) : Nat := (BitVec.ofNat 32 x).reverse.toNat
theorem revN_lt (x : Nat) : revN x < 4294967296 := (BitVec.ofNat 32 x).reverse.isLt
theorem revN_bit (x i : Nat) (hi : i < 32) : revN x / 2 ^ (31 - i) % 2 = x / 2 ^ i % 2 := by
  have h : (revN x).testBit (31 - i) = x.testBit i := by
    show (BitVec.ofNat 32 x).reverse.getLsbD (31 - i) = _
    rw [rev_bit _ _ (by omega), BitVec.getLsbD_ofNat, show 31 - (31 - i) = i by omega, decide_eq_true hi, Bool.true_and]
  rw [← Nat.toNat_testBit, ← Nat.toNat_testBit, h]
theorem revN_step (x i : Nat) (hi : i < 32) : revN x / 2 ^ (32 - (i + 1)) = revN x / 2 ^ (32 - i) * 2 + x / 2 ^ i % 2 := by
  rw [← revN_bit x i hi, show 32 - (i + 1) = 31 - i by omega, show 32 - i = (31 - i) + 1 by omega, Nat.pow_succ, ← Nat.div_div_eq_div_mul]
  omega
theorem half_step (x i : Nat) : x / 2 ^ (i + 1) = x / 2 ^ i / 2 := by rw [Nat.pow_succ, Nat.div_div_eq_div_mul]
set_option maxHeartbeats 1000000 in
theorem rturned_any (x : Nat) (hx : x < 4294967296) (w : World) : Calls Try.prog 82 #[.int .u32 (x : Int)] w fun e w' => e = .returned (.int .u32 (revN x : Int)) ∧ w' = w := by
  have H1 := hide (revN_step x)
  have H2 := hide (half_step x)
  have H3 := hide (revN_lt x)
  go_enter Try.func82, Try.ntmps82
  go_wp2
  go_loop [0, 3, 4] (fun xv yv iv => ∃ i X Y : Nat, iv = .int .i64 (i : Int) ∧ i ≤ 32 ∧ xv = .int .u32 (X : Int) ∧ yv = .int .u32 (Y : Int) ∧ X < 4294967296 ∧ Hid (X = x / 2 ^ i) ∧ Hid (Y = revN x / 2 ^ (32 - i))) (fun _ _ iv => 32 - (intOf iv).toNat)
  case atStart => exact ⟨0, x, 0, rfl, Nat.zero_le _, rfl, rfl, hx, hide (by simp), hide (by rw [Nat.div_eq_of_lt H3.out])⟩
  case round =>
    obtain ⟨i, X, Y, rfl, hi, rfl, rfl, hX, HX, HY⟩ := hrel
    by_cases hlt : i < 32
    · have hlt2 : (i : Int) < 32 := by omega
      have hs := H1.out i hlt
      rw [← HX.out, ← HY.out] at hs
      have hb : Y * 2 + X % 2 < 4294967296 := by rw [← hs]; exact Nat.lt_of_le_of_lt (Nat.div_le_self _ _) H3.out
      have HX2 : Hid (X / 2 = x / 2 ^ (i + 1)) := hide (by rw [H2.out i, ← HX.out])
      have HY2 : Hid (Y * 2 + X % 2 = revN x / 2 ^ (32 - (i + 1))) := hide hs.symm
      have ht1 : (X : Int).tmod 2 = ((X % 2 : Nat) : Int) := by rw [Int.tmod_eq_emod_of_nonneg (by omega)]; omega
      have ht2 : (X : Int).tdiv 2 = ((X / 2 : Nat) : Int) := by rw [Int.tdiv_eq_ediv_of_nonneg (by omega)]; omega
      clear hs HX HY
      go_wp2
      go_round
      case rel => exact ⟨i + 1, X / 2, Y * 2 + X % 2, by go_num, by omega, by go_num, by go_num, by omega, HX2, HY2⟩
      case measure => simp [intOf]; omega
    · have hlt2 : ¬ (i : Int) < 32 := by omega
      obtain rfl : i = 32 := by omega
      have hy := HY.out
      rw [Nat.sub_self, Nat.pow_zero, Nat.div_one] at hy
      subst hy
      go_wp2
      go_ret
      exact ⟨rfl, rfl⟩
end Go.Proofs.Ythpepkfodcgbcaa
/- What the document's More answers. -/
set_option linter.unusedVariables false
set_option linter.unusedSimpArgs false
set_option maxRecDepth 40000
namespace Go.Proofs.Ythpepkfodcgbcaa
open Go.RowKit

theorem xor_is (X Y : BitVec 32) : bits BinOp.xor IntKind.u32 (X.toNat : Int) (Y.toNat : Int) = ((X ^^^ Y).toNat : Int) := by
  have h1 : BitVec.ofInt 32 (X.toNat : Int) = X := by rw [BitVec.ofInt_natCast]; simp
  have h2 : BitVec.ofInt 32 (Y.toNat : Int) = Y := by rw [BitVec.ofInt_natCast]; simp
  have h3 : ((X ^^^ Y).toNat : Int) < 4294967296 := by have := (X ^^^ Y).isLt; omega
  show IntKind.u32.wrap ((BitVec.ofInt 32 (X.toNat : Int) ^^^ BitVec.ofInt 32 (Y.toNat : Int)).toNat : Int) = _
  rw [h1, h2]
  simp only [IntKind.wrap]
  rw [show IntKind.u32.signed = false from rfl, Bool.false_and, if_neg (by simp)]
  show ((X ^^^ Y).toNat : Int) % 4294967296 = _
  omega
theorem top_is (X : BitVec 32) : decide ((2147483648 : Int) ≤ (X.toNat : Int)) = X.getLsbD 31 := by
  have h : X.getLsbD 31 = decide (2147483648 ≤ X.toNat) := by
    rw [BitVec.getLsbD, Nat.testBit_eq_decide_div_mod_eq]
    have := X.isLt
    by_cases hx : 2147483648 ≤ X.toNat
    · rw [decide_eq_true hx, decide_eq_true_eq]
      omega
    · rw [decide_eq_false hx, decide_eq_false_iff_not]
      omega
  rw [h]
  by_cases hx : 2147483648 ≤ X.toNat
  · rw [decide_eq_true hx, decide_eq_true (by omega)]
  · rw [decide_eq_false hx, decide_eq_false (by omega)]
theorem shl_is (X : BitVec 32) : (X <<< 1).toNat = X.toNat * 2 % 4294967296 := by
  rw [BitVec.toNat_shiftLeft, Nat.shiftLeft_eq]
set_option maxHeartbeats 4000000 in
theorem rmore_any (s : Nat) (hs : s < 4294967296) (bv : Value) (b : Bs) (w : World) (hY : IsY w bv b) (hl : b.length ≤ 1000000) : Calls Try.prog 77 #[.int .u32 (s : Int), bv] w fun e w' => e = .returned (.int .u32 ((moreD (BitVec.ofNat 32 s) b).toNat : Int)) ∧ w' = w := by
  have HT := hide (fun x hx => rturned_any x hx w)
  have hsn : (BitVec.ofNat 32 s).toNat = s := by rw [BitVec.toNat_ofNat]; exact Nat.mod_eq_of_lt hs
  have hx0 := xor_is (BitVec.ofNat 32 s) 0xFFFFFFFF#32
  rw [hsn] at hx0
  have hx1 : bits BinOp.xor IntKind.u32 (s : Int) 4294967295 = ((BitVec.ofNat 32 s ^^^ 0xFFFFFFFF#32).toNat : Int) := hx0
  have HM : Hid (moreD (BitVec.ofNat 32 s) b = (b.foldl (fun x c => bitsD 8 x c.toNat) (BitVec.ofNat 32 s ^^^ 0xFFFFFFFF#32).reverse).reverse ^^^ 0xFFFFFFFF#32) := hide rfl
  have HRV : Hid (∀ X : BitVec 32, revN X.toNat = X.reverse.toNat) := hide (fun X => by unfold revN; rw [BitVec.ofNat_toNat]; simp)
  generalize moreD (BitVec.ofNat 32 s) b = RES at *
  generalize BitVec.ofNat 32 s ^^^ 0xFFFFFFFF#32 = X0 at *
  clear hx0 hsn
  have HXI := hide xor_is
  have HTI := hide top_is
  have HSH := hide shl_is
  obtain ⟨ba, bc, rfl⟩ := hY.form
  have HY := hide hY
  clear hY
  have hX0 := X0.isLt
  have HT0 := hide (HT.out X0.toNat hX0)
  rw [HRV.out X0] at HT0
  go_enter Try.func77, Try.ntmps77
  go_wp2_with fail
  refine HT0.out.mono ?_
  rintro e w1 ⟨rfl, rfl⟩
  clear hx1 HT0 hX0
  go_wp2
  go_loop [5, 6] (fun xv iv => ∃ (i : Nat) (X : BitVec 32), iv = .int .i64 (i : Int) ∧ i ≤ b.length ∧ xv = .int .u32 (X.toNat : Int) ∧ Hid ((b.drop i).foldl (fun x c => bitsD 8 x c.toNat) X = b.foldl (fun x c => bitsD 8 x c.toNat) X0.reverse)) (fun _ iv => b.length - (intOf iv).toNat)
  case atStart => exact ⟨0, X0.reverse, rfl, Nat.zero_le _, rfl, hide (by rw [List.drop_zero])⟩
  case round =>
    obtain ⟨i, X, rfl, hi, rfl, HQ⟩ := hrel
    by_cases hlt : i < b.length
    · have hlt2 : (i : Int) < b.length := by omega
      have hnow := HQ.out
      rw [List.drop_eq_getElem_cons hlt, List.foldl_cons] at hnow
      rcases HY.out with ⟨h0, _⟩ | ⟨bb, bo, cap, e, hc1, hc2⟩
      · rw [h0] at hlt; simp at hlt
      injection e with e _ e3
      subst e e3
      have hcell := hc2 i hlt
      have hc0 : b[i].toNat < 256 := b[i].toNat_lt
      have HNOW := hide hnow
      clear hnow HQ hc1 hc2
      generalize b[i].toNat = c0 at *
      go_wp2
      go_loop [5, 7, 8] (fun xv cv kv => ∃ (k c : Nat) (Y : BitVec 32), kv = .int .i64 (k : Int) ∧ k ≤ 8 ∧ cv = .int .u8 (c : Int) ∧ c < 256 ∧ xv = .int .u32 (Y.toNat : Int) ∧ Hid (bitsD (8 - k) Y c = bitsD 8 X c0)) (fun _ _ kv => 8 - (intOf kv).toNat)
      case atStart => exact ⟨0, c0, X, rfl, Nat.zero_le _, rfl, hc0, rfl, hide rfl⟩
      case round =>
        obtain ⟨k, c, Y, rfl, hk, rfl, hc, rfl, HK⟩ := hrel
        by_cases hkl : k < 8
        · have hkl2 : (k : Int) < 8 := by omega
          have hn2 := HK.out
          rw [show 8 - k = (8 - (k + 1)) + 1 by omega, bitsD] at hn2
          have htop := HTI.out Y
          have hsh := HSH.out Y
          have hx3 := HXI.out (Y <<< 1) 0x04C11DB7#32
          have hx4 : bits BinOp.xor IntKind.u32 (((Y <<< 1).toNat : Nat) : Int) 79764919 = ((Y <<< 1 ^^^ 0x04C11DB7#32).toNat : Int) := hx3
          have hY32 := Y.isLt
          have ht1 : (c : Int).tmod 2 = ((c % 2 : Nat) : Int) := by rw [Int.tmod_eq_emod_of_nonneg (by omega)]; omega
          have ht2 : (c : Int).tdiv 2 = ((c / 2 : Nat) : Int) := by rw [Int.tdiv_eq_ediv_of_nonneg (by omega)]; omega
          clear hx3 HK
          have hwz : IntKind.u32.wrap ((Y.toNat : Int) * 2) = (((Y <<< 1).toNat : Nat) : Int) := by
            simp only [IntKind.wrap]
            rw [show IntKind.u32.signed = false from rfl, Bool.false_and, if_neg (by simp)]
            show ((Y.toNat : Int) * 2) % 4294967296 = _
            rw [hsh]
            omega
          have hwz2 : ((Y.toNat : Int) * 2) % 4294967296 = (((Y <<< 1).toNat : Nat) : Int) := by rw [hsh]; omega
          have hlt32 := (Y <<< 1).isLt
          have hdiv : (c / 2 : Nat) < 256 := by omega
          clear hsh
          by_cases htp : (2147483648 : Int) ≤ (Y.toNat : Int)
          · rw [decide_eq_true htp] at htop
            by_cases hod : c % 2 = 1
            · have hodb : (((c % 2 : Nat) : Int) == 1) = true := by rw [hod]; rfl
              have hodb2 : (((c : Int) % 2) == 1) = true := by rw [beq_iff_eq]; omega
              have hstep : stepD Y (c % 2 == 1) = Y <<< 1 := by unfold stepD; rw [← htop, hod]; simp
              rw [hstep] at hn2
              have HN2 := hide hn2
              clear hn2 hstep htop
              generalize hy2 : (Y <<< 1).toNat = y2 at *
              clear hx4
              go_wp2
              go_round
              case rel => exact ⟨k + 1, c / 2, Y <<< 1, by go_num, by omega, by go_num, hdiv, by rw [hy2], HN2⟩
              case measure => simp [intOf]; omega
            · have hod0 : c % 2 = 0 := by omega
              have hodb : (((c % 2 : Nat) : Int) == 1) = false := by rw [hod0]; rfl
              have hodb2 : (((c : Int) % 2) == 1) = false := by rw [beq_eq_false_iff_ne]; omega
              have hstep : stepD Y (c % 2 == 1) = Y <<< 1 ^^^ 0x04C11DB7#32 := by unfold stepD; rw [← htop, hod0]; simp
              rw [hstep] at hn2
              have HN2 := hide hn2
              clear hn2 hstep htop
              generalize hy2 : (Y <<< 1).toNat = y2 at *
              generalize Y <<< 1 ^^^ 0x04C11DB7#32 = Y2 at *
              go_wp2
              go_round
              case rel => exact ⟨k + 1, c / 2, Y2, by go_num, by omega, by go_num, hdiv, rfl, HN2⟩
              case measure => simp [intOf]; omega
          · rw [decide_eq_false htp] at htop
            by_cases hod : c % 2 = 1
            · have hodb : (((c % 2 : Nat) : Int) == 1) = true := by rw [hod]; rfl
              have hodb2 : (((c : Int) % 2) == 1) = true := by rw [beq_iff_eq]; omega
              have hstep : stepD Y (c % 2 == 1) = Y <<< 1 ^^^ 0x04C11DB7#32 := by unfold stepD; rw [← htop, hod]; simp
              rw [hstep] at hn2
              have HN2 := hide hn2
              clear hn2 hstep htop
              generalize hy2 : (Y <<< 1).toNat = y2 at *
              generalize Y <<< 1 ^^^ 0x04C11DB7#32 = Y2 at *
              go_wp2
              go_round
              case rel => exact ⟨k + 1, c / 2, Y2, by go_num, by omega, by go_num, hdiv, rfl, HN2⟩
              case measure => simp [intOf]; omega
            · have hod0 : c % 2 = 0 := by omega
              have hodb : (((c % 2 : Nat) : Int) == 1) = false := by rw [hod0]; rfl
              have hodb2 : (((c : Int) % 2) == 1) = false := by rw [beq_eq_false_iff_ne]; omega
              have hstep : stepD Y (c % 2 == 1) = Y <<< 1 := by unfold stepD; rw [← htop, hod0]; simp
              rw [hstep] at hn2
              have HN2 := hide hn2
              clear hn2 hstep htop
              generalize hy2 : (Y <<< 1).toNat = y2 at *
              clear hx4
              go_wp2
              go_round
              case rel => exact ⟨k + 1, c / 2, Y <<< 1, by go_num, by omega, by go_num, hdiv, by rw [hy2], HN2⟩
              case measure => simp [intOf]; omega
        · have hkl2 : ¬ (k : Int) < 8 := by omega
          obtain rfl : k = 8 := by omega
          have hn2 := HK.out
          rw [Nat.sub_self, bitsD] at hn2
          subst hn2
          go_wp2
          go_round
          case rel => exact ⟨i + 1, _, by go_num, by omega, rfl, HNOW⟩
          case measure => simp [intOf]; omega
    · have hlt2 : ¬ (i : Int) < b.length := by omega
      obtain rfl : i = b.length := by omega
      have hnow := HQ.out
      rw [List.drop_length, List.foldl_nil] at hnow
      have hm := HM.out
      rw [← hnow] at hm
      have hX := X.isLt
      have HT1 := hide (HT.out X.toNat hX)
      rw [HRV.out X] at HT1
      have hx5 := HXI.out X.reverse 0xFFFFFFFF#32
      have hx6 : bits BinOp.xor IntKind.u32 ((X.reverse.toNat : Nat) : Int) 4294967295 = ((X.reverse ^^^ 0xFFFFFFFF#32).toNat : Int) := hx5
      rw [← hm] at hx6
      clear hx5 hnow hm HQ hX
      generalize X.reverse.toNat = xr at *
      go_wp2_with fail
      refine HT1.out.mono ?_
      rintro e w2 ⟨rfl, rfl⟩
      go_wp2
      go_ret
      exact ⟨rfl, rfl⟩
end Go.Proofs.Ythpepkfodcgbcaa
/- How a cell lies there; what the document's May, Many and Sum answer. -/
set_option linter.unusedVariables false
set_option linter.unusedSimpArgs false
set_option maxRecDepth 4000
namespace Go.Proofs.Ythpepkfodcgbcaa
open Go.RowKit

/-- A cell as it is handed on: its numbers, and where its bytes lie. -/
abbrev clC (c : CL) (dv : Value) : Array Value := #[.int .u64 (c.ep : Int), .int .u64 (c.li : Int), .int .i64 c.part, .int .i64 c.of, dv]
abbrev clA (c : CL) (dv : Value) : Value := .agg (clC c dv)
/-- A cell's numbers are such as the language's types hold, and its bytes lie there. -/
structure IsC (w : World) (c : CL) (dv : Value) : Prop where
  ep : c.ep < 18446744073709551616
  li : c.li < 18446744073709551616
  part : -9223372036854775808 ≤ c.part ∧ c.part ≤ 9223372036854775807
  of : -9223372036854775808 ≤ c.of ∧ c.of ≤ 9223372036854775807
  d : IsY w dv c.data
theorem IsC.below {w W : World} {c : CL} {dv : Value} (h : IsC w c dv) (hb : Below w.heap.size w W) : IsC W c dv := ⟨h.ep, h.li, h.part, h.of, h.d.below hb⟩
set_option maxHeartbeats 1000000 in
theorem rmany_any (n : Nat) (hn : n ≤ 1000000000) (w : World) : Calls Try.prog 66 #[.int .i64 (n : Int)] w fun e w' => e = .returned (.int .i64 (((n + 38) / 39 : Nat) : Int)) ∧ w' = w := by
  have h1 : ((n : Int) + 38).tdiv 39 = (((n + 38) / 39 : Nat) : Int) := by rw [Int.tdiv_eq_ediv_of_nonneg (by omega)]; omega
  go_enter Try.func66, Try.ntmps66
  go_wp2
  go_ret
  refine ⟨?_, rfl⟩
  show Ending.returned (Value.int IntKind.i64 (((n : Int) + 39 - 1) / 39)) = _
  rw [show ((n : Int) + 39 - 1) / 39 = (((n + 38) / 39 : Nat) : Int) by omega]
set_option maxHeartbeats 1000000 in
theorem rsum_any (bv : Value) (b : Bs) (w : World) (hY : IsY w bv b) (hl : b.length ≤ 1000000) : Calls Try.prog 69 #[bv] w fun e w' => e = .returned (.int .u32 ((sumB b).toNat : Int)) ∧ w' = w := by
  have HM := hide (rmore_any 0 (by decide) bv b w hY hl)
  obtain ⟨a, c, rfl⟩ := hY.form
  rw [moreD_is, show BitVec.ofNat 32 0 = 0#32 from rfl, show moreB 0#32 b = sumB b from rfl] at HM
  generalize (sumB b).toNat = R at *
  clear hY
  go_enter Try.func69, Try.ntmps69
  go_wp2_with fail
  refine HM.out.mono ?_
  rintro e w1 ⟨rfl, rfl⟩
  go_wp2
  go_ret
  exact ⟨rfl, rfl⟩
set_option maxHeartbeats 1000000 in
theorem rmay_any (c : CL) (dv : Value) (w : World) (hC : IsC w c dv) : Calls Try.prog 67 #[clA c dv] w fun e w' => e = .returned (.bool (decide (mayC c))) ∧ Below w.heap.size w w' := by
  have BB := hide (below_alloc w (.cells (clC c dv) 90))
  obtain ⟨a, k, rfl⟩ := hC.d.form
  have hM : decide (mayC c) = (decide (0 ≤ c.part) && (decide (c.part < c.of) && (decide (c.of ≤ 65535) && decide (((c.data.length : Nat) : Int) ≤ 39)))) := by
    rw [← Bool.decide_and, ← Bool.decide_and, ← Bool.decide_and]
    apply decide_eq_decide.2
    unfold mayC
    omega
  rw [hM]
  clear hM hC
  obtain ⟨ep, li, part, of, data⟩ := c
  simp only [] at *
  generalize data.length = m at *
  by_cases h1 : 0 ≤ part
  · rw [decide_eq_true h1, Bool.true_and]
    by_cases h2 : part < of
    · rw [decide_eq_true h2, Bool.true_and]
      by_cases h3 : of ≤ 65535
      · rw [decide_eq_true h3, Bool.true_and]
        by_cases h4 : (m : Int) ≤ 39
        · rw [decide_eq_true h4]
          go_enter Try.func67, Try.ntmps67
          go_wp2
          go_ret
          exact ⟨rfl, BB.out⟩
        · rw [decide_eq_false h4]
          go_enter Try.func67, Try.ntmps67
          go_wp2
          go_ret
          exact ⟨rfl, BB.out⟩
      · rw [decide_eq_false h3, Bool.false_and]
        go_enter Try.func67, Try.ntmps67
        go_wp2
        go_ret
        exact ⟨rfl, BB.out⟩
    · rw [decide_eq_false h2, Bool.false_and]
      go_enter Try.func67, Try.ntmps67
      go_wp2
      go_ret
      exact ⟨rfl, BB.out⟩
  · rw [decide_eq_false h1, Bool.false_and]
    go_enter Try.func67, Try.ntmps67
    go_wp2
    go_ret
    exact ⟨rfl, BB.out⟩
end Go.Proofs.Ythpepkfodcgbcaa
/- Bytes behind bytes of one's own. -/
set_option linter.unusedVariables false
set_option linter.unusedSimpArgs false
set_option maxRecDepth 4000
namespace Go.Proofs.Ythpepkfodcgbcaa
open Go.RowKit

theorem owns_isYB {w : World} {B : Nat} {v : Value} {l : Bs} (h : w.ownsRow B 5 1 v l.length (Lib.byteCells l)) : IsY w v l := by
  rcases h.2 with ⟨rfl, h2⟩ | ⟨g, cap, cur, rfl, _, _, hc, _⟩
  · exact .inl ⟨List.eq_nil_of_length_eq_zero h2, _, _, rfl⟩
  · exact .inr ⟨g, 0, cap, rfl, hc, fun j hj => by rw [Nat.zero_add]; exact (h.cellAt j (by omega)).trans (byteCells_get l j hj)⟩
theorem owns_blkY {w : World} {B n : Nat} {t : TypeId} {v : Value} {l : List Value} (h : w.ownsRow B t 1 v n l) : ∀ k, v.ownBlock = some k → B ≤ k := by
  intro k hk
  rcases h.2 with ⟨rfl, _⟩ | ⟨g, cap, cur, rfl, h2, _⟩
  · simp [Value.ownBlock] at hk
  · simp [Value.ownBlock] at hk; omega
/-- append(v, u...), v some bytes of one's own. -/
theorem append_isY (W : World) (B : Nat) (v u : Value) (l x : Bs) (hown : W.ownsRow B 5 1 v l.length (Lib.byteCells l)) (hU : IsY W u x) (h0 : 0 < l.length) (h1 : l.length ≤ 1000000) (h2 : x.length ≤ 1000000) (hB : B ≤ W.heap.size) :
    ∃ a c w', (Builtin.append_ #[43, 43] 43 #[v, u]).run Try.prog W = .ok (.slice a (l ++ x).length c) w' ∧ w'.ownsRow B 5 1 (.slice a (l ++ x).length c) (l ++ x).length (Lib.byteCells (l ++ x)) ∧ Below B W w' := by
  rcases hU with ⟨rfl, a, c, rfl⟩ | ⟨b, o, cap, rfl, _, hc⟩
  · have hown0 := hown
    rcases hown.2 with ⟨rfl, h3⟩ | ⟨g, cap, cur, rfl, _, _, h4, h5, _⟩
    · omega
    · rw [List.append_nil]
      exact ⟨_, _, _, append_nothingY _ g _ cap a c h4 h5, hown0, Below.refl _ _⟩
  · obtain ⟨v', w', hr, ho, hg, _, hat⟩ := run_append_own_at (P := Try.prog) W B 43 43 5 Try.t5 (.int .u8 0) 1 1 Try.underlying43 (by kernel_rfl) (by kernel_rfl) (by kernel_rfl) (by kernel_rfl) (by kernel_rfl) (by omega)
      v l.length (Lib.byteCells l) hown ⟨b, o, none⟩ x.length cap (Lib.byteCells x) (by rw [byteCells_len, Nat.mul_one])
      (by
        intro j u hu
        have hj : j < x.length := by rw [← byteCells_len]; exact (List.getElem?_eq_some_iff.1 hu).1
        rw [addr_addo, hc j hj]
        rw [byteCells_get x j hj] at hu
        exact hu) (byteCells_one x) (by unfold maxLen; omega) (by omega) hB
    rw [← Lib.byteCells_append, ← List.length_append] at ho
    obtain ⟨a, c, rfl⟩ := owns_formY ho
    exact ⟨a, c, w', hr, ho, (Below.refl _ _).grown hg hB (owns_blkY hown)⟩
end Go.Proofs.Ythpepkfodcgbcaa
/- What the document's Encode answers. -/
set_option linter.unusedVariables false
set_option linter.unusedSimpArgs false
set_option maxRecDepth 40000
namespace Go.Proofs.Ythpepkfodcgbcaa
open Go.RowKit

abbrev clW (w : World) (c : CL) (dv : Value) : World := w.alloc (.cells (clC c dv) 90)
theorem alloc_newC (w : World) (o : Obj) : (w.alloc o).heap[w.heap.size]? = some o := by show (Array.push w.heap o)[w.heap.size]? = _; simp
theorem cl_box (w : World) (c : CL) (dv : Value) {x : World} (h : Below (clW w c dv).heap.size (clW w c dv) x) : x.heap[w.heap.size]? = some (.cells (clC c dv) 90 (0, 0)) ∧ Below w.heap.size w x := by
  have hb := below_alloc w (.cells (clC c dv) 90)
  exact ⟨(h.block w.heap.size (by simp)).trans (alloc_newC w _), hb.trans (h.mono hb.size)⟩
theorem cl_cells {w : World} {A : Nat} {c : CL} {dv : Value} (h : w.heap[A]? = some (.cells (clC c dv) 90 (0, 0))) : w.cell? ⟨A, 0, none⟩ = some (.int .u64 (c.ep : Int)) ∧ w.cell? ⟨A, 1, none⟩ = some (.int .u64 (c.li : Int)) ∧ w.cell? ⟨A, 2, none⟩ = some (.int .i64 c.part) ∧ w.cell? ⟨A, 3, none⟩ = some (.int .i64 c.of) ∧ w.cell? ⟨A, 4, none⟩ = some dv := by
  refine ⟨?_, ?_, ?_, ?_, ?_⟩ <;> simp [World.cell?, h, clC]
theorem own_baseY {w : World} {B C n : Nat} {t : TypeId} {v : Value} {l : List Value} (h : w.ownsRow B t 1 v n l) (hc : C ≤ B) : w.ownsRow C t 1 v n l := by
  refine ⟨h.1, ?_⟩
  rcases h.2 with h2 | ⟨g, cap, cur, h1, h2, h3⟩
  · exact .inl h2
  · exact .inr ⟨g, cap, cur, h1, Nat.le_trans hc h2, h3⟩
set_option maxHeartbeats 1000000 in
theorem renc_not (c : CL) (dv : Value) (w : World) (hC : IsC w c dv) (hn : ¬ mayC c) : Calls Try.prog 50 #[clA c dv] w fun e w' => e = .returned (.tuple #[.slice none 0 0, .int .i64 1]) ∧ Below w.heap.size w w' := by
  have HM := hide (rmay_any c dv (clW w c dv) (hC.below (below_alloc w _)))
  rw [decide_eq_false hn] at HM
  have HBX := hide (fun x (b : Below (clW w c dv).heap.size (clW w c dv) x) => (cl_box w c dv b).2)
  obtain ⟨a, k, rfl⟩ := hC.d.form
  obtain ⟨ep, li, part, of, data⟩ := c
  simp only [] at *
  generalize data.length = m at *
  clear hC hn
  go_enter Try.func50, Try.ntmps50
  go_wp2_with fail
  refine HM.out.mono ?_
  rintro e w1 ⟨rfl, b1⟩
  have BW := hide (HBX.out _ b1)
  clear b1 HM HBX
  go_wp2
  go_ret2
  exact ⟨rfl, BW.out⟩
set_option maxHeartbeats 4000000 in
theorem renc_may (c : CL) (dv : Value) (w : World) (hC : IsC w c dv) (hm : mayC c) : Calls Try.prog 50 #[clA c dv] w fun e w' => (∃ v, e = .returned (.tuple #[v, .int .i64 0]) ∧ w'.ownsRow w.heap.size 5 1 v 64 (Lib.byteCells (encC c))) ∧ Below w.heap.size w w' := by
  have HM := hide (rmay_any c dv (clW w c dv) (hC.below (below_alloc w _)))
  rw [decide_eq_true hm] at HM
  have HBX := hide (fun x (b : Below (clW w c dv).heap.size (clW w c dv) x) => cl_box w c dv b)
  have HD := hide (fun x (b : Below (clW w c dv).heap.size (clW w c dv) x) => hC.d.below (cl_box w c dv b).2)
  have HCE := hide (fun x (b : Below (clW w c dv).heap.size (clW w c dv) x) => cl_cells (cl_box w c dv b).1)
  obtain ⟨h1, h2, h3, h4⟩ := hm
  obtain ⟨p, hp⟩ : ∃ p : Nat, c.part = (p : Int) := ⟨c.part.toNat, by omega⟩
  obtain ⟨q, hq⟩ : ∃ q : Nat, c.of = (q : Int) := ⟨c.of.toNat, by omega⟩
  have hep := hC.ep
  have hli := hC.li
  obtain ⟨a, k, rfl⟩ := hC.d.form
  obtain ⟨ep, li, part, of, data⟩ := c
  simp only [] at *
  subst hp hq
  clear hC
  have hpl : p < 65536 := by omega
  have hql : q < 65536 := by omega
  clear h1 h2 h3
  go_enter Try.func50, Try.ntmps50
  go_wp2_with fail
  refine HM.out.mono ?_
  rintro e w1 ⟨rfl, b1⟩
  generalize hW0 : clW w ⟨ep, li, (p : Int), (q : Int), data⟩ (.slice a data.length k) = W0 at *
  have hsz0 : W0.heap.size = w.heap.size + 1 := by rw [← hW0]; simp
  have HSZ : Hid (w.heap.size ≤ W0.heap.size) := hide (by omega)
  obtain ⟨c0, c1, c2, c3, c4⟩ := HCE.out _ b1
  clear HM
  have HP := hide (fun W v l n k hn hk (bW : Below W0.heap.size W0 W) hl hO => (rput_any v l n k hn hk W W0.heap.size bW.size hl hO).mono fun e w' (hh : ∃ v', e = .returned v' ∧ w'.ownsRow W0.heap.size 5 1 v' (l ++ putB n k).length (Lib.byteCells (l ++ putB n k)) ∧ Below W0.heap.size W w') => (by
    obtain ⟨v', rfl, ho, hb⟩ := hh
    obtain ⟨va, vc, rfl⟩ := owns_formY ho
    exact ⟨va, vc, rfl, hide ho, bW.trans hb⟩ : ∃ va vc, e = .returned (.slice va (l ++ putB n k).length vc) ∧ Hid (w'.ownsRow W0.heap.size 5 1 (.slice va (l ++ putB n k).length vc) (l ++ putB n k).length (Lib.byteCells (l ++ putB n k))) ∧ Below W0.heap.size W0 w'))
  have HP1 := hide (HP.out w1 (.slice none 0 0) [] ep 8 hep (by decide) b1 (by simp) ⟨rfl, .inl ⟨rfl, rfl⟩⟩)
  have e8 : ([] ++ putB ep 8 : Bs).length = 8 := by rw [List.nil_append, put_len]
  rw [e8] at HP1
  clear b1
  go_wp2_with fail
  refine HP1.out.mono ?_
  rintro e w2 ⟨va, vc, rfl, HO, b2⟩
  clear HP1 c0 c1 c2 c3 c4
  obtain ⟨c0, c1, c2, c3, c4⟩ := HCE.out _ b2
  have HP2 := hide (HP.out w2 _ ([] ++ putB ep 8) li 8 hli (by decide) b2 (by omega) (by rw [e8]; exact HO.out))
  have e16 : ([] ++ putB ep 8 ++ putB li 8 : Bs).length = 16 := by rw [List.length_append, e8, put_len]
  rw [e16] at HP2
  clear b2 HO
  go_wp2_with fail
  refine HP2.out.mono ?_
  rintro e w3 ⟨va, vc, rfl, HO, b3⟩
  clear HP2 c0 c1 c2 c3 c4
  obtain ⟨c0, c1, c2, c3, c4⟩ := HCE.out _ b3
  have HP3 := hide (HP.out w3 _ ([] ++ putB ep 8 ++ putB li 8) p 2 (by omega) (by decide) b3 (by omega) (by rw [e16]; exact HO.out))
  have e18 : ([] ++ putB ep 8 ++ putB li 8 ++ putB p 2 : Bs).length = 18 := by rw [List.length_append, e16, put_len]
  rw [e18] at HP3
  clear b3 HO
  go_wp2_with fail
  refine HP3.out.mono ?_
  rintro e w4 ⟨va, vc, rfl, HO, b4⟩
  clear HP3 c0 c1 c2 c3 c4
  obtain ⟨c0, c1, c2, c3, c4⟩ := HCE.out _ b4
  have HP4 := hide (HP.out w4 _ ([] ++ putB ep 8 ++ putB li 8 ++ putB p 2) q 2 (by omega) (by decide) b4 (by omega) (by rw [e18]; exact HO.out))
  have e20 : ([] ++ putB ep 8 ++ putB li 8 ++ putB p 2 ++ putB q 2 : Bs).length = 20 := by rw [List.length_append, e18, put_len]
  rw [e20] at HP4
  clear b4 HO
  go_wp2_with fail
  refine HP4.out.mono ?_
  rintro e w5 ⟨va, vc, rfl, HO, b5⟩
  clear HP4 c0 c1 c2 c3 c4
  obtain ⟨c0, c1, c2, c3, c4⟩ := HCE.out _ b5
  have HP5 := hide (HP.out w5 _ ([] ++ putB ep 8 ++ putB li 8 ++ putB p 2 ++ putB q 2) data.length 1 (by omega) (by decide) b5 (by omega) (by rw [e20]; exact HO.out))
  have e21 : ([] ++ putB ep 8 ++ putB li 8 ++ putB p 2 ++ putB q 2 ++ putB data.length 1 : Bs).length = 21 := by rw [List.length_append, e20, put_len]
  rw [e21] at HP5
  clear b5 HO
  go_wp2_with fail
  refine HP5.out.mono ?_
  rintro e w6 ⟨va, vc, rfl, HO, b6⟩
  clear HP5 c0 c1 c2 c3 c4
  obtain ⟨c0, c1, c2, c3, c4⟩ := HCE.out _ b6
  generalize hL6 : ([] ++ putB ep 8 ++ putB li 8 ++ putB p 2 ++ putB q 2 ++ putB data.length 1 : Bs) = L6 at *
  obtain ⟨ya, yc, w7, hr, ho, hb⟩ := append_isY w6 W0.heap.size _ _ L6 data (by rw [e21]; exact HO.out) (HD.out _ b6) (by omega) (by omega) (by omega) b6.size
  have b7 := b6.trans hb
  have HO7 := hide ho
  have HRUN := hide hr
  have hlen7 : (L6 ++ data).length = 21 + data.length := by rw [List.length_append, e21]
  clear hr ho hb HO b6
  generalize hL7 : L6 ++ data = L7 at *
  generalize hdl : data.length = dl at *
  rw [hlen7] at HRUN HO7
  go_wp2_with (at_builtin; refine wpList_append_run rfl _ _ 43 rfl _ _ _ _ rfl rfl HRUN.out ?_)
  have HE : Hid (∀ j, j = 39 - dl → L7 ++ List.replicate j 0 = bodyC ⟨ep, li, (p : Int), (q : Int), data⟩) := hide (by
    intro j hj
    rw [bodyC, headC, ← hL7, ← hL6, hj, ← hdl]
    simp only [List.nil_append, List.append_assoc, Int.toNat_natCast])
  have HEN : Hid (encC ⟨ep, li, (p : Int), (q : Int), data⟩ = bodyC ⟨ep, li, (p : Int), (q : Int), data⟩ ++ putB (sumB (bodyC ⟨ep, li, (p : Int), (q : Int), data⟩)).toNat 4) := hide rfl
  have HEL : Hid ((bodyC ⟨ep, li, (p : Int), (q : Int), data⟩).length = 60) := hide (body_len _ (by show data.length ≤ 39; omega))
  generalize hEN : encC ⟨ep, li, (p : Int), (q : Int), data⟩ = EN at *
  have HENq := hide hEN
  clear hEN
  generalize bodyC ⟨ep, li, (p : Int), (q : Int), data⟩ = BO at *
  clear c0 c1 c2 c3 c4 HCE HD HRUN e8 e16 e18 e20 e21 hL6 hL7 hdl
  go_loopw [4] (fun bv wr => ∃ (j : Nat) (a : Option Addr) (c : Nat), bv = .slice a (21 + dl + j) c ∧ 21 + dl + j ≤ 60 ∧ Hid (wr.ownsRow W0.heap.size 5 1 (.slice a (21 + dl + j) c) (21 + dl + j) (Lib.byteCells (L7 ++ List.replicate j 0))) ∧ Hid (Below W0.heap.size W0 wr)) (fun bv _ => match bv with | .slice _ n _ => 60 - n | _ => 0)
  case atStart => exact ⟨0, ya, yc, rfl, by omega, hide (by rw [List.replicate_zero, List.append_nil]; exact HO7.out), hide b7⟩
  case round =>
    obtain ⟨j, oa, oc, rfl, hj, HO, HB⟩ := hrel
    by_cases hlt : 21 + dl + j < 60
    · have hlt2 : ((21 + dl + j : Nat) : Int) < 60 := by omega
      obtain ⟨v', w', hr, ho, hb⟩ := append_byte wr W0.heap.size (21 + dl + j) _ _ 0 HO.out (by omega) HB.out.size
      rw [List.append_assoc, ← List.replicate_succ'] at ho
      obtain ⟨va, vc, rfl⟩ := owns_formY ho
      have HRUN := hide hr
      have HO2 := hide ho
      have HB2 := hide (HB.out.trans hb)
      clear hr ho hb HO HB
      generalize hN : 21 + dl + j = N at *
      go_wp2_with (at_builtin; refine wpList_append_run rfl _ _ 43 rfl _ _ _ _ rfl rfl HRUN.out ?_)
      go_roundw
      case rel => exact ⟨j + 1, va, vc, by rw [← Nat.add_assoc, hN], by omega, by rw [← Nat.add_assoc, hN]; exact HO2, HB2⟩
      case measure => simp only []; omega
    · have hN : 21 + dl + j = 60 := by omega
      have hbo := HE.out j (by omega)
      have hO := HO.out
      rw [hbo, hN, ← HEL.out] at hO
      have HS := hide (rsum_any _ BO wr (owns_isYB hO) (by rw [HEL.out]; decide))
      have HP2 := hide (fun hs => HP.out wr _ BO (sumB BO).toNat 4 hs (by decide) HB.out (by rw [HEL.out]; decide) hO)
      have hsl := (sumB BO).isLt
      rw [← HEN.out, show EN.length = 64 by rw [HEN.out, List.length_append, HEL.out, put_len]] at HP2
      rw [HEL.out] at HS HP2
      clear hO HO HB hbo HE HEN HEL HP HO7 b7 hlt
      generalize (sumB BO).toNat = S at *
      rw [hN]
      clear hN hj
      go_wp2_with fail
      refine HS.out.mono ?_
      rintro e w8 ⟨rfl, rfl⟩
      go_wp2_with fail
      refine (HP2.out (by omega)).mono ?_
      rintro e w9 ⟨va, vc, rfl, HO, b9⟩
      have HF := hide (HBX.out _ b9)
      go_wp2
      go_ret2
      exact ⟨⟨.slice va 64 vc, rfl, by rw [HENq.out]; exact own_baseY HO.out HSZ.out⟩, HF.out.2⟩
end Go.Proofs.Ythpepkfodcgbcaa
