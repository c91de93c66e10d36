/- The check sum as the document says it: the highest bit first, turned round. No program in it. -/
import Derived.Test.YtbodbomebmkopaaCr15
set_option linter.unusedVariables false
set_option linter.unusedSimpArgs false
namespace Go.Proofs.Ytbodbomebmkopaa

/-- The document's step: a bit more, the highest one goes. -/
def stepD (x : BitVec 32) (b : Bool) : BitVec 32 := (x <<< 1) ^^^ (if (x.getLsbD 31 != b) then 0x04C11DB7#32 else 0#32)
theorem rev_poly : (0x04C11DB7#32).reverse = 0xEDB88320#32 := by decide +kernel
theorem rev_bit (x : BitVec 32) (i : Nat) (h : i < 32) : x.reverse.getLsbD i = x.getLsbD (31 - i) := by
  rw [BitVec.getLsbD_reverse, BitVec.getMsbD_eq_getLsbD]
  simp [h]
theorem rev_rev (x : BitVec 32) : x.reverse.reverse = x := by
  apply BitVec.eq_of_getLsbD_eq
  intro i hi
  rw [rev_bit _ i hi, rev_bit _ _ (by omega)]
  congr 1
  omega
theorem rev_xor (x y : BitVec 32) : (x ^^^ y).reverse = x.reverse ^^^ y.reverse := by
  apply BitVec.eq_of_getLsbD_eq
  intro i hi
  rw [rev_bit _ i hi, BitVec.getLsbD_xor, BitVec.getLsbD_xor, rev_bit _ i hi, rev_bit _ i hi]
theorem rev_shift (x : BitVec 32) : (x <<< 1).reverse = x.reverse >>> 1 := by
  apply BitVec.eq_of_getLsbD_eq
  intro i hi
  rw [rev_bit _ i hi, BitVec.getLsbD_ushiftRight, BitVec.getLsbD_shiftLeft]
  by_cases h : i = 31
  · subst h
    simp [BitVec.getLsbD_of_ge]
  · rw [rev_bit _ (1 + i) (by omega)]
    have h1 : 31 - i < 32 := by omega
    have h2 : ¬ (31 - i < 1) := by omega
    simp only [h1, h2, decide_true, decide_false, Bool.not_false, Bool.true_and]
    congr 1
    omega
theorem rev_zero : (0#32).reverse = 0#32 := by decide +kernel
theorem rev_step (x : BitVec 32) (b : Bool) : (stepD x b).reverse = tB (x.reverse ^^^ (if b then 1#32 else 0#32)) := by
  unfold stepD tB
  rw [rev_xor, rev_shift, BitVec.getLsbD_xor, rev_bit x 0 (by decide), BitVec.ushiftRight_xor_distrib]
  have e1 : ((if b then 1#32 else 0#32) >>> 1 : BitVec 32) = 0#32 := by cases b <;> decide
  have e2 : ((if b then 1#32 else 0#32) : BitVec 32).getLsbD 0 = b := by cases b <;> decide
  rw [e1, e2, BitVec.xor_zero]
  congr 1
  show (if (x.getLsbD 31 != b) = true then 0x04C11DB7#32 else 0#32).reverse = _
  cases x.getLsbD 31 <;> cases b <;> decide +kernel
/-- The bits of a byte, the lowest one first. -/
def bitsD : Nat → BitVec 32 → Nat → BitVec 32
  | 0, x, _ => x
  | n + 1, x, c => bitsD n (stepD x (c % 2 == 1)) (c / 2)
def bitsR : Nat → BitVec 32 → Nat → BitVec 32
  | 0, x, _ => x
  | n + 1, x, c => bitsR n (tB (x ^^^ (if (c % 2 == 1) then 1#32 else 0#32))) (c / 2)
theorem rev_bits : ∀ (n : Nat) (x : BitVec 32) (c : Nat), (bitsD n x c).reverse = bitsR n x.reverse c
  | 0, _, _ => rfl
  | n + 1, x, c => by rw [bitsD, bitsR, rev_bits n, rev_step]
theorem tB_even (y : BitVec 32) (h : y.getLsbD 31 = false) : tB (y <<< 1) = y := by
  unfold tB
  have h0 : (y <<< 1).getLsbD 0 = false := by rw [BitVec.getLsbD_shiftLeft]; simp
  rw [h0]
  apply BitVec.eq_of_getLsbD_eq
  intro i hi
  simp only [Bool.false_eq_true, if_false, BitVec.xor_zero, BitVec.getLsbD_ushiftRight, BitVec.getLsbD_shiftLeft]
  by_cases h31 : i = 31
  · subst h31
    rw [h]
    simp
  · have h1 : 1 + i < 32 := by omega
    have h2 : ¬ (1 + i < 1) := by omega
    simp only [h1, h2, decide_true, decide_false, Bool.not_false, Bool.true_and]
    congr 1
    omega
theorem low_all : (List.range 256).all (fun c => BitVec.ofNat 32 c == ((if (c % 2 == 1) then 1#32 else 0#32) ^^^ (BitVec.ofNat 32 (c / 2) <<< 1))) = true := by decide +kernel
theorem low_split (c : Nat) (h : c < 256) : BitVec.ofNat 32 c = (if (c % 2 == 1) then 1#32 else 0#32) ^^^ (BitVec.ofNat 32 (c / 2) <<< 1) := beq_iff_eq.1 (List.all_eq_true.1 low_all c (List.mem_range.2 h))
theorem bits_fold : ∀ (n : Nat) (x : BitVec 32) (c : Nat), c < 256 → c < 2 ^ n → bitsR n x c = tN n (x ^^^ BitVec.ofNat 32 c)
  | 0, x, c, h, h2 => by
    obtain rfl : c = 0 := by simpa using h2
    show x = x ^^^ 0#32
    rw [BitVec.xor_zero]
  | n + 1, x, c, h, h2 => by
    rw [bitsR, tN, bits_fold n _ (c / 2) (by omega) (by rw [Nat.pow_succ] at h2; omega)]
    congr 1
    rw [low_split c h, ← BitVec.xor_assoc, tB_xor _ (BitVec.ofNat 32 (c / 2) <<< 1), tB_even]
    rw [BitVec.getLsbD_ofNat]
    have : (c / 2).testBit 31 = false := Nat.testBit_lt_two_pow (by omega)
    rw [this]
    rfl
/-- A byte, as the document takes it. -/
theorem rev_byte (x : BitVec 32) (c : UInt8) : (bitsD 8 x c.toNat).reverse = byB x.reverse c := by
  have hc : c.toNat < 256 := c.toNat_lt
  rw [rev_bits, bits_fold 8 _ _ hc (by simpa using hc)]
  unfold byB
  congr 2
  apply BitVec.eq_of_toNat_eq
  simp
def moreD (s : BitVec 32) (l : List UInt8) : BitVec 32 := (l.foldl (fun x c => bitsD 8 x c.toNat) (s ^^^ 0xFFFFFFFF#32).reverse).reverse ^^^ 0xFFFFFFFF#32
theorem fold_rev : ∀ (l : List UInt8) (x : BitVec 32), (l.foldl (fun x c => bitsD 8 x c.toNat) x).reverse = foldB x.reverse l
  | [], _ => rfl
  | c :: r, x => by
    rw [List.foldl_cons, fold_rev r, rev_byte]
    rfl
theorem moreD_is (s : BitVec 32) (l : List UInt8) : moreD s l = moreB s l := by
  unfold moreD moreB
  rw [fold_rev, rev_rev]
end Go.Proofs.Ytbodbomebmkopaa
