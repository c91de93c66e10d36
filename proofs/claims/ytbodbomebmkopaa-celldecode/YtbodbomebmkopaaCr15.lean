/- The check sum, plainly: over 32 bits. No program in it. -/
import Derived.Test.YtbodbomebmkopaaBa15
set_option linter.unusedVariables false
set_option linter.unusedSimpArgs false
namespace Go.Proofs.Ytbodbomebmkopaa

/-- One bit further, the lowest bit first. -/
def tB (x : BitVec 32) : BitVec 32 := (x >>> 1) ^^^ (if x.getLsbD 0 then 0xEDB88320#32 else 0#32)
theorem if_xor (a b : Bool) (c : BitVec 32) : (if (a ^^ b) then c else 0#32) = (if a then c else 0#32) ^^^ (if b then c else 0#32) := by
  cases a <;> cases b <;> simp
theorem tB_xor (x y : BitVec 32) : tB (x ^^^ y) = tB x ^^^ tB y := by
  unfold tB
  rw [BitVec.getLsbD_xor, if_xor, BitVec.ushiftRight_xor_distrib]
  ac_rfl
theorem tB_top (x : BitVec 32) : (tB x).getLsbD 31 = x.getLsbD 0 := by
  unfold tB
  rw [BitVec.getLsbD_xor, BitVec.getLsbD_ushiftRight, BitVec.getLsbD_of_ge x (1 + 31) (by decide)]
  cases x.getLsbD 0 <;> decide
theorem tB_inj {x y : BitVec 32} (h : tB x = tB y) : x = y := by
  have h0 : x.getLsbD 0 = y.getLsbD 0 := by rw [← tB_top x, ← tB_top y, h]
  have h1 : x >>> 1 = y >>> 1 := by
    unfold tB at h
    rw [h0] at h
    have := congrArg (· ^^^ (if y.getLsbD 0 then 0xEDB88320#32 else 0#32)) h
    simpa [BitVec.xor_assoc] using this
  apply BitVec.eq_of_getLsbD_eq
  intro i hi
  cases i with
  | zero => exact h0
  | succ i =>
    have := congrArg (fun z => z.getLsbD i) h1
    simp only [BitVec.getLsbD_ushiftRight] at this
    rw [Nat.add_comm]
    exact this
def tN : Nat → BitVec 32 → BitVec 32
  | 0, x => x
  | n + 1, x => tN n (tB x)
theorem tN_xor : ∀ (n : Nat) (x y : BitVec 32), tN n (x ^^^ y) = tN n x ^^^ tN n y
  | 0, _, _ => rfl
  | n + 1, x, y => by rw [tN, tN, tN, tB_xor, tN_xor n]
theorem tN_inj : ∀ (n : Nat) {x y : BitVec 32}, tN n x = tN n y → x = y
  | 0, _, _, h => h
  | n + 1, x, y, h => tB_inj (tN_inj n h)
/-- A byte more. -/
def byB (x : BitVec 32) (c : UInt8) : BitVec 32 := tN 8 (x ^^^ c.toBitVec.zeroExtend 32)
def foldB (x : BitVec 32) (l : List UInt8) : BitVec 32 := l.foldl byB x
def moreB (s : BitVec 32) (l : List UInt8) : BitVec 32 := foldB (s ^^^ 0xFFFFFFFF#32) l ^^^ 0xFFFFFFFF#32
def sumB (l : List UInt8) : BitVec 32 := moreB 0#32 l
/-! The promises. -/
theorem xor_twice (x c : BitVec 32) : (x ^^^ c) ^^^ c = x := by rw [BitVec.xor_assoc, BitVec.xor_self, BitVec.xor_zero]
theorem more_nil (s : BitVec 32) : moreB s [] = s := xor_twice s _
theorem sum_nil : sumB [] = 0#32 := more_nil _
theorem more_app (s : BitVec 32) (a b : List UInt8) : moreB (moreB s a) b = moreB s (a ++ b) := by
  unfold moreB foldB
  rw [xor_twice, List.foldl_append]
theorem more_sum (a b : List UInt8) : moreB (sumB a) b = sumB (a ++ b) := more_app _ _ _
theorem byB_inj {x y : BitVec 32} {c : UInt8} (h : byB x c = byB y c) : x = y := by
  have h1 := tN_inj 8 h
  have := congrArg (· ^^^ c.toBitVec.zeroExtend 32) h1
  simpa only [xor_twice] using this
theorem byB_byte {x : BitVec 32} {c d : UInt8} (h : byB x c = byB x d) : c = d := by
  have h1 := tN_inj 8 h
  have h2 : c.toBitVec.zeroExtend 32 = d.toBitVec.zeroExtend 32 := by
    have := congrArg (x ^^^ ·) h1
    simp only [← BitVec.xor_assoc, BitVec.xor_self, BitVec.zero_xor] at this
    exact this
  have h3 := congrArg BitVec.toNat h2
  simp only [BitVec.truncate_eq_setWidth, BitVec.toNat_setWidth] at h3
  have hc := c.toBitVec.isLt
  have hd := d.toBitVec.isLt
  apply UInt8.toBitVec_inj.1
  apply BitVec.eq_of_toNat_eq
  omega
theorem fold_inj : ∀ (l : List UInt8) {x y : BitVec 32}, foldB x l = foldB y l → x = y
  | [], _, _, h => h
  | c :: r, x, y, h => byB_inj (fold_inj r h)
/-- One byte another one: another sum. -/
theorem sum_one (a : List UInt8) (c d : UInt8) (b : List UInt8) : sumB (a ++ c :: b) = sumB (a ++ d :: b) ↔ c = d := by
  refine ⟨fun h => ?_, fun h => by rw [h]⟩
  unfold sumB moreB at h
  have h1 := congrArg (· ^^^ 0xFFFFFFFF#32) h
  simp only [xor_twice] at h1
  unfold foldB at h1
  rw [List.foldl_append, List.foldl_append, List.foldl_cons, List.foldl_cons] at h1
  exact byB_byte (fold_inj b h1)
theorem byB_three (x y z : BitVec 32) (c d e : UInt8) : byB (x ^^^ y ^^^ z) (c ^^^ d ^^^ e) = byB x c ^^^ byB y d ^^^ byB z e := by
  unfold byB
  rw [← tN_xor, ← tN_xor]
  congr 1
  have : (c ^^^ d ^^^ e).toBitVec.zeroExtend 32 = c.toBitVec.zeroExtend 32 ^^^ d.toBitVec.zeroExtend 32 ^^^ e.toBitVec.zeroExtend 32 := by
    simp
  rw [this]
  ac_rfl
def over3 : List UInt8 → List UInt8 → List UInt8 → List UInt8
  | a :: r, b :: s, c :: t => (a ^^^ b ^^^ c) :: over3 r s t
  | _, _, _ => []
theorem fold_three : ∀ (l m n : List UInt8) (x y z : BitVec 32), l.length = m.length → l.length = n.length → foldB (x ^^^ y ^^^ z) (over3 l m n) = foldB x l ^^^ foldB y m ^^^ foldB z n
  | [], [], [], x, y, z, _, _ => rfl
  | a :: r, b :: s, c :: t, x, y, z, h1, h2 => by
    show foldB (byB (x ^^^ y ^^^ z) (a ^^^ b ^^^ c)) (over3 r s t) = foldB (byB x a) r ^^^ foldB (byB y b) s ^^^ foldB (byB z c) t
    rw [byB_three]
    exact fold_three r s t _ _ _ (by simpa using h1) (by simpa using h2)
/-- Side by side. -/
theorem sum_three (l m n : List UInt8) (h1 : l.length = m.length) (h2 : l.length = n.length) : sumB l ^^^ sumB m ^^^ sumB n = sumB (over3 l m n) := by
  unfold sumB moreB
  have e0 : (0#32 ^^^ 0xFFFFFFFF#32 : BitVec 32) = 0xFFFFFFFF#32 := by decide
  have e3 : (0xFFFFFFFF#32 ^^^ 0xFFFFFFFF#32 ^^^ 0xFFFFFFFF#32 : BitVec 32) = 0xFFFFFFFF#32 := by decide
  have e1 := fold_three l m n 0xFFFFFFFF#32 0xFFFFFFFF#32 0xFFFFFFFF#32 h1 h2
  rw [e3] at e1
  rw [e0, e1]
  generalize foldB 0xFFFFFFFF#32 l = A
  generalize foldB 0xFFFFFFFF#32 m = B
  generalize foldB 0xFFFFFFFF#32 n = C
  rw [show A ^^^ 0xFFFFFFFF#32 ^^^ (B ^^^ 0xFFFFFFFF#32) ^^^ (C ^^^ 0xFFFFFFFF#32) = (A ^^^ B ^^^ C) ^^^ (0xFFFFFFFF#32 ^^^ 0xFFFFFFFF#32 ^^^ 0xFFFFFFFF#32) from by ac_rfl, e3]
end Go.Proofs.Ytbodbomebmkopaa
