/- Disks, plainly: over lists of sectors. No program in it. -/
import Derived.Test.YteacldkfdhhphaaBa14
set_option linter.unusedVariables false
set_option linter.unusedSimpArgs false
namespace Go.Proofs.Yteacldkfdhhphaa

/-- What is safe, sector by sector, and what is pending. -/
structure DM where
  safe : List Bs
  l : List (Nat × Bs) := []
  left : Int := 0
  fuse : Bool := false
  off : Bool := false
def putS (s : List Bs) (p : Nat × Bs) : List Bs := s.set p.1 p.2
def nowL (s : List Bs) (l : List (Nat × Bs)) : List Bs := l.foldl putS s
def nowD (d : DM) : List Bs := nowL d.safe d.l
def dumpD (d : DM) : Bs := (nowD d).flatten
def isD (d : DM) (n : Int) : Bool := decide (0 ≤ n) && decide (n < ((d.safe.length / 4 : Nat) : Int))
def readD (d : DM) (n : Int) : Bs × Int := if isD d n then (if d.off then ([], 9) else (((nowD d).drop (n.toNat * 4)).take 4 |>.flatten, 0)) else ([], 1)
def spendD (d : DM) : DM × Bool := if d.off || (d.fuse && decide (d.left = 0)) then ({ d with off := true, fuse := false }, false) else ((if d.fuse then { d with left := d.left - 1 } else d), true)
def cutB (b : Bs) (i : Nat) : Bs := (b.drop (i * 64)).take 64
def piecesL (n : Nat) (b : Bs) : List (Nat × Bs) := (List.range 4).map fun i => (n * 4 + i, cutB b i)
def writeD (d : DM) (n : Int) (b : Bs) : DM × Int := if isD d n && decide (b.length = 256) then
    (if (spendD d).2 then ({ (spendD d).1 with l := (spendD d).1.l ++ piecesL n.toNat b }, 0) else ((spendD d).1, 9)) else (d, 1)
def flushD (d : DM) : DM × Int := if (spendD d).2 then ({ (spendD d).1 with safe := nowD (spendD d).1, l := [] }, 0) else ((spendD d).1, 9)
def armD (d : DM) (k : Int) : DM := if d.off then d else { d with fuse := true, left := if k < 0 then 0 else k }
def crashL (s : List Bs) : List (Nat × Bs) → List Bool → List Bs
  | [], _ => s
  | p :: r, [] => s
  | p :: r, b :: k => crashL (if b then putS s p else s) r k
def crashD (d : DM) (keep : List Bool) : DM := { safe := crashL d.safe d.l keep }
def blockB (b : Bs) : Bs := (List.range 256).map fun i => b.getD (i % b.length) 0
def noughtB : Bs := List.replicate 64 0
def newD (n : Nat) : DM := { safe := List.replicate (n * 4) noughtB }
/-- A disk as it should be: pieces lie within it, sectors have 64 bytes. -/
structure OkD (d : DM) : Prop where
  at_ : ∀ p ∈ d.l, p.1 < d.safe.length
  safe : ∀ x ∈ d.safe, x.length = 64
  len : ∀ p ∈ d.l, p.2.length = 64
  four : d.safe.length % 4 = 0
theorem nowL_len : ∀ (l : List (Nat × Bs)) (s : List Bs), (nowL s l).length = s.length
  | [], s => rfl
  | p :: r, s => by
    show (nowL (putS s p) r).length = _
    rw [nowL_len r]
    unfold putS
    simp
theorem crashL_len : ∀ (l : List (Nat × Bs)) (k : List Bool) (s : List Bs), (crashL s l k).length = s.length
  | [], _, s => by cases ‹List Bool› <;> rfl
  | p :: r, [], s => rfl
  | p :: r, b :: k, s => by
    show (crashL (if b then putS s p else s) r k).length = _
    rw [crashL_len r k]
    cases b <;> simp [putS]
end Go.Proofs.Yteacldkfdhhphaa
