/- Tokens, plainly: what Next, All and Get come to over lists of bytes. No program in it. -/
import Derived.Test.YtlfjmgniflkapaaDoorPlain
set_option linter.unusedVariables false
set_option linter.unusedSimpArgs false
namespace Go.Proofs.YtlfjmgniflkapaaDoor

def spaceN (n : Nat) : Bool := n == 9 || n == 10 || n == 12 || n == 13 || n == 32
def isSp (c : UInt8) : Bool := spaceN c.toNat
def low (c : UInt8) : UInt8 := if greatN c.toNat then c + 32 else c
def lowerL (l : List UInt8) : List UInt8 := l.map low

structure Tok where
  kind : Nat
  name : List UInt8 := []
  attrs : List (List UInt8 × List UInt8) := []
  closed : Bool := false
  text : List UInt8 := []

def passB (c : UInt8) : Bool := isSp c || c == 47
def nameB (c : UInt8) : Bool := !(isSp c || c == 47 || c == 62)
def attrB (c : UInt8) : Bool := !(isSp c || c == 47 || c == 62 || c == 61)
def valB (c : UInt8) : Bool := !(isSp c || c == 62)

/-- What stands ahead of the first t, and what from it on. -/
def findR (t : List UInt8) : List UInt8 → List UInt8 × List UInt8
  | [] => ([], [])
  | c :: r => if t.isPrefixOf (c :: r) then ([], c :: r) else (c :: (findR t r).1, (findR t r).2)

/-- An attribute's value, and what is left. -/
def valueL (r : List UInt8) : List UInt8 × List UInt8 :=
  match r with
  | [] => ([], [])
  | c :: q => if c = 62 then ([], c :: q) else if c = 34 ∨ c = 39 then (decL true (findR [c] q).1, (findR [c] q).2.drop 1) else (decL true ((c :: q).takeWhile valB), (c :: q).dropWhile valB)
def getA (as : List (List UInt8 × List UInt8)) (n : List UInt8) : Option (List UInt8) := (as.find? fun a => a.1 == n).map (·.2)
def addA (as : List (List UInt8 × List UInt8)) (a : List UInt8 × List UInt8) : List (List UInt8 × List UInt8) := if (getA as a.1).isSome then as else as ++ [a]
/-- Is the last of what is passed a stroke? -/
def strokeB (r : List UInt8) : Bool := (r.takeWhile passB).getLast? == some 47
/-- A tag behind its name: its attributes, whether it is closed, what is left; k bounds the length. -/
def loopT : Nat → List (List UInt8 × List UInt8) → List UInt8 → Option (List (List UInt8 × List UInt8) × Bool × List UInt8)
  | 0, _, _ => none
  | k + 1, as, r =>
    match r.dropWhile passB with
    | [] => none
    | c :: r2 =>
      if c = 62 then some (as, strokeB r, r2)
      else
        match (r2.dropWhile attrB).dropWhile isSp with
        | [] => loopT k (addA as (lowerL (c :: r2.takeWhile attrB), [])) []
        | d :: r4 => if d = 61 then loopT k (addA as (lowerL (c :: r2.takeWhile attrB), (valueL (r4.dropWhile isSp)).1)) (valueL (r4.dropWhile isSp)).2 else loopT k (addA as (lowerL (c :: r2.takeWhile attrB), [])) (d :: r4)
def tagL (r : List UInt8) : Option (Tok × List UInt8) :=
  (loopT (r.length + 1) [] (r.dropWhile nameB)).map fun x => ({ kind := 2, name := lowerL (r.takeWhile nameB), attrs := x.1, closed := x.2.1 }, x.2.2)

def beginsB (r : List UInt8) : Bool :=
  match r with
  | [] => false
  | [_] => false
  | a :: c :: q => a == 60 && (letterN c.toNat || c == 33 || c == 63 || (c == 47 && !q.isEmpty))
/-- Up to where markup begins. -/
def spanT : List UInt8 → List UInt8 × List UInt8
  | [] => ([], [])
  | c :: r => if beginsB (c :: r) then ([], c :: r) else (c :: (spanT r).1, (spanT r).2)
def endedL (r : List UInt8) (stop : Bool) : Tok × List UInt8 :=
  match tagL r with
  | none => ({ kind := 0 }, [])
  | some (t, q) => if stop then ({ kind := 3, name := t.name }, q) else (t, q)
/-- The text of a comment that ends, and what is left. -/
def findC : List UInt8 → Option (List UInt8 × List UInt8)
  | [] => none
  | c :: r => if [45, 45, 62].isPrefixOf (c :: r) then some ([], (c :: r).drop 3) else if [45, 45, 33, 62].isPrefixOf (c :: r) then some ([], (c :: r).drop 4) else (findC r).map fun x => (c :: x.1, x.2)
/-- A comment's text that does not end. -/
def trimC (r : List UInt8) : List UInt8 :=
  if [45, 45, 33].isSuffixOf r then r.take (r.length - 3) else if [45, 45].isSuffixOf r then r.take (r.length - 2) else if [45].isSuffixOf r then r.take (r.length - 1) else r
def commentL (r : List UInt8) : Tok × List UInt8 :=
  if [62].isPrefixOf r then ({ kind := 4 }, r.drop 1) else if [45, 62].isPrefixOf r then ({ kind := 4 }, r.drop 2)
  else match findC r with
    | some (a, b) => ({ kind := 4, text := a }, b)
    | none => ({ kind := 4, text := trimC r }, [])
def otherL (r : List UInt8) : Tok × List UInt8 := ({ kind := 4, text := (findR [62] r).1 }, (findR [62] r).2.drop 1)
def cdataM : List UInt8 := [60, 33, 91, 67, 68, 65, 84, 65, 91]
def doctypeM : List UInt8 := [100, 111, 99, 116, 121, 112, 101]
/-- The next token in ModeData; k bounds the length. -/
def dataK (foreign : Bool) : Nat → List UInt8 → Tok × List UInt8
  | 0, _ => ({ kind := 0 }, [])
  | k + 1, r =>
    if r = [] then ({ kind := 0 }, [])
    else if beginsB r = false then ({ kind := 1, text := decL false (spanT r).1 }, (spanT r).2)
    else if [60, 47, 62].isPrefixOf r then dataK foreign k (r.drop 3)
    else if [60, 47].isPrefixOf r then (if letterN (r.getD 2 0).toNat then endedL (r.drop 2) true else otherL (r.drop 2))
    else if [60, 33, 45, 45].isPrefixOf r then commentL (r.drop 4)
    else if foreign && cdataM.isPrefixOf r then (if (findR [93, 93, 62] (r.drop 9)).1 = [] then dataK foreign k ((findR [93, 93, 62] (r.drop 9)).2.drop 3) else ({ kind := 1, text := (findR [93, 93, 62] (r.drop 9)).1 }, (findR [93, 93, 62] (r.drop 9)).2.drop 3))
    else if [60, 33].isPrefixOf r then (if 9 ≤ r.length ∧ lowerL ((r.drop 2).take 7) = doctypeM then ({ kind := 5 }, (otherL (r.drop 9)).2) else otherL (r.drop 2))
    else if [60, 63].isPrefixOf r then otherL (r.drop 1)
    else endedL (r.drop 1) false
def dataL (foreign : Bool) (r : List UInt8) : Tok × List UInt8 := dataK foreign r.length r
/-- Does the end tag of a name stand here? -/
def stopB (name r : List UInt8) : Bool :=
  [60, 47].isPrefixOf r && (lowerL ((r.drop 2).take name.length) == lowerL name) && (match r[2 + name.length]? with | some c => isSp c || c == 47 || c == 62 | none => false)
def spanS (name : List UInt8) : List UInt8 → List UInt8 × List UInt8
  | [] => ([], [])
  | c :: r => if stopB name (c :: r) then ([], c :: r) else (c :: (spanS name r).1, (spanS name r).2)
/-- The next token of what is left. -/
def nextR (mode : Int) (name : List UInt8) (foreign : Bool) (r : List UInt8) : Tok × List UInt8 :=
  if r = [] then ({ kind := 0 }, [])
  else if mode = 3 then ({ kind := 1, text := r }, [])
  else if mode ≠ 2 ∧ mode ≠ 1 then dataL foreign r
  else if stopB name r then endedL (r.drop 2) true
  else ({ kind := 1, text := if mode = 1 then decL false (spanS name r).1 else (spanS name r).1 }, (spanS name r).2)

/-! How long what is left is. -/
theorem dw_le (p : UInt8 → Bool) (r : List UInt8) : (r.dropWhile p).length ≤ r.length := (List.dropWhile_sublist p).length_le
theorem findR_app (t : List UInt8) : ∀ r, (findR t r).1 ++ (findR t r).2 = r
  | [] => rfl
  | c :: r => by
    simp only [findR]
    split
    · rfl
    · simp [findR_app t r]
theorem findR_le (t r : List UInt8) : (findR t r).2.length ≤ r.length := by
  have := congrArg List.length (findR_app t r)
  rw [List.length_append] at this
  omega
theorem valueL_le (r : List UInt8) : (valueL r).2.length ≤ r.length := by
  unfold valueL
  cases r with
  | nil => simp
  | cons c q =>
    simp only
    split
    · exact Nat.le_refl _
    · split
      · have := findR_le [c] q
        simp only [List.length_drop, List.length_cons]
        omega
      · exact dw_le _ _
theorem loopT_le (k : Nat) : ∀ as r x, loopT k as r = some x → x.2.2.length < r.length := by
  induction k with
  | zero => intro as r x h; simp [loopT] at h
  | succ k ih =>
    intro as r x h
    simp only [loopT] at h
    have h0 := dw_le passB r
    cases hd : r.dropWhile passB with
    | nil => rw [hd] at h; simp at h
    | cons c r2 =>
      rw [hd] at h h0
      simp only [List.length_cons] at h0
      simp only at h
      split at h
      · cases h
        simp only
        omega
      · have h1 := dw_le isSp (r2.dropWhile attrB)
        have h2 := dw_le attrB r2
        cases hr : (r2.dropWhile attrB).dropWhile isSp with
        | nil =>
          rw [hr] at h
          have := ih _ _ _ h
          simp at this
        | cons d r4 =>
          rw [hr] at h h1
          simp only [List.length_cons] at h1
          simp only at h
          split at h
          · have h3 := ih _ _ _ h
            have h4 := valueL_le (r4.dropWhile isSp)
            have h5 := dw_le isSp r4
            omega
          · have h3 := ih _ _ _ h
            simp only [List.length_cons] at h3
            omega
theorem tagL_le (r : List UInt8) (t : Tok) (q : List UInt8) (h : tagL r = some (t, q)) : q.length < r.length := by
  unfold tagL at h
  cases hl : loopT (r.length + 1) [] (r.dropWhile nameB) with
  | none => rw [hl] at h; simp at h
  | some x =>
    rw [hl] at h
    simp only [Option.map_some, Option.some.injEq, Prod.mk.injEq] at h
    have := loopT_le _ _ _ _ hl
    have h2 := dw_le nameB r
    rw [← h.2]
    omega
end Go.Proofs.YtlfjmgniflkapaaDoor
