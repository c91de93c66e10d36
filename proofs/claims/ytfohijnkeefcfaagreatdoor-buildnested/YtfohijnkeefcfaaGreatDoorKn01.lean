import Derived.Lib.RuneBytes
set_option linter.unusedVariables false
set_option linter.unusedSimpArgs false
set_option maxRecDepth 100000
set_option maxHeartbeats 8000000
namespace Go.Proofs.YtfohijnkeefcfaaGreatDoor.S4
def greatN (n : Nat) : Bool := decide (65 <= n) && decide (n <= 90)
def letterN (n : Nat) : Bool := greatN n || (decide (97 <= n) && decide (n <= 122))
def figureN (n : Nat) : Bool := decide (48 <= n) && decide (n <= 57)
def entriesE : List (List UInt8 × Nat × Bool) := [([65, 77, 80], 38, true), ([97, 109, 112], 38, true), ([76, 84], 60, true), ([108, 116], 60, true), ([71, 84], 62, true), ([103, 116], 62, true), ([81, 85, 79, 84], 34, true), ([113, 117, 111, 116], 34, true), ([110, 98, 115, 112], 160, true), ([99, 111, 112, 121], 169, true), ([108, 97, 113, 117, 111], 171, true), ([110, 111, 116], 172, true), ([115, 104, 121], 173, true), ([114, 101, 103], 174, true), ([100, 101, 103], 176, true), ([112, 97, 114, 97], 182, true), ([109, 105, 100, 100, 111, 116], 183, true), ([114, 97, 113, 117, 111], 187, true), ([69, 97, 99, 117, 116, 101], 201, true), ([116, 105, 109, 101, 115], 215, true), ([115, 122, 108, 105, 103], 223, true), ([101, 97, 99, 117, 116, 101], 233, true), ([100, 105, 118, 105, 100, 101], 247, true), ([117, 117, 109, 108], 252, true), ([84, 97, 98], 9, false), ([78, 101, 119, 76, 105, 110, 101], 10, false), ([101, 120, 99, 108], 33, false), ([110, 117, 109], 35, false), ([97, 112, 111, 115], 39, false), ([108, 112, 97, 114], 40, false), ([114, 112, 97, 114], 41, false), ([115, 111, 108], 47, false), ([99, 111, 108, 111, 110], 58, false), ([98, 115, 111, 108], 92, false), ([110, 100, 97, 115, 104], 8211, false), ([109, 100, 97, 115, 104], 8212, false), ([108, 115, 113, 117, 111], 8216, false), ([114, 115, 113, 117, 111], 8217, false), ([108, 100, 113, 117, 111], 8220, false), ([114, 100, 113, 117, 111], 8221, false), ([104, 101, 108, 108, 105, 112], 8230, false), ([101, 117, 114, 111], 8364, false), ([116, 114, 97, 100, 101], 8482, false), ([110, 111, 116, 105, 110], 8713, false), ([116, 105, 109, 101, 115, 98], 8864, false)
  ]
def oldN : List Nat := [8364, 129, 8218, 402, 8222, 8230, 8224, 8225, 710, 8240, 352, 8249, 338, 141, 381, 143, 144, 8216, 8217, 8220, 8221, 8226, 8211, 8212, 732, 8482, 353, 8250, 339, 157, 382, 376]
def cpN (n : Int) : Int :=
  if n <= 0 \/ 1114111 < n \/ (55296 <= n /\ n <= 57343) then 65533 else if 128 <= n /\ n <= 159 then (oldN.getD (n - 128).toNat 0 : Nat) else n
def numberL (n : Int) : List UInt8 := Lib.encodeRune (cpN n)
def hitE (n : List UInt8) (e : List UInt8 × Nat × Bool) : Bool := n == e.1 ++ [59] || (e.2.2 && n == e.1)
def codeL (n : List UInt8) : Option Nat := (entriesE.find? (hitE n)).map fun e => e.2.1
def longK : Nat -> List UInt8 -> Option (Nat × Nat)
  | 0, _ => none
  | k + 1, l => if k + 1 <= l.length then (match codeL (l.take (k + 1)) with | some c => some (c, k + 1) | none => longK k l) else longK k l
def longL (l : List UInt8) : Option (Nat × Nat) := longK 8 l
def digitB (base : Nat) (c : UInt8) : Option Nat :=
  let d := if figureN c.toNat then some (c.toNat - 48) else if 97 <= c.toNat /\ c.toNat <= 102 then some (c.toNat - 87) else if 65 <= c.toNat /\ c.toNat <= 70 then some (c.toNat - 55) else none
  match d with
  | some v => if v < base then some v else none
  | none => none
def digsN (base : Nat) : List UInt8 -> Nat
  | [] => 0
  | c :: r => match digitB base c with | some _ => 1 + digsN base r | none => 0
def valN (base : Nat) : Nat -> List UInt8 -> Nat
  | n, [] => n
  | n, c :: r => match digitB base c with | some d => valN base (n * base + d) r | none => n
def semiN (l : List UInt8) : Nat := if l.head? = some 59 then 1 else 0
def digsL (base : Nat) (l : List UInt8) : List UInt8 × Nat :=
  if digsN base l = 0 then ([], 0) else (numberL (valN base 0 l), digsN base l + semiN (l.drop (digsN base l)))
def numL (q : List UInt8) : List UInt8 × Nat :=
  match q with
  | [] => ([], 0)
  | c :: r => if c = 120 \/ c = 88 then (if (digsL 16 r).2 = 0 then ([], 0) else ((digsL 16 r).1, (digsL 16 r).2 + 3)) else (if (digsL 10 (c :: r)).2 = 0 then ([], 0) else ((digsL 10 (c :: r)).1, (digsL 10 (c :: r)).2 + 2))
def barredB (c : Option UInt8) : Bool :=
  match c with
  | none => false
  | some c => c.toNat == 61 || letterN c.toNat || figureN c.toNat
def refL (attr : Bool) (r : List UInt8) : List UInt8 × Nat :=
  if r.head? = some 35 then (if (numL r.tail).2 = 0 then ([38], 1) else numL r.tail)
  else match longL r with
    | none => ([38], 1)
    | some (c, n) => if attr && !(r[n - 1]? == some 59) && barredB r[n]? then ([38], 1) else (Lib.encodeRune (c : Int), n + 1)
def atL (attr : Bool) (l : List UInt8) : List UInt8 × Nat :=
  match l with
  | [] => ([], 0)
  | c :: r => if c = 38 then refL attr r else ([], 0)
theorem digsN_le (base : Nat) (l : List UInt8) : digsN base l <= l.length := by
  induction l with
  | nil => exact Nat.le_refl _
  | cons c r ih =>
    simp only [digsN]
    split
    · simp; omega
    · simp
theorem semiN_le (l : List UInt8) : semiN l <= l.length /\ semiN l <= 1 := by
  unfold semiN
  split
  · cases l with
    | nil => simp at *
    | cons c r => simp
  · omega
theorem encode_ne (r : Int) : Lib.encodeRune r ≠ [] := by
  intro h
  have := (Lib.encodeRuneZ_length r).1
  have h2 := congrArg List.length h
  unfold Lib.encodeRune at h2
  rw [List.length_map, List.length_nil] at h2
  omega
theorem digsL_bd (base : Nat) (l : List UInt8) : (digsL base l).2 <= l.length /\ ((digsL base l).2 ≠ 0 -> (digsL base l).1 ≠ []) := by
  unfold digsL
  split
  · simp
  · have h1 := digsN_le base l
    have h2 := (semiN_le (l.drop (digsN base l))).1
    rw [List.length_drop] at h2
    exact ⟨by show _ + _ <= _; omega, fun _ => encode_ne _⟩
theorem numL_bd (q : List UInt8) : (numL q).2 <= q.length + 2 /\ ((numL q).2 ≠ 0 -> (numL q).1 ≠ [] /\ 2 < (numL q).2) := by
  unfold numL
  cases q with
  | nil => simp
  | cons c r =>
    have h1 := digsL_bd 16 r
    have h2 := digsL_bd 10 (c :: r)
    simp only
    split
    · split
      · simp
      · simp only [List.length_cons]
        exact ⟨by omega, fun _ => ⟨h1.2 (by assumption), by omega⟩⟩
    · split
      · simp
      · simp only [List.length_cons] at h2 ⊢
        exact ⟨by omega, fun _ => ⟨h2.2 (by assumption), by omega⟩⟩
theorem longK_some (k : Nat) (l : List UInt8) (c n : Nat) (h : longK k l = some (c, n)) : 1 <= n /\ n <= k /\ n <= l.length /\ codeL (l.take n) = some c := by
  induction k with
  | zero => simp [longK] at h
  | succ k ih =>
    simp only [longK] at h
    split at h
    · split at h
      · rename_i hl v hv
        simp only [Option.some.injEq, Prod.mk.injEq] at h
        obtain ⟨rfl, rfl⟩ := h
        exact ⟨by omega, by omega, by omega, hv⟩
      · obtain ⟨a, b, d, e⟩ := ih h
        exact ⟨a, by omega, d, e⟩
    · obtain ⟨a, b, d, e⟩ := ih h
      exact ⟨a, by omega, d, e⟩
theorem longK_max (k : Nat) (l : List UInt8) (m : Nat) (hm : m <= k) (hl : m <= l.length) (h1 : 1 <= m) (c : Nat) (hc : codeL (l.take m) = some c) : ∃ c' n', longK k l = some (c', n') /\ m <= n' := by
  induction k with
  | zero => omega
  | succ k ih =>
    simp only [longK]
    by_cases e : m = k + 1
    · subst e
      rw [if_pos hl, hc]
      exact ⟨c, _, rfl, Nat.le_refl _⟩
    · split
      · split
        · exact ⟨_, _, rfl, by omega⟩
        · exact ih (by omega)
      · exact ih (by omega)
theorem longK_eq (k : Nat) (l : List UInt8) (n c : Nat) (h1 : 1 <= n) (hk : n <= k) (hl : n <= l.length) (hc : codeL (l.take n) = some c) (hno : ∀ m, n < m -> m <= k -> m <= l.length -> codeL (l.take m) = none) : longK k l = some (c, n) := by
  obtain ⟨c', n', e, h⟩ := longK_max k l n hk hl h1 c hc
  obtain ⟨a, b, d, f⟩ := longK_some k l c' n' e
  by_cases g : n = n'
  · subst g
    rw [hc] at f
    rw [e, Option.some.inj f]
  · rw [hno n' (by omega) b d] at f
    exact absurd f (by simp)
theorem code_mem (n : List UInt8) (c : Nat) (h : codeL n = some c) : ∃ e ∈ entriesE, hitE n e = true /\ e.2.1 = c := by
  unfold codeL at h
  cases hf : entriesE.find? (hitE n) with
  | none => rw [hf] at h; simp at h
  | some e =>
    rw [hf] at h
    exact ⟨e, List.mem_of_find?_eq_some hf, List.find?_some hf, by simpa using h⟩
theorem code_cases (n : List UInt8) (c : Nat) (h : codeL n = some c) : ∃ e ∈ entriesE, n = e.1 ++ [59] \/ n = e.1 := by
  obtain ⟨e, he, hh, _⟩ := code_mem n c h
  refine ⟨e, he, ?_⟩
  unfold hitE at hh
  simp at hh
  rcases hh with h1 | ⟨_, h1⟩
  · exact .inl h1
  · exact .inr h1
theorem code_all (p : List UInt8 -> Bool) (hp : entriesE.all (fun e => p (e.1 ++ [59]) && p e.1) = true) (n : List UInt8) (c : Nat) (h : codeL n = some c) : p n = true := by
  obtain ⟨e, he, hh⟩ := code_cases n c h
  have := List.all_eq_true.1 hp e he
  simp only [Bool.and_eq_true] at this
  rcases hh with rfl | rfl
  · exact this.1
  · exact this.2
theorem refL_bd (attr : Bool) (r : List UInt8) : 1 <= (refL attr r).2 /\ (refL attr r).2 <= r.length + 1 /\ (refL attr r).1 ≠ [] := by
  unfold refL
  split
  · rename_i h
    split
    · simp
    · have hb := numL_bd r.tail
      have : 1 <= r.length := by
        cases r with
        | nil => simp at h
        | cons c q => simp
      rw [List.length_tail] at hb
      rename_i h0
      exact ⟨by omega, by omega, (hb.2 h0).1⟩
  · split
    · simp
    · rename_i c n hlg
      obtain ⟨a, b, d, e⟩ := longK_some _ _ _ _ hlg
      split
      · simp
      · exact ⟨by simp, by simp; omega, encode_ne _⟩
def decK (attr : Bool) : Nat -> List UInt8 -> List UInt8
  | 0, _ => []
  | _ + 1, [] => []
  | k + 1, c :: r => if c = 38 then (refL attr r).1 ++ decK attr k (r.drop ((refL attr r).2 - 1)) else c :: decK attr k r
def decL (attr : Bool) (l : List UInt8) : List UInt8 := decK attr l.length l
theorem decK_enough (attr : Bool) (k : Nat) (l : List UInt8) (h : l.length <= k) : decK attr k l = decL attr l := by
  have key : ∀ k j l, List.length l <= k -> List.length l <= j -> decK attr k l = decK attr j l := by
    intro k
    induction k with
    | zero =>
      intro j l h1 h2
      obtain rfl : l = [] := List.eq_nil_of_length_eq_zero (by omega)
      cases j <;> rfl
    | succ k ih =>
      intro j l h1 h2
      cases l with
      | nil => cases j <;> rfl
      | cons c r =>
        cases j with
        | zero => simp at h2
        | succ j =>
          simp only [List.length_cons] at h1 h2
          simp only [decK]
          split
          · rw [ih j (r.drop _) (by rw [List.length_drop]; omega) (by rw [List.length_drop]; omega)]
          · rw [ih j r (by omega) (by omega)]
  exact key k l.length l h (Nat.le_refl _)
theorem decL_nil (attr : Bool) : decL attr [] = [] := rfl
theorem decL_other (attr : Bool) (c : UInt8) (r : List UInt8) (h : c ≠ 38) : decL attr (c :: r) = c :: decL attr r := by
  show decK attr (r.length + 1) (c :: r) = _
  simp only [decK, if_neg h]
  rfl
theorem decL_amp (attr : Bool) (r : List UInt8) : decL attr (38 :: r) = (refL attr r).1 ++ decL attr ((38 :: r).drop (refL attr r).2) := by
  show decK attr (r.length + 1) (38 :: r) = _
  simp only [decK, if_true]
  have h := (refL_bd attr r).1
  have e : (38 :: r).drop (refL attr r).2 = r.drop ((refL attr r).2 - 1) := by
    cases hn : (refL attr r).2 with
    | zero => omega
    | succ m => simp
  rw [e, decK_enough attr r.length _ (by rw [List.length_drop]; omega)]
end Go.Proofs.YtfohijnkeefcfaaGreatDoor.S4
namespace Go.Proofs.YtfohijnkeefcfaaGreatDoor.S4
def spaceN (n : Nat) : Bool := n == 9 || n == 10 || n == 12 || n == 13 || n == 32
def isSp (c : UInt8) : Bool := spaceN c.toNat
def low (c : UInt8) : UInt8 := if greatN c.toNat then c + 32 else c
def lowerL (l : List UInt8) : List UInt8 := l.map low
structure Tok where
  kind : Nat
  name : List UInt8 := []
  attrs : List (List UInt8 × List UInt8) := []
  closed : Bool := false
  text : List UInt8 := []
def passB (c : UInt8) : Bool := isSp c || c == 47
def nameB (c : UInt8) : Bool := !(isSp c || c == 47 || c == 62)
def attrB (c : UInt8) : Bool := !(isSp c || c == 47 || c == 62 || c == 61)
def valB (c : UInt8) : Bool := !(isSp c || c == 62)
def findR (t : List UInt8) : List UInt8 -> List UInt8 × List UInt8
  | [] => ([], [])
  | c :: r => if t.isPrefixOf (c :: r) then ([], c :: r) else (c :: (findR t r).1, (findR t r).2)
def valueL (r : List UInt8) : List UInt8 × List UInt8 :=
  match r with
  | [] => ([], [])
  | c :: q => if c = 62 then ([], c :: q) else if c = 34 \/ c = 39 then (decL true (findR [c] q).1, (findR [c] q).2.drop 1) else (decL true ((c :: q).takeWhile valB), (c :: q).dropWhile valB)
def getA (as : List (List UInt8 × List UInt8)) (n : List UInt8) : Option (List UInt8) := (as.find? fun a => a.1 == n).map (·.2)
def addA (as : List (List UInt8 × List UInt8)) (a : List UInt8 × List UInt8) : List (List UInt8 × List UInt8) := if (getA as a.1).isSome then as else as ++ [a]
def strokeB (r : List UInt8) : Bool := (r.takeWhile passB).getLast? == some 47
def loopT : Nat -> List (List UInt8 × List UInt8) -> List UInt8 -> Option (List (List UInt8 × List UInt8) × Bool × List UInt8)
  | 0, _, _ => none
  | k + 1, as, r =>
    match r.dropWhile passB with
    | [] => none
    | c :: r2 =>
      if c = 62 then some (as, strokeB r, r2)
      else
        match (r2.dropWhile attrB).dropWhile isSp with
        | [] => loopT k (addA as (lowerL (c :: r2.takeWhile attrB), [])) []
        | d :: r4 => if d = 61 then loopT k (addA as (lowerL (c :: r2.takeWhile attrB), (valueL (r4.dropWhile isSp)).1)) (valueL (r4.dropWhile isSp)).2 else loopT k (addA as (lowerL (c :: r2.takeWhile attrB), [])) (d :: r4)
def tagL (r : List UInt8) : Option (Tok × List UInt8) :=
  (loopT (r.length + 1) [] (r.dropWhile nameB)).map fun x => ({ kind := 2, name := lowerL (r.takeWhile nameB), attrs := x.1, closed := x.2.1 }, x.2.2)
def beginsB (r : List UInt8) : Bool :=
  match r with
  | [] => false
  | [_] => false
  | a :: c :: q => a == 60 && (letterN c.toNat || c == 33 || c == 63 || (c == 47 && !q.isEmpty))
def spanT : List UInt8 -> List UInt8 × List UInt8
  | [] => ([], [])
  | c :: r => if beginsB (c :: r) then ([], c :: r) else (c :: (spanT r).1, (spanT r).2)
def endedL (r : List UInt8) (stop : Bool) : Tok × List UInt8 :=
  match tagL r with
  | none => ({ kind := 0 }, [])
  | some (t, q) => if stop then ({ kind := 3, name := t.name }, q) else (t, q)
def findC : List UInt8 -> Option (List UInt8 × List UInt8)
  | [] => none
  | c :: r => if [45, 45, 62].isPrefixOf (c :: r) then some ([], (c :: r).drop 3) else if [45, 45, 33, 62].isPrefixOf (c :: r) then some ([], (c :: r).drop 4) else (findC r).map fun x => (c :: x.1, x.2)
def trimC (r : List UInt8) : List UInt8 :=
  if [45, 45, 33].isSuffixOf r then r.take (r.length - 3) else if [45, 45].isSuffixOf r then r.take (r.length - 2) else if [45].isSuffixOf r then r.take (r.length - 1) else r
def commentL (r : List UInt8) : Tok × List UInt8 :=
  if [62].isPrefixOf r then ({ kind := 4 }, r.drop 1) else if [45, 62].isPrefixOf r then ({ kind := 4 }, r.drop 2)
  else match findC r with
    | some (a, b) => ({ kind := 4, text := a }, b)
    | none => ({ kind := 4, text := trimC r }, [])
def otherL (r : List UInt8) : Tok × List UInt8 := ({ kind := 4, text := (findR [62] r).1 }, (findR [62] r).2.drop 1)
def cdataM : List UInt8 := [60, 33, 91, 67, 68, 65, 84, 65, 91]
def doctypeM : List UInt8 := [100, 111, 99, 116, 121, 112, 101]
def dataK (foreign : Bool) : Nat -> List UInt8 -> Tok × List UInt8
  | 0, _ => ({ kind := 0 }, [])
  | k + 1, r =>
    if r = [] then ({ kind := 0 }, [])
    else if beginsB r = false then ({ kind := 1, text := decL false (spanT r).1 }, (spanT r).2)
    else if [60, 47, 62].isPrefixOf r then dataK foreign k (r.drop 3)
    else if [60, 47].isPrefixOf r then (if letterN (r.getD 2 0).toNat then endedL (r.drop 2) true else otherL (r.drop 2))
    else if [60, 33, 45, 45].isPrefixOf r then commentL (r.drop 4)
    else if foreign && cdataM.isPrefixOf r then (if (findR [93, 93, 62] (r.drop 9)).1 = [] then dataK foreign k ((findR [93, 93, 62] (r.drop 9)).2.drop 3) else ({ kind := 1, text := (findR [93, 93, 62] (r.drop 9)).1 }, (findR [93, 93, 62] (r.drop 9)).2.drop 3))
    else if [60, 33].isPrefixOf r then (if 9 <= r.length /\ lowerL ((r.drop 2).take 7) = doctypeM then ({ kind := 5 }, (otherL (r.drop 9)).2) else otherL (r.drop 2))
    else if [60, 63].isPrefixOf r then otherL (r.drop 1)
    else endedL (r.drop 1) false
def dataL (foreign : Bool) (r : List UInt8) : Tok × List UInt8 := dataK foreign r.length r
def stopB (name r : List UInt8) : Bool :=
  [60, 47].isPrefixOf r && (lowerL ((r.drop 2).take name.length) == lowerL name) && (match r[2 + name.length]? with | some c => isSp c || c == 47 || c == 62 | none => false)
def spanS (name : List UInt8) : List UInt8 -> List UInt8 × List UInt8
  | [] => ([], [])
  | c :: r => if stopB name (c :: r) then ([], c :: r) else (c :: (spanS name r).1, (spanS name r).2)
def nextR (mode : Int) (name : List UInt8) (foreign : Bool) (r : List UInt8) : Tok × List UInt8 :=
  if r = [] then ({ kind := 0 }, [])
  else if mode = 3 then ({ kind := 1, text := r }, [])
  else if mode ≠ 2 /\ mode ≠ 1 then dataL foreign r
  else if stopB name r then endedL (r.drop 2) true
  else ({ kind := 1, text := if mode = 1 then decL false (spanS name r).1 else (spanS name r).1 }, (spanS name r).2)
theorem dw_le (p : UInt8 -> Bool) (r : List UInt8) : (r.dropWhile p).length <= r.length := (List.dropWhile_sublist p).length_le
theorem findR_app (t : List UInt8) : ∀ r, (findR t r).1 ++ (findR t r).2 = r
  | [] => rfl
  | c :: r => by
    simp only [findR]
    split
    · rfl
    · simp [findR_app t r]
theorem findR_le (t r : List UInt8) : (findR t r).2.length <= r.length := by
  have := congrArg List.length (findR_app t r)
  rw [List.length_append] at this
  omega
theorem valueL_le (r : List UInt8) : (valueL r).2.length <= r.length := by
  unfold valueL
  cases r with
  | nil => simp
  | cons c q =>
    simp only
    split
    · exact Nat.le_refl _
    · split
      · have := findR_le [c] q
        simp only [List.length_drop, List.length_cons]
        omega
      · exact dw_le _ _
theorem loopT_le (k : Nat) : ∀ as r x, loopT k as r = some x -> x.2.2.length < r.length := by
  induction k with
  | zero => intro as r x h; simp [loopT] at h
  | succ k ih =>
    intro as r x h
    simp only [loopT] at h
    have h0 := dw_le passB r
    cases hd : r.dropWhile passB with
    | nil => rw [hd] at h; simp at h
    | cons c r2 =>
      rw [hd] at h h0
      simp only [List.length_cons] at h0
      simp only at h
      split at h
      · cases h
        simp only
        omega
      · have h1 := dw_le isSp (r2.dropWhile attrB)
        have h2 := dw_le attrB r2
        cases hr : (r2.dropWhile attrB).dropWhile isSp with
        | nil =>
          rw [hr] at h
          have := ih _ _ _ h
          simp at this
        | cons d r4 =>
          rw [hr] at h h1
          simp only [List.length_cons] at h1
          simp only at h
          split at h
          · have h3 := ih _ _ _ h
            have h4 := valueL_le (r4.dropWhile isSp)
            have h5 := dw_le isSp r4
            omega
          · have h3 := ih _ _ _ h
            simp only [List.length_cons] at h3
            omega
theorem tagL_le (r : List UInt8) (t : Tok) (q : List UInt8) (h : tagL r = some (t, q)) : q.length < r.length := by
  unfold tagL at h
  cases hl : loopT (r.length + 1) [] (r.dropWhile nameB) with
  | none => rw [hl] at h; simp at h
  | some x =>
    rw [hl] at h
    simp only [Option.map_some, Option.some.injEq, Prod.mk.injEq] at h
    have := loopT_le _ _ _ _ hl
    have h2 := dw_le nameB r
    rw [<- h.2]
    omega
end Go.Proofs.YtfohijnkeefcfaaGreatDoor.S4
namespace Go.Proofs.YtfohijnkeefcfaaGreatDoor.S4
theorem findC_cons (c : UInt8) (r : List UInt8) : findC (c :: r) = if [45, 45, 62].isPrefixOf (c :: r) then some ([], (c :: r).drop 3) else if [45, 45, 33, 62].isPrefixOf (c :: r) then some ([], (c :: r).drop 4) else (findC r).map fun x => (c :: x.1, x.2) := rfl
theorem spanS_cons (n : List UInt8) (c : UInt8) (r : List UInt8) : spanS n (c :: r) = if stopB n (c :: r) then ([], c :: r) else (c :: (spanS n r).1, (spanS n r).2) := rfl
def smallC (c : UInt8) : Bool := decide (97 <= c.toNat) && decide (c.toNat <= 122)
theorem small_name (c : UInt8) (h : smallC c = true) : nameB c = true /\ attrB c = true /\ low c = c /\ letterN c.toNat = true /\ isSp c = false /\ passB c = false := by
  simp [smallC] at h
  have e47 : c ≠ 47 := by rintro rfl; simp at h
  have e62 : c ≠ 62 := by rintro rfl; simp at h
  have e61 : c ≠ 61 := by rintro rfl; simp at h
  have hs : isSp c = false := by simp [isSp, spaceN]; omega
  refine ⟨?_, ?_, ?_, ?_, hs, ?_⟩
  · simp [nameB, hs, e47, e62]
  · simp [attrB, hs, e47, e62, e61]
  · unfold low
    rw [if_neg]
    simp [greatN]; omega
  · simp [letterN, greatN]; omega
  · simp [passB, hs, e47]
theorem small_lower (n : List UInt8) (h : n.all smallC = true) : lowerL n = n := by
  unfold lowerL
  conv => rhs; rw [<- List.map_id n]
  exact List.map_congr_left fun c hc => (small_name c (List.all_eq_true.1 h c hc)).2.2.1
theorem tw_app (p : UInt8 -> Bool) : ∀ (n : List UInt8) (x : UInt8) (r : List UInt8), n.all p = true -> p x = false -> (n ++ x :: r).takeWhile p = n /\ (n ++ x :: r).dropWhile p = x :: r
  | [], x, r, _, h => by simp [h]
  | c :: n, x, r, hn, h => by
    simp only [List.all_cons, Bool.and_eq_true] at hn
    have ih := tw_app p n x r hn.2 h
    simp [List.takeWhile_cons, List.dropWhile_cons, hn.1, ih]
theorem all_of (p q : UInt8 -> Bool) (n : List UInt8) (h : n.all p = true) (hpq : ∀ c, p c = true -> q c = true) : n.all q = true :=
  List.all_eq_true.2 fun c hc => hpq c (List.all_eq_true.1 h c hc)
theorem tag_end (n rest : List UInt8) (h : n.all smallC = true) : endedL (n ++ 62 :: rest) true = ({ kind := 3, name := n }, rest) := by
  have h1 := tw_app nameB n 62 rest (all_of _ _ n h fun c hc => (small_name c hc).1) (by decide)
  have ht : tagL (n ++ 62 :: rest) = some ({ kind := 2, name := n, attrs := [], closed := strokeB (62 :: rest) }, rest) := by
    unfold tagL
    rw [h1.1, h1.2, small_lower n h]
    simp only [loopT]
    rw [show (62 :: rest).dropWhile passB = 62 :: rest by simp [List.dropWhile_cons, passB, isSp, spaceN]]
    rfl
  unfold endedL
  rw [ht]
  rfl
end Go.Proofs.YtfohijnkeefcfaaGreatDoor.S4
namespace Go.Proofs.YtfohijnkeefcfaaGreatDoor.S4
theorem decL_ne (attr : Bool) (l : List UInt8) (h : l ≠ []) : decL attr l ≠ [] := by
  cases l with
  | nil => exact absurd rfl h
  | cons c r =>
    by_cases hc : c = 38
    · subst hc
      rw [decL_amp]
      have := (refL_bd attr r).2.2
      cases hq : (refL attr r).1 with
      | nil => exact absurd hq this
      | cons a b => simp
    · rw [decL_other _ _ _ hc]; simp
theorem spanT_app : ∀ r, (spanT r).1 ++ (spanT r).2 = r
  | [] => rfl
  | c :: r => by
    simp only [spanT]
    split
    · rfl
    · simp [spanT_app r]
theorem spanT_ne (r : List UInt8) (h : r ≠ []) (hb : beginsB r = false) : (spanT r).1 ≠ [] := by
  cases r with
  | nil => exact absurd rfl h
  | cons c q => simp only [spanT]; rw [hb]; simp
theorem spanS_app (n : List UInt8) : ∀ r, (spanS n r).1 ++ (spanS n r).2 = r
  | [] => rfl
  | c :: r => by
    simp only [spanS]
    split
    · rfl
    · simp [spanS_app n r]
theorem spanS_ne (n r : List UInt8) (h : r ≠ []) (hb : stopB n r = false) : (spanS n r).1 ≠ [] := by
  cases r with
  | nil => exact absurd rfl h
  | cons c q => rw [spanS_cons, hb]; simp
theorem short_of {a b r : List UInt8} (h : a ++ b = r) (ha : a ≠ []) : b.length < r.length := by
  rw [<- h, List.length_append]
  have := List.length_pos_iff.2 ha
  omega
def namesA (as : List (List UInt8 × List UInt8)) : List (List UInt8) := as.map (·.1)
theorem getA_none (as : List (List UInt8 × List UInt8)) (n : List UInt8) (h : (getA as n).isSome = false) : n ∉ namesA as := by
  intro hm
  obtain ⟨a, ha, rfl⟩ := List.mem_map.1 hm
  unfold getA at h
  cases hf : as.find? (fun x => x.1 == a.1) with
  | none =>
    have := List.find?_eq_none.1 hf a ha
    simp at this
  | some x => rw [hf] at h; simp at h
theorem addA_nodup (as : List (List UInt8 × List UInt8)) (a : List UInt8 × List UInt8) (h : (namesA as).Nodup) : (namesA (addA as a)).Nodup := by
  unfold addA
  cases hg : (getA as a.1).isSome
  · rw [if_neg (by decide)]
    unfold namesA
    rw [List.map_append]
    refine List.nodup_append.2 ⟨h, by simp, ?_⟩
    intro x hx y hy
    simp at hy
    subst hy
    rintro rfl
    exact getA_none as a.1 hg hx
  · rw [if_pos rfl]; exact h
theorem loopT_nodup (k : Nat) : ∀ as r x, (namesA as).Nodup -> loopT k as r = some x -> (namesA x.1).Nodup := by
  induction k with
  | zero => intro as r x _ h; simp [loopT] at h
  | succ k ih =>
    intro as r x hn h
    simp only [loopT] at h
    cases hd : r.dropWhile passB with
    | nil => rw [hd] at h; simp at h
    | cons c r2 =>
      rw [hd] at h
      simp only at h
      split at h
      · cases h; exact hn
      · cases hr : (r2.dropWhile attrB).dropWhile isSp with
        | nil => rw [hr] at h; exact ih _ _ _ (addA_nodup _ _ hn) h
        | cons d r4 =>
          rw [hr] at h
          simp only at h
          split at h
          · exact ih _ _ _ (addA_nodup _ _ hn) h
          · exact ih _ _ _ (addA_nodup _ _ hn) h
theorem tagL_what (r : List UInt8) (t : Tok) (q : List UInt8) (h : tagL r = some (t, q)) : t.kind = 2 /\ t.name = lowerL (r.takeWhile nameB) /\ (namesA t.attrs).Nodup := by
  unfold tagL at h
  cases hl : loopT (r.length + 1) [] (r.dropWhile nameB) with
  | none => rw [hl] at h; simp at h
  | some x =>
    rw [hl] at h
    simp only [Option.map_some, Option.some.injEq, Prod.mk.injEq] at h
    have := loopT_nodup _ _ _ _ (by simp [namesA]) hl
    rw [<- h.1]
    exact ⟨rfl, rfl, this⟩
structure Good (r : List UInt8) (x : Tok × List UInt8) : Prop where
  short : x.2.length < r.length
  none : x.1.kind = 0 -> x.2 = []
  text : x.1.kind = 1 -> x.1.text ≠ []
  name : x.1.kind = 2 -> ∃ c n, x.1.name = c :: n /\ smallC c = true
  once : (namesA x.1.attrs).Nodup
  bare : x.1.kind ≠ 2 -> x.1.attrs = [] /\ x.1.closed = false
theorem good_plain (r q : List UInt8) (k : Nat) (n t : List UInt8) (hk : k = 3 \/ k = 4 \/ k = 5) (h : q.length < r.length) : Good r ({ kind := k, name := n, text := t }, q) :=
  ⟨h, fun e => by simp at e; omega, fun e => by simp at e; omega, fun e => by simp at e; omega, by simp [namesA], fun _ => ⟨rfl, rfl⟩⟩
theorem good_text (r q t : List UInt8) (ht : t ≠ []) (h : q.length < r.length) : Good r ({ kind := 1, text := t }, q) :=
  ⟨h, fun e => by simp at e, fun _ => ht, fun e => by simp at e, by simp [namesA], fun _ => ⟨rfl, rfl⟩⟩
theorem good_none (r : List UInt8) (h : r ≠ []) : Good r ({ kind := 0 }, []) :=
  ⟨List.length_pos_iff.2 h, fun _ => rfl, fun e => by simp at e, fun e => by simp at e, by simp [namesA], fun _ => ⟨rfl, rfl⟩⟩
theorem Good.wider {r r' : List UInt8} {x : Tok × List UInt8} (h : Good r x) (hl : r.length <= r'.length) : Good r' x := ⟨Nat.lt_of_lt_of_le h.short hl, h.none, h.text, h.name, h.once, h.bare⟩
theorem ended_stop (r0 r : List UInt8) (h0 : r0 ≠ []) (hl : r.length <= r0.length) : Good r0 (endedL r true) := by
  unfold endedL
  cases h : tagL r with
  | none => exact good_none r0 h0
  | some x =>
    obtain ⟨t, q⟩ := x
    have := tagL_le r t q h
    exact good_plain r0 q 3 t.name [] (.inl rfl) (by omega)
theorem low_letter (c : UInt8) (h : letterN c.toNat = true) : smallC (low c) = true /\ nameB c = true := by
  simp [letterN, greatN] at h
  constructor
  · unfold low
    split
    · rename_i hg
      simp [greatN] at hg
      have e : (c + 32).toNat = c.toNat + 32 := by
        rw [UInt8.toNat_add]
        show (c.toNat + 32) % 256 = _
        omega
      simp [smallC, e]; omega
    · rename_i hg
      simp [greatN] at hg
      simp [smallC]; omega
  · have e47 : c ≠ 47 := by rintro rfl; simp at h
    have e62 : c ≠ 62 := by rintro rfl; simp at h
    have hs : isSp c = false := by simp [isSp, spaceN]; omega
    simp [nameB, hs, e47, e62]
theorem ended_start (r0 : List UInt8) (c : UInt8) (q : List UInt8) (h0 : r0 ≠ []) (hl : q.length + 1 <= r0.length) (hc : letterN c.toNat = true) : Good r0 (endedL (c :: q) false) := by
  unfold endedL
  cases h : tagL (c :: q) with
  | none => exact good_none r0 h0
  | some x =>
    obtain ⟨t, q2⟩ := x
    have h1 := tagL_le _ t q2 h
    obtain ⟨k1, k2, k3⟩ := tagL_what _ t q2 h
    simp only [List.length_cons] at h1
    refine ⟨by show q2.length < _; omega, fun e => ?_, fun e => ?_, fun _ => ?_, k3, fun e => absurd k1 e⟩
    · have : t.kind = 0 := e
      omega
    · have : t.kind = 1 := e
      omega
    · refine ⟨low c, lowerL (q.takeWhile nameB), ?_, (low_letter c hc).1⟩
      show t.name = _
      rw [k2, List.takeWhile_cons, (low_letter c hc).2]
      rfl
theorem other_good (r0 r : List UInt8) (hl : r.length < r0.length) : Good r0 (otherL r) := by
  have := findR_le [62] r
  unfold otherL
  exact good_plain r0 _ 4 [] _ (.inr (.inl rfl)) (by rw [List.length_drop]; omega)
theorem findC_le : ∀ r a b, findC r = some (a, b) -> b.length <= r.length
  | [], a, b, h => by simp [findC] at h
  | c :: r, a, b, h => by
    rw [findC_cons] at h
    split at h
    · cases h; rw [List.length_drop]; omega
    · split at h
      · cases h; rw [List.length_drop]; omega
      · cases hf : findC r with
        | none => rw [hf] at h; simp at h
        | some x =>
          rw [hf] at h
          simp only [Option.map_some, Option.some.injEq, Prod.mk.injEq] at h
          have := findC_le r x.1 x.2 hf
          rw [<- h.2]
          simp
          omega
theorem comment_good (r0 r : List UInt8) (hl : r.length < r0.length) : Good r0 (commentL r) := by
  unfold commentL
  split
  · exact good_plain r0 _ 4 [] [] (.inr (.inl rfl)) (by rw [List.length_drop]; omega)
  · split
    · exact good_plain r0 _ 4 [] [] (.inr (.inl rfl)) (by rw [List.length_drop]; omega)
    · cases h : findC r with
      | none => exact good_plain r0 [] 4 [] _ (.inr (.inl rfl)) (by simp; omega)
      | some x =>
        have := findC_le r x.1 x.2 h
        exact good_plain r0 _ 4 [] _ (.inr (.inl rfl)) (by omega)
theorem begins_form (r : List UInt8) (h : beginsB r = true) : ∃ c q, r = 60 :: c :: q /\ (letterN c.toNat = true \/ c = 33 \/ c = 63 \/ (c = 47 /\ q ≠ [])) := by
  match r, h with
  | [], h => simp [beginsB] at h
  | [a], h => simp [beginsB] at h
  | a :: c :: q, h =>
    simp [beginsB] at h
    obtain ⟨rfl, h⟩ := h
    refine ⟨c, q, rfl, ?_⟩
    rcases h with ((h | h) | h) | h
    · exact .inl h
    · exact .inr (.inl h)
    · exact .inr (.inr (.inl h))
    · exact .inr (.inr (.inr h))
theorem dataK_nil (foreign : Bool) (k : Nat) : dataK foreign k [] = ({ kind := 0 }, []) := by
  cases k <;> simp [dataK]
theorem dataK_good (foreign : Bool) (k : Nat) : ∀ r, r ≠ [] -> r.length <= k -> Good r (dataK foreign k r) := by
  induction k with
  | zero =>
    intro r h hl
    exact absurd (List.eq_nil_of_length_eq_zero (by omega)) h
  | succ k ih =>
    intro r h0 hl
    have again : ∀ q, q.length < r.length -> Good r (dataK foreign k q) := by
      intro q hq
      by_cases hn : q = []
      · rw [hn, dataK_nil]; exact good_none r h0
      · exact (ih q hn (by omega)).wider (by omega)
    have hp := List.length_pos_iff.2 h0
    rw [dataK, if_neg h0]
    by_cases hb : beginsB r = false
    · rw [if_pos hb]
      exact good_text r _ _ (decL_ne _ _ (spanT_ne r h0 hb)) (short_of (spanT_app r) (spanT_ne r h0 hb))
    · rw [if_neg hb]
      obtain ⟨c, q, rfl, hc⟩ := begins_form r (by simpa using hb)
      split
      · exact again _ (by rw [List.length_drop]; simp only [List.length_cons]; omega)
      · rename_i n3
        split
        · split
          · exact ended_stop _ _ h0 (by rw [List.length_drop]; omega)
          · exact other_good _ _ (by rw [List.length_drop]; simp only [List.length_cons]; omega)
        · rename_i n2
          split
          · exact comment_good _ _ (by rw [List.length_drop]; simp only [List.length_cons]; omega)
          · split
            · have hf := findR_le [93, 93, 62] ((60 :: c :: q).drop 9)
              rw [List.length_drop] at hf
              simp only [List.length_cons] at hf
              split
              · exact again _ (by rw [List.length_drop]; simp only [List.length_cons]; omega)
              · rename_i ht
                exact good_text _ _ _ ht (by rw [List.length_drop]; simp only [List.length_cons]; omega)
            · split
              · split
                · have hf := findR_le [62] ((60 :: c :: q).drop 9)
                  rw [List.length_drop] at hf
                  simp only [List.length_cons] at hf
                  exact good_plain _ _ 5 [] [] (.inr (.inr rfl)) (by show ((findR [62] _).2.drop 1).length < _; rw [List.length_drop]; simp only [List.length_cons]; omega)
                · exact other_good _ _ (by rw [List.length_drop]; simp only [List.length_cons]; omega)
              · rename_i n33
                split
                · exact other_good _ _ (by rw [List.length_drop]; simp only [List.length_cons]; omega)
                · rename_i n63
                  refine ended_start _ c q h0 (by simp) ?_
                  rcases hc with hc | rfl | rfl | ⟨rfl, hq⟩
                  · exact hc
                  · exact absurd (by simp [List.isPrefixOf]) n33
                  · exact absurd (by simp [List.isPrefixOf]) n63
                  · exact absurd (by simp [List.isPrefixOf]) n2
theorem next_good (mode : Int) (name : List UInt8) (foreign : Bool) (r : List UInt8) (h0 : r ≠ []) : Good r (nextR mode name foreign r) := by
  have hp := List.length_pos_iff.2 h0
  unfold nextR
  rw [if_neg h0]
  split
  · exact good_text r [] r h0 (by simpa using hp)
  · split
    · exact dataK_good foreign r.length r h0 (Nat.le_refl _)
    · split
      · exact ended_stop r _ h0 (by rw [List.length_drop]; omega)
      · rename_i hs
        have hs2 : stopB name r = false := by simpa using hs
        have hn := spanS_ne name r h0 hs2
        refine good_text r _ _ ?_ (short_of (spanS_app name r) hn)
        split
        · exact decL_ne _ _ hn
        · exact hn
end Go.Proofs.YtfohijnkeefcfaaGreatDoor.S4
namespace Go.Proofs.YtfohijnkeefcfaaGreatDoor.S4
theorem findR_one (x : UInt8) : ∀ (l q : List UInt8), x ∉ l -> findR [x] (l ++ x :: q) = (l, x :: q)
  | [], q, _ => by simp [findR, List.isPrefixOf]
  | c :: l, q, h => by
    simp only [List.mem_cons, not_or] at h
    have ih := findR_one x l q h.2
    rw [List.cons_append]
    simp only [findR]
    rw [if_neg (by simp [List.isPrefixOf]; exact h.1), ih]
def okA (as : List (List UInt8 × List UInt8)) : Prop := ∀ a ∈ as, a.1 ≠ [] /\ a.1.all smallC = true
theorem addA_new (as : List (List UInt8 × List UInt8)) (a : List UInt8 × List UInt8) (h : a.1 ∉ namesA as) : addA as a = as ++ [a] := by
  unfold addA
  rw [if_neg]
  unfold getA
  rw [List.find?_eq_none.2]
  · simp
  · intro x hx e
    exact h (List.mem_map.2 ⟨x, hx, by simpa using e⟩)
def strokeL (closed : Bool) : List UInt8 := if closed then [47] else []
theorem loop_end (k : Nat) (as : List (List UInt8 × List UInt8)) (closed : Bool) (rest : List UInt8) : loopT (k + 1) as (strokeL closed ++ 62 :: rest) = some (as, closed, rest) := by
  rw [loopT]
  cases closed
  · rw [show (strokeL false ++ 62 :: rest).dropWhile passB = 62 :: rest by simp [strokeL, List.dropWhile_cons, passB, isSp, spaceN]]
    simp only [if_true]
    rw [show strokeB (strokeL false ++ 62 :: rest) = false by simp [strokeB, strokeL, List.takeWhile_cons, passB, isSp, spaceN]]
  · rw [show (strokeL true ++ 62 :: rest).dropWhile passB = 62 :: rest by simp [strokeL, List.dropWhile_cons, passB, isSp, spaceN]]
    simp only [if_true]
    rw [show strokeB (strokeL true ++ 62 :: rest) = true by simp [strokeB, strokeL, List.takeWhile_cons, passB, isSp, spaceN]]
theorem tw_name (n X : List UInt8) (h : n.all smallC = true) (hX : X = [] \/ ∃ x q, X = x :: q /\ nameB x = false) : (n ++ X).takeWhile nameB = n /\ (n ++ X).dropWhile nameB = X := by
  have hn := all_of _ nameB n h fun c hc => (small_name c hc).1
  rcases hX with rfl | ⟨x, q, rfl, hx⟩
  · rw [List.append_nil]
    have : ∀ l : List UInt8, l.all nameB = true -> l.takeWhile nameB = l /\ l.dropWhile nameB = [] := by
      intro l
      induction l with
      | nil => intro _; simp
      | cons c r ih =>
        intro hl
        simp only [List.all_cons, Bool.and_eq_true] at hl
        simp [List.takeWhile_cons, List.dropWhile_cons, hl.1, ih hl.2]
    exact this n hn
  · exact tw_app nameB n x q hn hx
theorem data_start (n X : List UInt8) (hn : n ≠ []) (hs : n.all smallC = true) : nextR 0 [] false (60 :: (n ++ X)) = endedL (n ++ X) false := by
  cases n with
  | nil => exact absurd rfl hn
  | cons c m =>
    simp only [List.all_cons, Bool.and_eq_true] at hs
    obtain ⟨s1, s2, s3, s4, s5, s6⟩ := small_name c hs.1
    have e33 : c ≠ 33 := by rintro rfl; exact absurd hs.1 (by decide)
    have e63 : c ≠ 63 := by rintro rfl; exact absurd hs.1 (by decide)
    have e47 : c ≠ 47 := by rintro rfl; exact absurd hs.1 (by decide)
    unfold nextR
    rw [if_neg (by simp), if_neg (by decide), if_pos (by decide)]
    unfold dataL
    rw [List.length_cons, dataK, if_neg (by simp), if_neg (by simp [beginsB, s4])]
    rw [if_neg (by simp [List.isPrefixOf]; exact fun e => absurd e.symm e47), if_neg (by simp [List.isPrefixOf]; exact fun e => absurd e.symm e47), if_neg (by simp [List.isPrefixOf]; exact fun e => absurd e.symm e33), if_neg (by simp), if_neg (by simp [List.isPrefixOf]; exact fun e => absurd e.symm e33), if_neg (by simp [List.isPrefixOf]; exact fun e => absurd e.symm e63)]
    rfl
theorem data_stop (n rest : List UInt8) (hn : n ≠ []) (hs : n.all smallC = true) : nextR 0 [] false (60 :: 47 :: (n ++ 62 :: rest)) = ({ kind := 3, name := n }, rest) := by
  rw [<- tag_end n rest hs]
  cases n with
  | nil => exact absurd rfl hn
  | cons c m =>
    simp only [List.all_cons, Bool.and_eq_true] at hs
    obtain ⟨s1, s2, s3, s4, s5, s6⟩ := small_name c hs.1
    have e62 : c ≠ 62 := by rintro rfl; exact absurd hs.1 (by decide)
    unfold nextR
    rw [if_neg (by simp), if_neg (by decide), if_pos (by decide)]
    unfold dataL
    rw [List.length_cons, dataK, if_neg (by simp), if_neg (by simp [beginsB]), if_neg (by simp [List.isPrefixOf]; exact fun e => absurd e.symm e62), if_pos (by simp [List.isPrefixOf]), if_pos (by simp [s4])]
    rfl
end Go.Proofs.YtfohijnkeefcfaaGreatDoor.S4
