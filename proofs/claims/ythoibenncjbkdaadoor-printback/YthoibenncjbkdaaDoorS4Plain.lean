/- Character references, plainly: what Named, Number, At and Decode come to over lists of bytes, and what follows of them. No program in it. -/
import Derived.Lib.RuneBytes
set_option linter.unusedVariables false
set_option linter.unusedSimpArgs false
set_option maxRecDepth 4000
namespace Go.Proofs.YthoibenncjbkdaaDoor.S4

def greatN (n : Nat) : Bool := decide (65 ≤ n) && decide (n ≤ 90)
def letterN (n : Nat) : Bool := greatN n || (decide (97 ≤ n) && decide (n ≤ 122))
def figureN (n : Nat) : Bool := decide (48 ≤ n) && decide (n ≤ 57)

/-- The names, without their semicolon; their code points; whether they stand without it too. -/
def entriesE : List (List UInt8 × Nat × Bool) := [([65, 77, 80], 38, true), ([97, 109, 112], 38, true), ([76, 84], 60, true), ([108, 116], 60, true), ([71, 84], 62, true), ([103, 116], 62, true), ([81, 85, 79, 84], 34, true), ([113, 117, 111, 116], 34, true), ([110, 98, 115, 112], 160, true), ([99, 111, 112, 121], 169, true), ([108, 97, 113, 117, 111], 171, true), ([110, 111, 116], 172, true), ([115, 104, 121], 173, true), ([114, 101, 103], 174, true), ([100, 101, 103], 176, true), ([112, 97, 114, 97], 182, true), ([109, 105, 100, 100, 111, 116], 183, true), ([114, 97, 113, 117, 111], 187, true), ([69, 97, 99, 117, 116, 101], 201, true), ([116, 105, 109, 101, 115], 215, true), ([115, 122, 108, 105, 103], 223, true), ([101, 97, 99, 117, 116, 101], 233, true), ([100, 105, 118, 105, 100, 101], 247, true), ([117, 117, 109, 108], 252, true), ([84, 97, 98], 9, false), ([78, 101, 119, 76, 105, 110, 101], 10, false), ([101, 120, 99, 108], 33, false), ([110, 117, 109], 35, false), ([97, 112, 111, 115], 39, false), ([108, 112, 97, 114], 40, false), ([114, 112, 97, 114], 41, false), ([115, 111, 108], 47, false), ([99, 111, 108, 111, 110], 58, false), ([98, 115, 111, 108], 92, false), ([110, 100, 97, 115, 104], 8211, false), ([109, 100, 97, 115, 104], 8212, false), ([108, 115, 113, 117, 111], 8216, false), ([114, 115, 113, 117, 111], 8217, false), ([108, 100, 113, 117, 111], 8220, false), ([114, 100, 113, 117, 111], 8221, false), ([104, 101, 108, 108, 105, 112], 8230, false), ([101, 117, 114, 111], 8364, false), ([116, 114, 97, 100, 101], 8482, false), ([110, 111, 116, 105, 110], 8713, false), ([116, 105, 109, 101, 115, 98], 8864, false)
  ]
/-- What the numbers 128 to 159 stand for. -/
def oldN : List Nat := [8364, 129, 8218, 402, 8222, 8230, 8224, 8225, 710, 8240, 352, 8249, 338, 141, 381, 143, 144, 8216, 8217, 8220, 8221, 8226, 8211, 8212, 732, 8482, 353, 8250, 339, 157, 382, 376]

/-- The code point that a number stands for. -/
def cpN (n : Int) : Int :=
  if n ≤ 0 ∨ 1114111 < n ∨ (55296 ≤ n ∧ n ≤ 57343) then 65533 else if 128 ≤ n ∧ n ≤ 159 then (oldN.getD (n - 128).toNat 0 : Nat) else n
def numberL (n : Int) : List UInt8 := Lib.encodeRune (cpN n)

/-- Is this the entry's name, with or without its semicolon? -/
def hitE (n : List UInt8) (e : List UInt8 × Nat × Bool) : Bool := n == e.1 ++ [59] || (e.2.2 && n == e.1)
/-- The code point of a name. -/
def codeL (n : List UInt8) : Option Nat := (entriesE.find? (hitE n)).map fun e => e.2.1
def namedL (n : List UInt8) : List UInt8 × Bool :=
  match codeL n with
  | some c => (Lib.encodeRune (c : Int), true)
  | none => ([], false)

/-- The longest name, of at most k bytes, that stands at the front: its code point, its length. -/
def longK : Nat → List UInt8 → Option (Nat × Nat)
  | 0, _ => none
  | k + 1, l => if k + 1 ≤ l.length then (match codeL (l.take (k + 1)) with | some c => some (c, k + 1) | none => longK k l) else longK k l
def longL (l : List UInt8) : Option (Nat × Nat) := longK 8 l

/-- A digit's value by a base. -/
def digitB (base : Nat) (c : UInt8) : Option Nat :=
  let d := if figureN c.toNat then some (c.toNat - 48) else if 97 ≤ c.toNat ∧ c.toNat ≤ 102 then some (c.toNat - 87) else if 65 ≤ c.toNat ∧ c.toNat ≤ 70 then some (c.toNat - 55) else none
  match d with
  | some v => if v < base then some v else none
  | none => none
/-- How many digits stand at the front. -/
def digsN (base : Nat) : List UInt8 → Nat
  | [] => 0
  | c :: r => match digitB base c with | some _ => 1 + digsN base r | none => 0
/-- The number that the digits at the front say, n being said already. -/
def valN (base : Nat) : Nat → List UInt8 → Nat
  | n, [] => n
  | n, c :: r => match digitB base c with | some d => valN base (n * base + d) r | none => n

/-- One more, where a semicolon stands. -/
def semiN (l : List UInt8) : Nat := if l.head? = some 59 then 1 else 0
/-- The digits' part of a reference by number: what it stands for, and how many bytes it has. -/
def digsL (base : Nat) (l : List UInt8) : List UInt8 × Nat :=
  if digsN base l = 0 then ([], 0) else (numberL (valN base 0 l), digsN base l + semiN (l.drop (digsN base l)))
/-- Behind the number sign. -/
def numL (q : List UInt8) : List UInt8 × Nat :=
  match q with
  | [] => ([], 0)
  | c :: r => if c = 120 ∨ c = 88 then (if (digsL 16 r).2 = 0 then ([], 0) else ((digsL 16 r).1, (digsL 16 r).2 + 3)) else (if (digsL 10 (c :: r)).2 = 0 then ([], 0) else ((digsL 10 (c :: r)).1, (digsL 10 (c :: r)).2 + 2))

/-- May a name that has no semicolon not stand here, in an attribute? -/
def barredB (c : Option UInt8) : Bool :=
  match c with
  | none => false
  | some c => c.toNat == 61 || letterN c.toNat || figureN c.toNat
/-- Behind the &. -/
def refL (attr : Bool) (r : List UInt8) : List UInt8 × Nat :=
  if r.head? = some 35 then (if (numL r.tail).2 = 0 then ([38], 1) else numL r.tail)
  else match longL r with
    | none => ([38], 1)
    | some (c, n) => if attr && !(r[n - 1]? == some 59) && barredB r[n]? then ([38], 1) else (Lib.encodeRune (c : Int), n + 1)
/-- The reference at the front. -/
def atL (attr : Bool) (l : List UInt8) : List UInt8 × Nat :=
  match l with
  | [] => ([], 0)
  | c :: r => if c = 38 then refL attr r else ([], 0)

theorem digsN_le (base : Nat) (l : List UInt8) : digsN base l ≤ l.length := by
  induction l with
  | nil => exact Nat.le_refl _
  | cons c r ih =>
    simp only [digsN]
    split
    · simp; omega
    · simp
theorem semiN_le (l : List UInt8) : semiN l ≤ l.length ∧ semiN l ≤ 1 := by
  unfold semiN
  split
  · cases l with
    | nil => simp at *
    | cons c r => simp
  · omega
theorem encode_ne (r : Int) : Lib.encodeRune r ≠ [] := by
  intro h
  have := (Lib.encodeRuneZ_length r).1
  have h2 := congrArg List.length h
  unfold Lib.encodeRune at h2
  rw [List.length_map, List.length_nil] at h2
  omega
theorem digsL_bd (base : Nat) (l : List UInt8) : (digsL base l).2 ≤ l.length ∧ ((digsL base l).2 ≠ 0 → (digsL base l).1 ≠ []) := by
  unfold digsL
  split
  · simp
  · have h1 := digsN_le base l
    have h2 := (semiN_le (l.drop (digsN base l))).1
    rw [List.length_drop] at h2
    exact ⟨by show _ + _ ≤ _; omega, fun _ => encode_ne _⟩
theorem numL_bd (q : List UInt8) : (numL q).2 ≤ q.length + 2 ∧ ((numL q).2 ≠ 0 → (numL q).1 ≠ [] ∧ 2 < (numL q).2) := by
  unfold numL
  cases q with
  | nil => simp
  | cons c r =>
    have h1 := digsL_bd 16 r
    have h2 := digsL_bd 10 (c :: r)
    simp only
    split
    · split
      · simp
      · simp only [List.length_cons]
        exact ⟨by omega, fun _ => ⟨h1.2 (by assumption), by omega⟩⟩
    · split
      · simp
      · simp only [List.length_cons] at h2 ⊢
        exact ⟨by omega, fun _ => ⟨h2.2 (by assumption), by omega⟩⟩

theorem longK_some (k : Nat) (l : List UInt8) (c n : Nat) (h : longK k l = some (c, n)) : 1 ≤ n ∧ n ≤ k ∧ n ≤ l.length ∧ codeL (l.take n) = some c := by
  induction k with
  | zero => simp [longK] at h
  | succ k ih =>
    simp only [longK] at h
    split at h
    · split at h
      · rename_i hl v hv
        simp only [Option.some.injEq, Prod.mk.injEq] at h
        obtain ⟨rfl, rfl⟩ := h
        exact ⟨by omega, by omega, by omega, hv⟩
      · obtain ⟨a, b, d, e⟩ := ih h
        exact ⟨a, by omega, d, e⟩
    · obtain ⟨a, b, d, e⟩ := ih h
      exact ⟨a, by omega, d, e⟩
/-- None that is longer stands there. -/
theorem longK_max (k : Nat) (l : List UInt8) (m : Nat) (hm : m ≤ k) (hl : m ≤ l.length) (h1 : 1 ≤ m) (c : Nat) (hc : codeL (l.take m) = some c) : ∃ c' n', longK k l = some (c', n') ∧ m ≤ n' := by
  induction k with
  | zero => omega
  | succ k ih =>
    simp only [longK]
    by_cases e : m = k + 1
    · subst e
      rw [if_pos hl, hc]
      exact ⟨c, _, rfl, Nat.le_refl _⟩
    · split
      · split
        · exact ⟨_, _, rfl, by omega⟩
        · exact ih (by omega)
      · exact ih (by omega)
/-- What is the longest: it is a name, and no longer one stands there. -/
theorem longK_eq (k : Nat) (l : List UInt8) (n c : Nat) (h1 : 1 ≤ n) (hk : n ≤ k) (hl : n ≤ l.length) (hc : codeL (l.take n) = some c) (hno : ∀ m, n < m → m ≤ k → m ≤ l.length → codeL (l.take m) = none) : longK k l = some (c, n) := by
  obtain ⟨c', n', e, h⟩ := longK_max k l n hk hl h1 c hc
  obtain ⟨a, b, d, f⟩ := longK_some k l c' n' e
  by_cases g : n = n'
  · subst g
    rw [hc] at f
    rw [e, Option.some.inj f]
  · rw [hno n' (by omega) b d] at f
    exact absurd f (by simp)
theorem longK_none (k : Nat) (l : List UInt8) (hno : ∀ m, 1 ≤ m → m ≤ k → m ≤ l.length → codeL (l.take m) = none) : longK k l = none := by
  cases e : longK k l with
  | none => rfl
  | some p =>
    obtain ⟨a, b, d, f⟩ := longK_some k l p.1 p.2 e
    rw [hno p.2 a b d] at f
    exact absurd f (by simp)

theorem code_mem (n : List UInt8) (c : Nat) (h : codeL n = some c) : ∃ e ∈ entriesE, hitE n e = true ∧ e.2.1 = c := by
  unfold codeL at h
  cases hf : entriesE.find? (hitE n) with
  | none => rw [hf] at h; simp at h
  | some e =>
    rw [hf] at h
    exact ⟨e, List.mem_of_find?_eq_some hf, List.find?_some hf, by simpa using h⟩
/-- A name is an entry's, with or without its semicolon. -/
theorem code_cases (n : List UInt8) (c : Nat) (h : codeL n = some c) : ∃ e ∈ entriesE, n = e.1 ++ [59] ∨ n = e.1 := by
  obtain ⟨e, he, hh, _⟩ := code_mem n c h
  refine ⟨e, he, ?_⟩
  unfold hitE at hh
  simp at hh
  rcases hh with h1 | ⟨_, h1⟩
  · exact .inl h1
  · exact .inr h1
/-- What holds of every entry's name, with and without the semicolon, holds of every name. -/
theorem code_all (p : List UInt8 → Bool) (hp : entriesE.all (fun e => p (e.1 ++ [59]) && p e.1) = true) (n : List UInt8) (c : Nat) (h : codeL n = some c) : p n = true := by
  obtain ⟨e, he, hh⟩ := code_cases n c h
  have := List.all_eq_true.1 hp e he
  simp only [Bool.and_eq_true] at this
  rcases hh with rfl | rfl
  · exact this.1
  · exact this.2
/-- No name has a byte that is neither a letter nor, at its end, a semicolon. -/
theorem code_letters : entriesE.all (fun e => (e.1 ++ [59]).all (fun c => letterN c.toNat || c == 59) && e.1.all (fun c => letterN c.toNat || c == 59)) = true := by decide +kernel
theorem code_no (n : List UInt8) (x : UInt8) (hx : (letterN x.toNat || x == 59) = false) (hm : x ∈ n) : codeL n = none := by
  cases h : codeL n with
  | none => rfl
  | some c =>
    have := code_all (fun n => n.all (fun c => letterN c.toNat || c == 59)) code_letters n c h
    rw [List.all_eq_true] at this
    rw [this x hm] at hx
    exact absurd hx (by decide)
theorem code_nil : codeL [] = none := by decide +kernel
theorem code_short : entriesE.all (fun e => decide ((e.1 ++ [59]).length ≤ 8) && decide (e.1.length ≤ 8)) = true := by decide +kernel
theorem code_le (n : List UInt8) (c : Nat) (h : codeL n = some c) : n.length ≤ 8 := of_decide_eq_true (code_all (fun n => decide (n.length ≤ 8)) code_short n c h)
theorem code_head : entriesE.all (fun e => !((e.1 ++ [59]).head? == some 35) && !(e.1.head? == some 35)) = true := by decide +kernel

theorem refL_bd (attr : Bool) (r : List UInt8) : 1 ≤ (refL attr r).2 ∧ (refL attr r).2 ≤ r.length + 1 ∧ (refL attr r).1 ≠ [] := by
  unfold refL
  split
  · rename_i h
    split
    · simp
    · have hb := numL_bd r.tail
      have : 1 ≤ r.length := by
        cases r with
        | nil => simp at h
        | cons c q => simp
      rw [List.length_tail] at hb
      rename_i h0
      exact ⟨by omega, by omega, (hb.2 h0).1⟩
  · split
    · simp
    · rename_i c n hlg
      obtain ⟨a, b, d, e⟩ := longK_some _ _ _ _ hlg
      split
      · simp
      · exact ⟨by simp, by simp; omega, encode_ne _⟩

/-- A text, each reference of which is what it stands for: k bounds its length. -/
def decK (attr : Bool) : Nat → List UInt8 → List UInt8
  | 0, _ => []
  | _ + 1, [] => []
  | k + 1, c :: r => if c = 38 then (refL attr r).1 ++ decK attr k (r.drop ((refL attr r).2 - 1)) else c :: decK attr k r
def decL (attr : Bool) (l : List UInt8) : List UInt8 := decK attr l.length l
theorem decK_enough (attr : Bool) (k : Nat) (l : List UInt8) (h : l.length ≤ k) : decK attr k l = decL attr l := by
  have key : ∀ k j l, List.length l ≤ k → List.length l ≤ j → decK attr k l = decK attr j l := by
    intro k
    induction k with
    | zero =>
      intro j l h1 h2
      obtain rfl : l = [] := List.eq_nil_of_length_eq_zero (by omega)
      cases j <;> rfl
    | succ k ih =>
      intro j l h1 h2
      cases l with
      | nil => cases j <;> rfl
      | cons c r =>
        cases j with
        | zero => simp at h2
        | succ j =>
          simp only [List.length_cons] at h1 h2
          simp only [decK]
          split
          · rw [ih j (r.drop _) (by rw [List.length_drop]; omega) (by rw [List.length_drop]; omega)]
          · rw [ih j r (by omega) (by omega)]
  exact key k l.length l h (Nat.le_refl _)
theorem decL_nil (attr : Bool) : decL attr [] = [] := rfl
theorem decL_other (attr : Bool) (c : UInt8) (r : List UInt8) (h : c ≠ 38) : decL attr (c :: r) = c :: decL attr r := by
  show decK attr (r.length + 1) (c :: r) = _
  simp only [decK, if_neg h]
  rfl
theorem decL_amp (attr : Bool) (r : List UInt8) : decL attr (38 :: r) = (refL attr r).1 ++ decL attr ((38 :: r).drop (refL attr r).2) := by
  show decK attr (r.length + 1) (38 :: r) = _
  simp only [decK, if_true]
  have h := (refL_bd attr r).1
  have e : (38 :: r).drop (refL attr r).2 = r.drop ((refL attr r).2 - 1) := by
    cases hn : (refL attr r).2 with
    | zero => omega
    | succ m => simp
  rw [e, decK_enough attr r.length _ (by rw [List.length_drop]; omega)]
end Go.Proofs.YthoibenncjbkdaaDoor.S4
