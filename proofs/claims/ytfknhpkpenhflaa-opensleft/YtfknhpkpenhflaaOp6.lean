/- Open elements, plainly: over lists. No program in it. -/
import Derived.Test.YtfknhpkpenhflaaPlain
set_option linter.unusedVariables false
set_option linter.unusedSimpArgs false
namespace Go.Proofs.Ytfknhpkpenhflaa

structure OV where
  id : Int
  sp : Int
  nm : ByteArray

def svgN : List (List UInt8) := [[102, 111, 114, 101, 105, 103, 110, 111, 98, 106, 101, 99, 116], [100, 101, 115, 99], [116, 105, 116, 108, 101]]
def svgT : List UInt8 := [102, 111, 114, 101, 105, 103, 110, 111, 98, 106, 101, 99, 116, 32, 100, 101, 115, 99, 32, 116, 105, 116, 108, 101]
def mathN : List (List UInt8) := [[109, 105], [109, 111], [109, 110], [109, 115], [109, 116, 101, 120, 116]]
def mathT : List UInt8 := [109, 105, 32, 109, 111, 32, 109, 110, 32, 109, 115, 32, 109, 116, 101, 120, 116]
def wholeN : List (List UInt8) := [[97, 112, 112, 108, 101, 116], [99, 97, 112, 116, 105, 111, 110], [104, 116, 109, 108], [109, 97, 114, 113, 117, 101, 101], [111, 98, 106, 101, 99, 116], [116, 97, 98, 108, 101], [116, 100], [116, 101, 109, 112, 108, 97, 116, 101], [116, 104]]
def wholeT : List UInt8 := [97, 112, 112, 108, 101, 116, 32, 99, 97, 112, 116, 105, 111, 110, 32, 104, 116, 109, 108, 32, 109, 97, 114, 113, 117, 101, 101, 32, 111, 98, 106, 101, 99, 116, 32, 116, 97, 98, 108, 101, 32, 116, 100, 32, 116, 101, 109, 112, 108, 97, 116, 101, 32, 116, 104]
def tabN : List (List UInt8) := [[104, 116, 109, 108], [116, 97, 98, 108, 101], [116, 101, 109, 112, 108, 97, 116, 101]]
def tabT : List UInt8 := [104, 116, 109, 108, 32, 116, 97, 98, 108, 101, 32, 116, 101, 109, 112, 108, 97, 116, 101]
def rowN : List (List UInt8) := [[111, 108], [117, 108]]
def rowT : List UInt8 := [111, 108, 32, 117, 108]
def buttonB : List UInt8 := [98, 117, 116, 116, 111, 110]
theorem svg_pieces : piecesL [] svgT = svgN := by decide +kernel
theorem math_pieces : piecesL [] mathT = mathN := by decide +kernel
theorem whole_pieces : piecesL [] wholeT = wholeN := by decide +kernel
theorem tab_pieces : piecesL [] tabT = tabN := by decide +kernel
theorem row_pieces : piecesL [] rowT = rowN := by decide +kernel

def pointS (sp : Int) (n : List UInt8) : Bool := if sp = 1 then amongL svgN n else if sp = 2 then amongL mathN n else false
/-- Is one an integration point? -/
def pointL (o : OV) : Bool := pointS o.sp o.nm.data.toList
def htmlL (o : OV) : Bool := o.sp == 0
def specialL (o : OV) : Bool := htmlL o && isL 4 o.nm.data.toList || pointL o
def endsNameL (n : List UInt8) (k : Int) : Bool :=
  if k = 4 then amongL tabN n else if k = 2 then amongL wholeN n || amongL rowN n else if k = 3 then amongL wholeN n || n == buttonB else amongL wholeN n
def endsL (o : OV) (k : Int) : Bool := if htmlL o then endsNameL o.nm.data.toList k else (k != 4 && pointL o)
def namedL (names : List (List UInt8)) (o : OV) : Bool := htmlL o && amongL names o.nm.data.toList
/-- Which of the first k is the last one of which p holds? -/
def lastO (p : OV → Bool) (l : List OV) : Nat → Option Nat
  | 0 => none
  | k + 1 => if (l[k]?).any p then some k else lastO p l k
def placeZ : Option Nat → Int
  | some j => (j : Int)
  | none => -1
def hasO (names : List (List UInt8)) (sc : Int) (l : List OV) : Nat → Bool
  | 0 => false
  | k + 1 => (l[k]?).any (namedL names) || (!(l[k]?).any (fun o => endsL o sc) && hasO names sc l k)
def goesL (ex : ByteArray) (o : OV) : Bool := htmlL o && isL 8 o.nm.data.toList && !(o.nm.data.toList == ex.data.toList)
def staysL (ex : ByteArray) (o : OV) : Bool := !htmlL o || !isL 8 o.nm.data.toList || (o.nm.data.toList == ex.data.toList)
def leftO (ex : ByteArray) (l : List OV) : Nat → Nat
  | 0 => 0
  | k + 1 => if (l[k]?).any (goesL ex) then leftO ex l k else k + 1
def hasZ (l : List OV) (names : List (List UInt8)) (sc : Int) : Bool := hasO names sc l l.length
def cutZ (l : List OV) (names : List (List UInt8)) : Int := placeZ (lastO (namedL names) l l.length)
def impliedZ (l : List OV) (ex : ByteArray) : Int := (leftO ex l l.length : Int)
def findZ (l : List OV) (id : Int) : Int := placeZ (lastO (fun o => o.id == id) l l.length)

theorem any_at (p : OV → Bool) (l : List OV) (k : Nat) (h : k < l.length) : (l[k]?).any p = p l[k] := by
  rw [List.getElem?_eq_getElem h]; rfl
theorem last_hit (p : OV → Bool) (l : List OV) (k : Nat) (h : k < l.length) (hp : p l[k] = true) : lastO p l (k + 1) = some k := by
  rw [lastO, any_at p l k h, if_pos hp]
theorem last_miss (p : OV → Bool) (l : List OV) (k : Nat) (h : k < l.length) (hp : p l[k] = false) : lastO p l (k + 1) = lastO p l k := by
  rw [lastO, any_at p l k h, if_neg (by rw [hp]; exact Bool.false_ne_true)]
theorem last_some (p : OV → Bool) (l : List OV) : ∀ (k j : Nat), k ≤ l.length → lastO p l k = some j → j < k ∧ (∀ h : j < l.length, p l[j] = true) ∧ ∀ i (h : i < l.length), j < i → i < k → p l[i] = false := by
  intro k
  induction k with
  | zero => intro j _ h; exact absurd h (by simp [lastO])
  | succ k ih =>
    intro j hk h
    have hk2 : k < l.length := by omega
    cases hp : p l[k] with
    | true =>
      rw [last_hit p l k hk2 hp] at h
      obtain rfl : k = j := Option.some.inj h
      exact ⟨by omega, fun _ => hp, fun i _ h1 h2 => by omega⟩
    | false =>
      rw [last_miss p l k hk2 hp] at h
      obtain ⟨h1, h2, h3⟩ := ih j (by omega) h
      refine ⟨by omega, h2, fun i hi h4 h5 => ?_⟩
      by_cases e : i = k
      · subst e; exact hp
      · exact h3 i hi h4 (by omega)
theorem last_none (p : OV → Bool) (l : List OV) : ∀ (k : Nat), k ≤ l.length → lastO p l k = none → ∀ i (h : i < l.length), i < k → p l[i] = false := by
  intro k
  induction k with
  | zero => intro _ _ i _ h; omega
  | succ k ih =>
    intro hk h i hi hik
    have hk2 : k < l.length := by omega
    cases hp : p l[k] with
    | true =>
      rw [last_hit p l k hk2 hp] at h
      exact absurd h (by simp)
    | false =>
      rw [last_miss p l k hk2 hp] at h
      by_cases e : i = k
      · subst e; exact hp
      · exact ih (by omega) h i hi (by omega)
theorem place_range (p : OV → Bool) (l : List OV) : -1 ≤ placeZ (lastO p l l.length) ∧ placeZ (lastO p l l.length) < l.length := by
  cases h : lastO p l l.length with
  | none => exact ⟨by simp [placeZ], by simp [placeZ]; omega⟩
  | some j =>
    have := (last_some p l _ j (Nat.le_refl _) h).1
    simp only [placeZ]
    omega
/-- Has, as the program asks it: the last one that is named or ends the scope, if it is named. -/
theorem has_last (names : List (List UInt8)) (sc : Int) (l : List OV) : ∀ k, k ≤ l.length →
    (lastO (fun o => namedL names o || endsL o sc) l k = none → hasO names sc l k = false) ∧ ∀ j (h : j < l.length), lastO (fun o => namedL names o || endsL o sc) l k = some j → hasO names sc l k = namedL names l[j] := by
  intro k
  induction k with
  | zero => exact fun _ => ⟨fun _ => rfl, fun j _ h => absurd h (by simp [lastO])⟩
  | succ k ih =>
    intro hk
    have hk2 : k < l.length := by omega
    rw [hasO, any_at _ l k hk2, any_at _ l k hk2]
    cases hp : (namedL names l[k] || endsL l[k] sc) with
    | true =>
      rw [last_hit (fun o => namedL names o || endsL o sc) l k hk2 hp]
      refine ⟨fun h => absurd h (by simp), fun j hj h => ?_⟩
      obtain rfl : k = j := Option.some.inj h
      cases hn : namedL names l[k] with
      | true => rfl
      | false =>
        rw [hn, Bool.false_or] at hp
        rw [hp]
        rfl
    | false =>
      rw [last_miss (fun o => namedL names o || endsL o sc) l k hk2 hp]
      rw [Bool.or_eq_false_iff] at hp
      rw [hp.1, hp.2, Bool.false_or, Bool.not_false, Bool.true_and]
      exact ih (by omega)
theorem has_hit (names : List (List UInt8)) (sc : Int) (l : List OV) (k : Nat) (h : k < l.length) (hp : namedL names l[k] = true) : hasO names sc l (k + 1) = true := by
  rw [hasO, any_at _ l k h, hp, Bool.true_or]
theorem has_stop (names : List (List UInt8)) (sc : Int) (l : List OV) (k : Nat) (h : k < l.length) (hp : namedL names l[k] = false) (he : endsL l[k] sc = true) : hasO names sc l (k + 1) = false := by
  rw [hasO, any_at _ l k h, any_at _ l k h, hp, he]; rfl
theorem has_miss (names : List (List UInt8)) (sc : Int) (l : List OV) (k : Nat) (h : k < l.length) (hp : namedL names l[k] = false) (he : endsL l[k] sc = false) : hasO names sc l (k + 1) = hasO names sc l k := by
  rw [hasO, any_at _ l k h, any_at _ l k h, hp, he]; simp
theorem goes_stays (ex : ByteArray) (o : OV) : goesL ex o = !staysL ex o := by
  unfold goesL staysL
  cases htmlL o <;> cases isL 8 o.nm.data.toList <;> simp
theorem left_go (ex : ByteArray) (l : List OV) (k : Nat) (h : k < l.length) (hp : goesL ex l[k] = true) : leftO ex l (k + 1) = leftO ex l k := by
  rw [leftO, any_at _ l k h, if_pos hp]
theorem left_stay (ex : ByteArray) (l : List OV) (k : Nat) (h : k < l.length) (hp : goesL ex l[k] = false) : leftO ex l (k + 1) = k + 1 := by
  rw [leftO, any_at _ l k h, if_neg (by rw [hp]; exact Bool.false_ne_true)]
theorem left_last (ex : ByteArray) (l : List OV) : ∀ k, k ≤ l.length → (leftO ex l k : Int) = placeZ (lastO (staysL ex) l k) + 1 := by
  intro k
  induction k with
  | zero => intro _; rfl
  | succ k ih =>
    intro hk
    have hk2 : k < l.length := by omega
    cases hp : staysL ex l[k] with
    | true =>
      rw [last_hit _ l k hk2 hp, left_stay ex l k hk2 (by rw [goes_stays, hp]; rfl)]
      simp [placeZ]
    | false =>
      rw [last_miss _ l k hk2 hp, left_go ex l k hk2 (by rw [goes_stays, hp]; rfl)]
      exact ih (by omega)
theorem left_le (ex : ByteArray) (l : List OV) : ∀ k, leftO ex l k ≤ k := by
  intro k
  induction k with
  | zero => exact Nat.le_refl _
  | succ k ih => rw [leftO]; split <;> omega
theorem left_goes (ex : ByteArray) (l : List OV) : ∀ k, k ≤ l.length → (∀ i (h : i < l.length), leftO ex l k ≤ i → i < k → goesL ex l[i] = true) ∧ (∀ i (h : i < l.length), i + 1 = leftO ex l k → goesL ex l[i] = false) := by
  intro k
  induction k with
  | zero => intro _; exact ⟨fun i _ _ h => by omega, fun i _ h => absurd h (by simp [leftO])⟩
  | succ k ih =>
    intro hk
    have hk2 : k < l.length := by omega
    cases hp : goesL ex l[k] with
    | true =>
      rw [left_go ex l k hk2 hp]
      obtain ⟨h1, h2⟩ := ih (by omega)
      refine ⟨fun i hi h3 h4 => ?_, h2⟩
      by_cases e : i = k
      · subst e; exact hp
      · exact h1 i hi h3 (by omega)
    | false =>
      rw [left_stay ex l k hk2 hp]
      refine ⟨fun i hi h3 h4 => by omega, fun i hi h3 => ?_⟩
      obtain rfl : i = k := by omega
      exact hp
/-- A wider scope: what ends the whole one ends a list's and a button's. -/
theorem ends_wider (o : OV) (sc : Int) (hs : sc = 2 ∨ sc = 3) (h : endsL o 1 = true) : endsL o sc = true := by
  unfold endsL at *
  cases hh : htmlL o with
  | true =>
    rw [hh] at h
    simp only [if_true] at h ⊢
    have h1 : amongL wholeN o.nm.data.toList = true := by
      have e : endsNameL o.nm.data.toList 1 = amongL wholeN o.nm.data.toList := rfl
      rw [e] at h; exact h
    rcases hs with rfl | rfl
    · show (amongL wholeN o.nm.data.toList || amongL rowN o.nm.data.toList) = true
      rw [h1, Bool.true_or]
    · show (amongL wholeN o.nm.data.toList || o.nm.data.toList == buttonB) = true
      rw [h1, Bool.true_or]
  | false =>
    rw [hh] at h
    rcases hs with rfl | rfl
    · exact h
    · exact h
theorem has_wider (names : List (List UInt8)) (sc : Int) (hs : sc = 2 ∨ sc = 3) (l : List OV) : ∀ k, k ≤ l.length → hasO names sc l k = true → hasO names 1 l k = true := by
  intro k
  induction k with
  | zero => intro _ h; exact absurd h (by simp [hasO])
  | succ k ih =>
    intro hk h
    have hk2 : k < l.length := by omega
    cases hn : namedL names l[k] with
    | true => exact has_hit names 1 l k hk2 hn
    | false =>
      cases he : endsL l[k] 1 with
      | true =>
        rw [has_stop names sc l k hk2 hn (ends_wider _ sc hs he)] at h
        exact absurd h Bool.false_ne_true
      | false =>
        rw [has_miss names 1 l k hk2 hn he]
        cases he2 : endsL l[k] sc with
        | true =>
          rw [has_stop names sc l k hk2 hn he2] at h
          exact absurd h Bool.false_ne_true
        | false =>
          rw [has_miss names sc l k hk2 hn he2] at h
          exact ih (by omega) h
theorem has_cut (names : List (List UInt8)) (sc : Int) (l : List OV) : ∀ k, k ≤ l.length → hasO names sc l k = true → 0 ≤ placeZ (lastO (namedL names) l k) := by
  intro k
  induction k with
  | zero => intro _ h; exact absurd h (by simp [hasO])
  | succ k ih =>
    intro hk h
    have hk2 : k < l.length := by omega
    cases hn : namedL names l[k] with
    | true => rw [last_hit _ l k hk2 hn]; simp [placeZ]
    | false =>
      rw [last_miss _ l k hk2 hn]
      cases he2 : endsL l[k] sc with
      | true =>
        rw [has_stop names sc l k hk2 hn he2] at h
        exact absurd h Bool.false_ne_true
      | false =>
        rw [has_miss names sc l k hk2 hn he2] at h
        exact ih (by omega) h
end Go.Proofs.Ytfknhpkpenhflaa
