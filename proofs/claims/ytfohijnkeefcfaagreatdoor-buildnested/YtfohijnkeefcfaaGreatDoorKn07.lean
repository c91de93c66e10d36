import GoSem.Core.Utf8
set_option linter.unusedVariables false
set_option linter.unusedSimpArgs false
set_option maxRecDepth 100000
set_option maxHeartbeats 8000000
namespace Go.Proofs.YtfohijnkeefcfaaGreatDoor.S6
def spaceN (n : Nat) : Bool := n == 9 || n == 10 || n == 12 || n == 13 || n == 32
def isSpace (c : UInt8) : Bool := spaceN c.toNat
def whiteL (l : List UInt8) : Bool := l.all isSpace
def amongL (l : List (List UInt8)) (n : List UInt8) : Bool := l.any fun o => n == o
def voidN : List (List UInt8) := [[97, 114, 101, 97], [98, 97, 115, 101], [98, 114], [99, 111, 108], [101, 109, 98, 101, 100], [104, 114], [105, 109, 103], [105, 110, 112, 117, 116], [108, 105, 110, 107], [109, 101, 116, 97], [112, 97, 114, 97, 109], [115, 111, 117, 114, 99, 101], [116, 114, 97, 99, 107], [119, 98, 114]]
def rawN : List (List UInt8) := [[105, 102, 114, 97, 109, 101], [110, 111, 101, 109, 98, 101, 100], [110, 111, 102, 114, 97, 109, 101, 115], [115, 99, 114, 105, 112, 116], [115, 116, 121, 108, 101], [120, 109, 112]]
def rcdataN : List (List UInt8) := [[116, 101, 120, 116, 97, 114, 101, 97], [116, 105, 116, 108, 101]]
def specialN : List (List UInt8) := [[98, 97, 115, 101, 102, 111, 110, 116], [98, 103, 115, 111, 117, 110, 100], [98, 111, 100, 121], [98, 117, 116, 116, 111, 110], [100, 100], [100, 116], [102, 111, 114, 109], [102, 114, 97, 109, 101], [102, 114, 97, 109, 101, 115, 101, 116], [104, 101, 97, 100], [104, 116, 109, 108], [107, 101, 121, 103, 101, 110], [108, 105], [108, 105, 115, 116, 105, 110, 103], [110, 111, 115, 99, 114, 105, 112, 116], [112, 108, 97, 105, 110, 116, 101, 120, 116], [112, 114, 101], [115, 101, 108, 101, 99, 116], [116, 97, 98, 108, 101], [116, 101, 109, 112, 108, 97, 116, 101]]
def formatN : List (List UInt8) := [[97], [98], [98, 105, 103], [99, 111, 100, 101], [101, 109], [102, 111, 110, 116], [105], [110, 111, 98, 114], [115], [115, 109, 97, 108, 108], [115, 116, 114, 105, 107, 101], [115, 116, 114, 111, 110, 103], [116, 116], [117]]
def blockN : List (List UInt8) := [[97, 100, 100, 114, 101, 115, 115], [97, 114, 116, 105, 99, 108, 101], [97, 115, 105, 100, 101], [98, 108, 111, 99, 107, 113, 117, 111, 116, 101], [99, 101, 110, 116, 101, 114], [100, 101, 116, 97, 105, 108, 115], [100, 105, 97, 108, 111, 103], [100, 105, 114], [100, 105, 118], [100, 108], [102, 105, 101, 108, 100, 115, 101, 116], [102, 105, 103, 99, 97, 112, 116, 105, 111, 110], [102, 105, 103, 117, 114, 101], [102, 111, 111, 116, 101, 114], [104, 101, 97, 100, 101, 114], [104, 103, 114, 111, 117, 112], [109, 97, 105, 110], [109, 101, 110, 117], [110, 97, 118], [111, 108], [112], [115, 101, 97, 114, 99, 104], [115, 101, 99, 116, 105, 111, 110], [115, 117, 109, 109, 97, 114, 121], [117, 108]]
def headingN : List (List UInt8) := [[104, 49], [104, 50], [104, 51], [104, 52], [104, 53], [104, 54]]
def impliedN : List (List UInt8) := [[100, 100], [100, 116], [108, 105], [111, 112, 116, 103, 114, 111, 117, 112], [111, 112, 116, 105, 111, 110], [112], [114, 98], [114, 112], [114, 116], [114, 116, 99]]
def tableN : List (List UInt8) := [[99, 97, 112, 116, 105, 111, 110], [99, 111, 108], [99, 111, 108, 103, 114, 111, 117, 112], [116, 98, 111, 100, 121], [116, 100], [116, 102, 111, 111, 116], [116, 104], [116, 104, 101, 97, 100], [116, 114]]
def breaksN : List (List UInt8) := [[98], [98, 105, 103], [98, 108, 111, 99, 107, 113, 117, 111, 116, 101], [98, 111, 100, 121], [98, 114], [99, 101, 110, 116, 101, 114], [99, 111, 100, 101], [100, 100], [100, 105, 118], [100, 108], [100, 116], [101, 109], [101, 109, 98, 101, 100], [104, 49], [104, 50], [104, 51], [104, 52], [104, 53], [104, 54], [104, 101, 97, 100], [104, 114], [105], [105, 109, 103], [108, 105], [108, 105, 115, 116, 105, 110, 103], [109, 101, 110, 117], [109, 101, 116, 97], [110, 111, 98, 114], [111, 108], [112], [112, 114, 101], [114, 117, 98, 121], [115], [115, 109, 97, 108, 108], [115, 112, 97, 110], [115, 116, 114, 105, 107, 101], [115, 116, 114, 111, 110, 103], [115, 117, 98], [115, 117, 112], [116, 97, 98, 108, 101], [116, 116], [117], [117, 108], [118, 97, 114]]
def markerN : List (List UInt8) := [[97, 112, 112, 108, 101, 116], [109, 97, 114, 113, 117, 101, 101], [111, 98, 106, 101, 99, 116]]
def skipN : List (List UInt8) := [[98, 111, 100, 121], [102, 114, 97, 109, 101], [102, 114, 97, 109, 101, 115, 101, 116], [104, 101, 97, 100], [104, 116, 109, 108]]
def listsOf {α : Type} (v r rc sp f b h i t br m s : α) (k : Int) : List α :=
  if k = 1 then [v] else if k = 2 then [r] else if k = 3 then [rc] else if k = 4 then [v, r, rc, h, b, t, m, sp] else if k = 5 then [f] else if k = 6 then [b]
  else if k = 7 then [h] else if k = 8 then [i] else if k = 9 then [t] else if k = 10 then [br] else if k = 11 then [m] else if k = 12 then [s, t] else []
def listsN (k : Int) : List (List (List UInt8)) := listsOf voidN rawN rcdataN specialN formatN blockN headingN impliedN tableN breaksN markerN skipN k
def isL (k : Int) (n : List UInt8) : Bool := (listsN k).any fun l => amongL l n
theorem any_one {α : Type} (p : α -> Bool) (a : α) : [a].any p = p a := by simp
theorem any_two {α : Type} (p : α -> Bool) (a b : α) : [a, b].any p = (p a || p b) := by simp
theorem any_eight {α : Type} (p : α -> Bool) (a b c d e f g h : α) : [a, b, c, d, e, f, g, h].any p = (p a || p b || p c || p d || p e || p f || p g || p h) := by simp [Bool.or_assoc]
theorem is_1 (n : List UInt8) : isL 1 n = amongL voidN n := any_one (fun l => amongL l n) voidN
theorem is_2 (n : List UInt8) : isL 2 n = amongL rawN n := any_one (fun l => amongL l n) rawN
theorem is_3 (n : List UInt8) : isL 3 n = amongL rcdataN n := any_one (fun l => amongL l n) rcdataN
theorem is_5 (n : List UInt8) : isL 5 n = amongL formatN n := any_one (fun l => amongL l n) formatN
theorem is_6 (n : List UInt8) : isL 6 n = amongL blockN n := any_one (fun l => amongL l n) blockN
theorem is_7 (n : List UInt8) : isL 7 n = amongL headingN n := any_one (fun l => amongL l n) headingN
theorem is_8 (n : List UInt8) : isL 8 n = amongL impliedN n := any_one (fun l => amongL l n) impliedN
theorem is_9 (n : List UInt8) : isL 9 n = amongL tableN n := any_one (fun l => amongL l n) tableN
theorem is_11 (n : List UInt8) : isL 11 n = amongL markerN n := any_one (fun l => amongL l n) markerN
theorem is_12 (n : List UInt8) : isL 12 n = (amongL skipN n || amongL tableN n) := any_two (fun l => amongL l n) skipN tableN
theorem is_4 (n : List UInt8) : isL 4 n = (amongL voidN n || amongL rawN n || amongL rcdataN n || amongL headingN n || amongL blockN n || amongL tableN n || amongL markerN n || amongL specialN n) := any_eight (fun l => amongL l n) voidN rawN rcdataN headingN blockN tableN markerN specialN
end Go.Proofs.YtfohijnkeefcfaaGreatDoor.S6
namespace Go.Proofs.YtfohijnkeefcfaaGreatDoor.S6
structure OV where
  id : Int
  sp : Int
  nm : ByteArray
def svgN : List (List UInt8) := [[102, 111, 114, 101, 105, 103, 110, 111, 98, 106, 101, 99, 116], [100, 101, 115, 99], [116, 105, 116, 108, 101]]
def mathN : List (List UInt8) := [[109, 105], [109, 111], [109, 110], [109, 115], [109, 116, 101, 120, 116]]
def wholeN : List (List UInt8) := [[97, 112, 112, 108, 101, 116], [99, 97, 112, 116, 105, 111, 110], [104, 116, 109, 108], [109, 97, 114, 113, 117, 101, 101], [111, 98, 106, 101, 99, 116], [116, 97, 98, 108, 101], [116, 100], [116, 101, 109, 112, 108, 97, 116, 101], [116, 104]]
def tabN : List (List UInt8) := [[104, 116, 109, 108], [116, 97, 98, 108, 101], [116, 101, 109, 112, 108, 97, 116, 101]]
def rowN : List (List UInt8) := [[111, 108], [117, 108]]
def buttonB : List UInt8 := [98, 117, 116, 116, 111, 110]
def pointS (sp : Int) (n : List UInt8) : Bool := if sp = 1 then amongL svgN n else if sp = 2 then amongL mathN n else false
def pointL (o : OV) : Bool := pointS o.sp o.nm.data.toList
def htmlL (o : OV) : Bool := o.sp == 0
def specialL (o : OV) : Bool := htmlL o && isL 4 o.nm.data.toList || pointL o
def endsNameL (n : List UInt8) (k : Int) : Bool :=
  if k = 4 then amongL tabN n else if k = 2 then amongL wholeN n || amongL rowN n else if k = 3 then amongL wholeN n || n == buttonB else amongL wholeN n
def endsL (o : OV) (k : Int) : Bool := if htmlL o then endsNameL o.nm.data.toList k else (k != 4 && pointL o)
def namedL (names : List (List UInt8)) (o : OV) : Bool := htmlL o && amongL names o.nm.data.toList
def lastO (p : OV -> Bool) (l : List OV) : Nat -> Option Nat
  | 0 => none
  | k + 1 => if (l[k]?).any p then some k else lastO p l k
def placeZ : Option Nat -> Int
  | some j => (j : Int)
  | none => -1
def hasO (names : List (List UInt8)) (sc : Int) (l : List OV) : Nat -> Bool
  | 0 => false
  | k + 1 => (l[k]?).any (namedL names) || (!(l[k]?).any (fun o => endsL o sc) && hasO names sc l k)
def goesL (ex : ByteArray) (o : OV) : Bool := htmlL o && isL 8 o.nm.data.toList && !(o.nm.data.toList == ex.data.toList)
def staysL (ex : ByteArray) (o : OV) : Bool := !htmlL o || !isL 8 o.nm.data.toList || (o.nm.data.toList == ex.data.toList)
def leftO (ex : ByteArray) (l : List OV) : Nat -> Nat
  | 0 => 0
  | k + 1 => if (l[k]?).any (goesL ex) then leftO ex l k else k + 1
def hasZ (l : List OV) (names : List (List UInt8)) (sc : Int) : Bool := hasO names sc l l.length
def cutZ (l : List OV) (names : List (List UInt8)) : Int := placeZ (lastO (namedL names) l l.length)
def impliedZ (l : List OV) (ex : ByteArray) : Int := (leftO ex l l.length : Int)
theorem any_at (p : OV -> Bool) (l : List OV) (k : Nat) (h : k < l.length) : (l[k]?).any p = p l[k] := by
  rw [List.getElem?_eq_getElem h]; rfl
theorem last_hit (p : OV -> Bool) (l : List OV) (k : Nat) (h : k < l.length) (hp : p l[k] = true) : lastO p l (k + 1) = some k := by
  rw [lastO, any_at p l k h, if_pos hp]
theorem last_miss (p : OV -> Bool) (l : List OV) (k : Nat) (h : k < l.length) (hp : p l[k] = false) : lastO p l (k + 1) = lastO p l k := by
  rw [lastO, any_at p l k h, if_neg (by rw [hp]; exact Bool.false_ne_true)]
theorem last_some (p : OV -> Bool) (l : List OV) : ∀ (k j : Nat), k <= l.length -> lastO p l k = some j -> j < k /\ (∀ h : j < l.length, p l[j] = true) /\ ∀ i (h : i < l.length), j < i -> i < k -> p l[i] = false := by
  intro k
  induction k with
  | zero => intro j _ h; exact absurd h (by simp [lastO])
  | succ k ih =>
    intro j hk h
    have hk2 : k < l.length := by omega
    cases hp : p l[k] with
    | true =>
      rw [last_hit p l k hk2 hp] at h
      obtain rfl : k = j := Option.some.inj h
      exact ⟨by omega, fun _ => hp, fun i _ h1 h2 => by omega⟩
    | false =>
      rw [last_miss p l k hk2 hp] at h
      obtain ⟨h1, h2, h3⟩ := ih j (by omega) h
      refine ⟨by omega, h2, fun i hi h4 h5 => ?_⟩
      by_cases e : i = k
      · subst e; exact hp
      · exact h3 i hi h4 (by omega)
theorem place_range (p : OV -> Bool) (l : List OV) : -1 <= placeZ (lastO p l l.length) /\ placeZ (lastO p l l.length) < l.length := by
  cases h : lastO p l l.length with
  | none => exact ⟨by simp [placeZ], by simp [placeZ]; omega⟩
  | some j =>
    have := (last_some p l _ j (Nat.le_refl _) h).1
    simp only [placeZ]
    omega
theorem has_last (names : List (List UInt8)) (sc : Int) (l : List OV) : ∀ k, k <= l.length ->
    (lastO (fun o => namedL names o || endsL o sc) l k = none -> hasO names sc l k = false) /\ ∀ j (h : j < l.length), lastO (fun o => namedL names o || endsL o sc) l k = some j -> hasO names sc l k = namedL names l[j] := by
  intro k
  induction k with
  | zero => exact fun _ => ⟨fun _ => rfl, fun j _ h => absurd h (by simp [lastO])⟩
  | succ k ih =>
    intro hk
    have hk2 : k < l.length := by omega
    rw [hasO, any_at _ l k hk2, any_at _ l k hk2]
    cases hp : (namedL names l[k] || endsL l[k] sc) with
    | true =>
      rw [last_hit (fun o => namedL names o || endsL o sc) l k hk2 hp]
      refine ⟨fun h => absurd h (by simp), fun j hj h => ?_⟩
      obtain rfl : k = j := Option.some.inj h
      cases hn : namedL names l[k] with
      | true => rfl
      | false =>
        rw [hn, Bool.false_or] at hp
        rw [hp]
        rfl
    | false =>
      rw [last_miss (fun o => namedL names o || endsL o sc) l k hk2 hp]
      rw [Bool.or_eq_false_iff] at hp
      rw [hp.1, hp.2, Bool.false_or, Bool.not_false, Bool.true_and]
      exact ih (by omega)
theorem goes_stays (ex : ByteArray) (o : OV) : goesL ex o = !staysL ex o := by
  unfold goesL staysL
  cases htmlL o <;> cases isL 8 o.nm.data.toList <;> simp
theorem left_go (ex : ByteArray) (l : List OV) (k : Nat) (h : k < l.length) (hp : goesL ex l[k] = true) : leftO ex l (k + 1) = leftO ex l k := by
  rw [leftO, any_at _ l k h, if_pos hp]
theorem left_stay (ex : ByteArray) (l : List OV) (k : Nat) (h : k < l.length) (hp : goesL ex l[k] = false) : leftO ex l (k + 1) = k + 1 := by
  rw [leftO, any_at _ l k h, if_neg (by rw [hp]; exact Bool.false_ne_true)]
theorem left_last (ex : ByteArray) (l : List OV) : ∀ k, k <= l.length -> (leftO ex l k : Int) = placeZ (lastO (staysL ex) l k) + 1 := by
  intro k
  induction k with
  | zero => intro _; rfl
  | succ k ih =>
    intro hk
    have hk2 : k < l.length := by omega
    cases hp : staysL ex l[k] with
    | true =>
      rw [last_hit _ l k hk2 hp, left_stay ex l k hk2 (by rw [goes_stays, hp]; rfl)]
      simp [placeZ]
    | false =>
      rw [last_miss _ l k hk2 hp, left_go ex l k hk2 (by rw [goes_stays, hp]; rfl)]
      exact ih (by omega)
theorem left_le (ex : ByteArray) (l : List OV) : ∀ k, leftO ex l k <= k := by
  intro k
  induction k with
  | zero => exact Nat.le_refl _
  | succ k ih => rw [leftO]; split <;> omega
end Go.Proofs.YtfohijnkeefcfaaGreatDoor.S6
