import Derived.WalkKit
set_option linter.unusedVariables false
set_option linter.unusedSimpArgs false
set_option maxRecDepth 100000
set_option maxHeartbeats 8000000
namespace Go.Proofs.YtfohijnkeefcfaaGreatDoor.G5
structure ND where
  kind : Int := 0
  space : Int := 0
  name : List UInt8 := []
  attrs : List (List UInt8 × List UInt8) := []
  text : List UInt8 := []
end Go.Proofs.YtfohijnkeefcfaaGreatDoor.G5
namespace Go.Proofs.YtfohijnkeefcfaaGreatDoor.S7
abbrev AttrL := List (List UInt8 × List UInt8)
structure MV where
  id : Int
  nm : ByteArray
  aa : AttrL
  av : Value
def hasA (l : AttrL) (a : List UInt8 × List UInt8) : Bool := l.any fun x => x == a
def alikeL (a b : AttrL) : Bool := a.length == b.length && (a.all (hasA b) && b.all (hasA a))
def likeM (m x : MV) : Bool := x.nm.data.toList == m.nm.data.toList && alikeL x.aa m.aa
def behindG (p : MV -> Bool) (l : List MV) : Nat -> Nat
  | 0 => 0
  | k + 1 => if (l[k]?).any p then k + 1 else behindG p l k
def markerM (x : MV) : Bool := x.id == 0
def behindL (l : List MV) : Nat := behindG markerM l l.length
def tailM (l : List MV) : List MV := l.drop (behindL l)
def firstO (p : MV -> Bool) : List MV -> Option Nat
  | [] => none
  | x :: r => if p x then some 0 else (firstO p r).map (· + 1)
def lastG (p : MV -> Bool) (l : List MV) : Nat -> Option Nat
  | 0 => none
  | k + 1 => if (l[k]?).any p then some k else lastG p l k
def placeZ : Option Nat -> Int
  | some j => (j : Int)
  | none => -1
def withoutZ (l : List MV) (z : Int) : List MV := if z < 0 then l else l.eraseIdx z.toNat
def goneO (l : List MV) (m : MV) : Option Nat := if m.id = 0 \/ (tailM l).countP (likeM m) < 3 then none else (firstO (likeM m) (tailM l)).map (· + behindL l)
def pushL (l : List MV) (m : MV) : List MV := withoutZ l (placeZ (goneO l m)) ++ [m]
def nameM (n : ByteArray) (x : MV) : Bool := x.nm.data.toList == n.data.toList
def lastOf (b : Nat) : Option Nat -> Int
  | some j => if b <= j then (j : Int) else -1
  | none => -1
def lastZ (l : List MV) (n : ByteArray) : Int := lastOf (behindL l) (lastG (nameM n) l l.length)
def clearL (l : List MV) : List MV := l.take (behindL l - 1)
def idM (z : Int) (x : MV) : Bool := x.id == z
def findZ (l : List MV) (z : Int) : Int := placeZ (firstO (idM z) l)
def dropL (l : List MV) (z : Int) : List MV := withoutZ l (findZ l z)
def atN (l : List MV) (z : Int) : Nat := min z.toNat l.length
def insertL (l : List MV) (z : Int) (m : MV) : List MV := l.take (atN l z) ++ m :: l.drop (atN l z)
def stopM (open_ : List Int) (x : MV) : Bool := x.id == 0 || open_.any fun z => z == x.id
def renewL (l : List MV) (open_ : List Int) : Nat := behindG (stopM open_) l l.length
theorem any_at (p : MV -> Bool) (l : List MV) (k : Nat) (h : k < l.length) : (l[k]?).any p = p l[k] := by
  rw [List.getElem?_eq_getElem h]; rfl
theorem behind_le (p : MV -> Bool) (l : List MV) : ∀ k, behindG p l k <= k := by
  intro k
  induction k with
  | zero => exact Nat.le_refl _
  | succ k ih => rw [behindG]; split <;> omega
theorem behind_len (l : List MV) : behindL l <= l.length := behind_le _ _ _
theorem last_hit (p : MV -> Bool) (l : List MV) (k : Nat) (h : k < l.length) (hp : p l[k] = true) : lastG p l (k + 1) = some k := by
  rw [lastG, any_at p l k h, if_pos hp]
theorem last_miss (p : MV -> Bool) (l : List MV) (k : Nat) (h : k < l.length) (hp : p l[k] = false) : lastG p l (k + 1) = lastG p l k := by
  rw [lastG, any_at p l k h, if_neg (by rw [hp]; exact Bool.false_ne_true)]
theorem first_some (p : MV -> Bool) : ∀ (l : List MV) (j : Nat), firstO p l = some j -> ∃ h : j < l.length, p l[j] = true /\ ∀ i (hi : i < l.length), i < j -> p l[i] = false := by
  intro l
  induction l with
  | nil => intro j h; exact absurd h (by simp [firstO])
  | cons x r ih =>
    intro j h
    rw [firstO] at h
    split at h
    · rename_i hp
      obtain rfl : 0 = j := Option.some.inj h
      exact ⟨by simp, hp, fun i _ hi => by omega⟩
    · rename_i hp
      cases hr : firstO p r with
      | none => rw [hr] at h; exact absurd h (by simp)
      | some y =>
        rw [hr] at h
        obtain rfl : y + 1 = j := Option.some.inj h
        obtain ⟨h1, h2, h3⟩ := ih y hr
        refine ⟨by simp; omega, by simpa using h2, fun i hi hij => ?_⟩
        cases i with
        | zero => simpa using hp
        | succ i => simpa using h3 i (by simpa using hi) (by omega)
theorem first_none (p : MV -> Bool) : ∀ (l : List MV), firstO p l = none -> ∀ x ∈ l, p x = false := by
  intro l
  induction l with
  | nil => intro _ x h; cases h
  | cons y r ih =>
    intro h x hx
    rw [firstO] at h
    split at h
    · exact absurd h (by simp)
    · rename_i hp
      rcases List.mem_cons.1 hx with rfl | hx
      · simpa using hp
      · cases hr : firstO p r with
        | none => exact ih hr x hx
        | some z => rw [hr] at h; exact absurd h (by simp)
theorem first_app_none (p : MV -> Bool) (a b : List MV) (h : ∀ x ∈ a, p x = false) : firstO p (a ++ b) = (firstO p b).map (· + a.length) := by
  induction a with
  | nil => simp
  | cons y r ih =>
    rw [List.cons_append, firstO, if_neg (by rw [h y (by simp)]; exact Bool.false_ne_true), ih (fun x hx => h x (by simp [hx]))]
    cases firstO p b with
    | none => rfl
    | some j => simp; omega
theorem hasA_mem (l : AttrL) (a : List UInt8 × List UInt8) : hasA l a = true ↔ a ∈ l := by
  unfold hasA
  rw [List.any_eq_true]
  constructor
  · rintro ⟨x, hx, he⟩
    rw [show a = x by simpa using (beq_iff_eq.1 he).symm]
    exact hx
  · exact fun h => ⟨a, h, by simp⟩
theorem alike_iff (a b : AttrL) : alikeL a b = true ↔ a.length = b.length /\ (∀ x, x ∈ a ↔ x ∈ b) := by
  unfold alikeL
  rw [Bool.and_eq_true, Bool.and_eq_true, beq_iff_eq, List.all_eq_true, List.all_eq_true]
  constructor
  · rintro ⟨h1, h2, h3⟩
    exact ⟨h1, fun x => ⟨fun h => (hasA_mem _ _).1 (h2 x h), fun h => (hasA_mem _ _).1 (h3 x h)⟩⟩
  · rintro ⟨h1, h2⟩
    exact ⟨h1, fun x h => (hasA_mem _ _).2 ((h2 x).1 h), fun x h => (hasA_mem _ _).2 ((h2 x).2 h)⟩
end Go.Proofs.YtfohijnkeefcfaaGreatDoor.S7
