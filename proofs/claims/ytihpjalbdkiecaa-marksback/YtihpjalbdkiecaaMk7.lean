/- Lists of marks, plainly: over lists. No program in it. -/
import Derived.WalkKit
set_option linter.unusedVariables false
set_option linter.unusedSimpArgs false
namespace Go.Proofs.Ytihpjalbdkiecaa

abbrev AttrL := List (List UInt8 × List UInt8)
/-- A mark; av: its list of attributes as it lies in memory. -/
structure MV where
  id : Int
  nm : ByteArray
  aa : AttrL
  av : Value

def hasA (l : AttrL) (a : List UInt8 × List UInt8) : Bool := l.any fun x => x == a
def alikeL (a b : AttrL) : Bool := a.length == b.length && (a.all (hasA b) && b.all (hasA a))
/-- Is an entry of m's Name, and alike? -/
def likeM (m x : MV) : Bool := x.nm.data.toList == m.nm.data.toList && alikeL x.aa m.aa
/-- Of the first k: where those behind the last begin of which p holds. -/
def behindG (p : MV → Bool) (l : List MV) : Nat → Nat
  | 0 => 0
  | k + 1 => if (l[k]?).any p then k + 1 else behindG p l k
def markerM (x : MV) : Bool := x.id == 0
def behindL (l : List MV) : Nat := behindG markerM l l.length
def tailM (l : List MV) : List MV := l.drop (behindL l)
/-- The first place of which p holds. -/
def firstO (p : MV → Bool) : List MV → Option Nat
  | [] => none
  | x :: r => if p x then some 0 else (firstO p r).map (· + 1)
/-- Of the first k: the last place of which p holds. -/
def lastG (p : MV → Bool) (l : List MV) : Nat → Option Nat
  | 0 => none
  | k + 1 => if (l[k]?).any p then some k else lastG p l k
def placeZ : Option Nat → Int
  | some j => (j : Int)
  | none => -1
def withoutZ (l : List MV) (z : Int) : List MV := if z < 0 then l else l.eraseIdx z.toNat
def goneO (l : List MV) (m : MV) : Option Nat := if m.id = 0 ∨ (tailM l).countP (likeM m) < 3 then none else (firstO (likeM m) (tailM l)).map (· + behindL l)
def pushL (l : List MV) (m : MV) : List MV := withoutZ l (placeZ (goneO l m)) ++ [m]
def nameM (n : ByteArray) (x : MV) : Bool := x.nm.data.toList == n.data.toList
def lastOf (b : Nat) : Option Nat → Int
  | some j => if b ≤ j then (j : Int) else -1
  | none => -1
def lastZ (l : List MV) (n : ByteArray) : Int := lastOf (behindL l) (lastG (nameM n) l l.length)
def clearL (l : List MV) : List MV := l.take (behindL l - 1)
def idM (z : Int) (x : MV) : Bool := x.id == z
def findZ (l : List MV) (z : Int) : Int := placeZ (firstO (idM z) l)
def dropL (l : List MV) (z : Int) : List MV := withoutZ l (findZ l z)
def atN (l : List MV) (z : Int) : Nat := min z.toNat l.length
def insertL (l : List MV) (z : Int) (m : MV) : List MV := l.take (atN l z) ++ m :: l.drop (atN l z)
def stopM (open_ : List Int) (x : MV) : Bool := x.id == 0 || open_.any fun z => z == x.id
def renewL (l : List MV) (open_ : List Int) : Nat := behindG (stopM open_) l l.length

theorem any_at (p : MV → Bool) (l : List MV) (k : Nat) (h : k < l.length) : (l[k]?).any p = p l[k] := by
  rw [List.getElem?_eq_getElem h]; rfl
theorem behind_hit (p : MV → Bool) (l : List MV) (k : Nat) (h : k < l.length) (hp : p l[k] = true) : behindG p l (k + 1) = k + 1 := by
  rw [behindG, any_at p l k h, if_pos hp]
theorem behind_miss (p : MV → Bool) (l : List MV) (k : Nat) (h : k < l.length) (hp : p l[k] = false) : behindG p l (k + 1) = behindG p l k := by
  rw [behindG, any_at p l k h, if_neg (by rw [hp]; exact Bool.false_ne_true)]
theorem behind_le (p : MV → Bool) (l : List MV) : ∀ k, behindG p l k ≤ k := by
  intro k
  induction k with
  | zero => exact Nat.le_refl _
  | succ k ih => rw [behindG]; split <;> omega
theorem behind_len (l : List MV) : behindL l ≤ l.length := behind_le _ _ _
/-- From there on none, right ahead of it one. -/
theorem behind_spec (p : MV → Bool) (l : List MV) : ∀ k, k ≤ l.length → (∀ i (h : i < l.length), behindG p l k ≤ i → i < k → p l[i] = false) ∧ (∀ i (h : i < l.length), i + 1 = behindG p l k → p l[i] = true) := by
  intro k
  induction k with
  | zero => exact fun _ => ⟨fun i _ _ h => by omega, fun i _ h => absurd h (by simp [behindG])⟩
  | succ k ih =>
    intro hk
    have hk2 : k < l.length := by omega
    cases hp : p l[k] with
    | true =>
      rw [behind_hit p l k hk2 hp]
      exact ⟨fun i _ h1 h2 => by omega, fun i hi h => by
        have e : i = k := by omega
        subst e
        exact hp⟩
    | false =>
      rw [behind_miss p l k hk2 hp]
      obtain ⟨h1, h2⟩ := ih (by omega)
      refine ⟨fun i hi h3 h4 => ?_, h2⟩
      by_cases e : i = k
      · subst e; exact hp
      · exact h1 i hi h3 (by omega)
theorem behind_eq (p : MV → Bool) (l : List MV) (n : Nat) (hn : n ≤ l.length) (h1 : ∀ i (h : i < l.length), n ≤ i → p l[i] = false) (h2 : ∀ i (h : i < l.length), i + 1 = n → p l[i] = true) : behindG p l l.length = n := by
  obtain ⟨g1, g2⟩ := behind_spec p l l.length (Nat.le_refl _)
  have g3 := behind_le p l l.length
  rcases Nat.lt_trichotomy (behindG p l l.length) n with h | h | h
  · obtain ⟨i, hi⟩ : ∃ i, i + 1 = n := ⟨n - 1, by omega⟩
    have a := h2 i (by omega) hi
    rw [g1 i (by omega) (by omega) (by omega)] at a
    exact absurd a Bool.false_ne_true
  · exact h
  · obtain ⟨i, hi⟩ : ∃ i, i + 1 = behindG p l l.length := ⟨behindG p l l.length - 1, by omega⟩
    have a := g2 i (by omega) hi
    rw [h1 i (by omega) (by omega)] at a
    exact absurd a Bool.false_ne_true
theorem last_hit (p : MV → Bool) (l : List MV) (k : Nat) (h : k < l.length) (hp : p l[k] = true) : lastG p l (k + 1) = some k := by
  rw [lastG, any_at p l k h, if_pos hp]
theorem last_miss (p : MV → Bool) (l : List MV) (k : Nat) (h : k < l.length) (hp : p l[k] = false) : lastG p l (k + 1) = lastG p l k := by
  rw [lastG, any_at p l k h, if_neg (by rw [hp]; exact Bool.false_ne_true)]
theorem last_lt (p : MV → Bool) (l : List MV) : ∀ k j, lastG p l k = some j → j < k := by
  intro k
  induction k with
  | zero => intro j h; exact absurd h (by simp [lastG])
  | succ k ih =>
    intro j h
    rw [lastG] at h
    split at h
    · obtain rfl : k = j := Option.some.inj h
      omega
    · have := ih j h; omega
theorem first_hit (p : MV → Bool) (l : List MV) (k : Nat) (h : k < l.length) (hp : p l[k] = true) : firstO p (l.drop k) = some 0 := by
  rw [List.drop_eq_getElem_cons h, firstO, if_pos hp]
theorem first_miss (p : MV → Bool) (l : List MV) (k : Nat) (h : k < l.length) (hp : p l[k] = false) : firstO p (l.drop k) = (firstO p (l.drop (k + 1))).map (· + 1) := by
  rw [List.drop_eq_getElem_cons h, firstO, if_neg (by rw [hp]; exact Bool.false_ne_true)]
theorem first_end (p : MV → Bool) (l : List MV) (k : Nat) (h : l.length ≤ k) : firstO p (l.drop k) = none := by
  rw [List.drop_eq_nil_of_le h]; rfl
theorem first_some (p : MV → Bool) : ∀ (l : List MV) (j : Nat), firstO p l = some j → ∃ h : j < l.length, p l[j] = true ∧ ∀ i (hi : i < l.length), i < j → p l[i] = false := by
  intro l
  induction l with
  | nil => intro j h; exact absurd h (by simp [firstO])
  | cons x r ih =>
    intro j h
    rw [firstO] at h
    split at h
    · rename_i hp
      obtain rfl : 0 = j := Option.some.inj h
      exact ⟨by simp, hp, fun i _ hi => by omega⟩
    · rename_i hp
      cases hr : firstO p r with
      | none => rw [hr] at h; exact absurd h (by simp)
      | some y =>
        rw [hr] at h
        obtain rfl : y + 1 = j := Option.some.inj h
        obtain ⟨h1, h2, h3⟩ := ih y hr
        refine ⟨by simp; omega, by simpa using h2, fun i hi hij => ?_⟩
        cases i with
        | zero => simpa using hp
        | succ i => simpa using h3 i (by simpa using hi) (by omega)
theorem first_none (p : MV → Bool) : ∀ (l : List MV), firstO p l = none → ∀ x ∈ l, p x = false := by
  intro l
  induction l with
  | nil => intro _ x h; cases h
  | cons y r ih =>
    intro h x hx
    rw [firstO] at h
    split at h
    · exact absurd h (by simp)
    · rename_i hp
      rcases List.mem_cons.1 hx with rfl | hx
      · simpa using hp
      · cases hr : firstO p r with
        | none => exact ih hr x hx
        | some z => rw [hr] at h; exact absurd h (by simp)
theorem first_count (p : MV → Bool) (l : List MV) (h : 0 < l.countP p) : ∃ j, firstO p l = some j := by
  cases hf : firstO p l with
  | some j => exact ⟨j, rfl⟩
  | none =>
    have := first_none p l hf
    rw [List.countP_eq_zero.2 (fun x hx => by rw [this x hx]; exact Bool.false_ne_true)] at h
    omega
theorem first_app_none (p : MV → Bool) (a b : List MV) (h : ∀ x ∈ a, p x = false) : firstO p (a ++ b) = (firstO p b).map (· + a.length) := by
  induction a with
  | nil => simp
  | cons y r ih =>
    rw [List.cons_append, firstO, if_neg (by rw [h y (by simp)]; exact Bool.false_ne_true), ih (fun x hx => h x (by simp [hx]))]
    cases firstO p b with
    | none => rfl
    | some j => simp; omega
theorem findZ_first (l : List MV) (z : Int) (k : Nat) (V : Option Nat) : V.map (· + (k + 1)) = (V.map (· + 1)).map (· + k) := by
  cases V with
  | none => rfl
  | some j => simp; omega

/-! Alike. -/
theorem hasA_mem (l : AttrL) (a : List UInt8 × List UInt8) : hasA l a = true ↔ a ∈ l := by
  unfold hasA
  rw [List.any_eq_true]
  constructor
  · rintro ⟨x, hx, he⟩
    rw [show a = x by simpa using (beq_iff_eq.1 he).symm]
    exact hx
  · exact fun h => ⟨a, h, by simp⟩
theorem alike_iff (a b : AttrL) : alikeL a b = true ↔ a.length = b.length ∧ (∀ x, x ∈ a ↔ x ∈ b) := by
  unfold alikeL
  rw [Bool.and_eq_true, Bool.and_eq_true, beq_iff_eq, List.all_eq_true, List.all_eq_true]
  constructor
  · rintro ⟨h1, h2, h3⟩
    exact ⟨h1, fun x => ⟨fun h => (hasA_mem _ _).1 (h2 x h), fun h => (hasA_mem _ _).1 (h3 x h)⟩⟩
  · rintro ⟨h1, h2⟩
    exact ⟨h1, fun x h => (hasA_mem _ _).2 ((h2 x).1 h), fun x h => (hasA_mem _ _).2 ((h2 x).2 h)⟩
theorem like_iff (m x : MV) : likeM m x = true ↔ x.nm.data.toList = m.nm.data.toList ∧ x.aa.length = m.aa.length ∧ ∀ y, y ∈ x.aa ↔ y ∈ m.aa := by
  unfold likeM
  rw [Bool.and_eq_true, beq_iff_eq, alike_iff]
theorem like_cong (m n : MV) (h : likeM m n = true) : likeM m = likeM n := by
  funext x
  obtain ⟨h1, h2, h3⟩ := (like_iff m n).1 h
  rw [Bool.eq_iff_iff, like_iff, like_iff, h1, h2]
  constructor
  · rintro ⟨a, b, c⟩; exact ⟨a, b, fun y => (c y).trans (h3 y).symm⟩
  · rintro ⟨a, b, c⟩; exact ⟨a, b, fun y => (c y).trans (h3 y)⟩
theorem like_self (m : MV) : likeM m m = true := (like_iff m m).2 ⟨rfl, rfl, fun _ => Iff.rfl⟩

/-! Three at most. -/
def Three (l : List MV) : Prop := ∀ m, (tailM l).countP (likeM m) ≤ 3
theorem behind_append_marker (l : List MV) (m : MV) (h : m.id = 0) : behindL (l ++ [m]) = l.length + 1 := by
  have := behind_hit markerM (l ++ [m]) l.length (by simp) (by simp [markerM, h])
  unfold behindL
  rw [show (l ++ [m]).length = l.length + 1 by simp]
  exact this
theorem behind_append (l : List MV) (m : MV) (h : m.id ≠ 0) : behindL (l ++ [m]) = behindL l := by
  obtain ⟨g1, g2⟩ := behind_spec markerM l l.length (Nat.le_refl _)
  have g3 := behind_len l
  refine behind_eq markerM _ _ (by simp; omega) (fun i hi hb => ?_) (fun i hi hb => ?_)
  · by_cases e : i < l.length
    · rw [List.getElem_append_left e]
      exact g1 i e hb e
    · have : i = l.length := by simp at hi; omega
      subst this
      simp [markerM, h]
  · have e : i < l.length := by omega
    rw [List.getElem_append_left e]
    exact g2 i e hb
theorem tail_append (l : List MV) (m : MV) (h : m.id ≠ 0) : tailM (l ++ [m]) = tailM l ++ [m] := by
  unfold tailM
  rw [behind_append l m h, List.drop_append_of_le_length (behind_len l)]
theorem behind_erase (l : List MV) (j : Nat) (hj : behindL l ≤ j) (hl : j < l.length) : behindL (l.eraseIdx j) = behindL l := by
  obtain ⟨g1, g2⟩ := behind_spec markerM l l.length (Nat.le_refl _)
  have hlen : (l.eraseIdx j).length = l.length - 1 := by rw [List.length_eraseIdx, if_pos hl]
  refine behind_eq markerM _ _ (by omega) (fun i hi hb => ?_) (fun i hi hb => ?_)
  · rw [List.getElem_eraseIdx]
    split
    · exact g1 i _ hb (by omega)
    · exact g1 (i + 1) _ (Nat.le_trans hb (Nat.le_succ i)) (by omega)
  · rw [List.getElem_eraseIdx]
    split
    · exact g2 i _ hb
    · omega
theorem tail_erase (l : List MV) (j : Nat) (hl : behindL l + j < l.length) : tailM (l.eraseIdx (behindL l + j)) = (tailM l).eraseIdx j := by
  unfold tailM
  rw [behind_erase l _ (by omega) hl]
  generalize behindL l = n at *
  apply List.ext_getElem
  · rw [List.length_drop, List.length_eraseIdx, List.length_eraseIdx, List.length_drop, if_pos hl, if_pos (by omega)]; omega
  · intro i h1 h2
    rw [List.getElem_drop, List.getElem_eraseIdx, List.getElem_eraseIdx]
    split
    · rw [dif_pos (by omega), List.getElem_drop]
    · rw [dif_neg (by omega), List.getElem_drop]; rfl
theorem count_erase (p : MV → Bool) (l : List MV) (j : Nat) (h : j < l.length) (hp : p l[j] = true) : (l.eraseIdx j).countP p + 1 = l.countP p := by
  induction l generalizing j with
  | nil => simp at h
  | cons x r ih =>
    cases j with
    | zero =>
      have hx : p x = true := by simpa using hp
      rw [List.eraseIdx_cons_zero, List.countP_cons_of_pos hx]
    | succ j =>
      rw [List.eraseIdx_cons_succ, List.countP_cons, List.countP_cons]
      have := ih j (by simpa using h) (by simpa using hp)
      omega
theorem count_erase_le (p : MV → Bool) (l : List MV) (j : Nat) : (l.eraseIdx j).countP p ≤ l.countP p := (List.eraseIdx_sublist l j).countP_le
theorem gone_none (l : List MV) (m : MV) (h : m.id = 0 ∨ (tailM l).countP (likeM m) < 3) : goneO l m = none := by
  unfold goneO; rw [if_pos h]
theorem gone_some (l : List MV) (m : MV) (h : ¬ (m.id = 0 ∨ (tailM l).countP (likeM m) < 3)) : ∃ j, firstO (likeM m) (tailM l) = some j ∧ goneO l m = some (j + behindL l) := by
  obtain ⟨j, hj⟩ := first_count (likeM m) (tailM l) (by omega)
  exact ⟨j, hj, by unfold goneO; rw [if_neg h, hj]; rfl⟩
theorem push_keep (l : List MV) (m : MV) (h : m.id = 0 ∨ (tailM l).countP (likeM m) < 3) : pushL l m = l ++ [m] := by
  unfold pushL
  rw [gone_none l m h]; rfl
theorem push_gone (l : List MV) (m : MV) (j : Nat) (h : goneO l m = some j) : pushL l m = l.eraseIdx j ++ [m] := by
  unfold pushL
  rw [h]
  show (if ((j : Nat) : Int) < 0 then l else l.eraseIdx ((j : Nat) : Int).toNat) ++ [m] = _
  rw [if_neg (by omega), Int.toNat_natCast]
theorem push_last (l : List MV) (m : MV) : ∃ r, pushL l m = r ++ [m] := ⟨_, rfl⟩
theorem three_nil : Three [] := fun m => by simp [tailM, behindL, behindG]
theorem three_push (l : List MV) (m : MV) (h : Three l) : Three (pushL l m) := by
  intro n
  by_cases h0 : m.id = 0
  · rw [push_keep l m (.inl h0)]
    unfold tailM
    rw [behind_append_marker l m h0, List.drop_eq_nil_of_le (by simp)]
    simp
  · by_cases h3 : (tailM l).countP (likeM m) < 3
    · rw [push_keep l m (.inr h3), tail_append l m h0, List.countP_append, List.countP_cons, List.countP_nil]
      split
      · rename_i hl
        rw [like_cong n m hl]
        omega
      · have := h n; omega
    · obtain ⟨j, hj, hg⟩ := gone_some l m (by intro h; rcases h with h | h; exact h0 h; exact h3 h)
      obtain ⟨hlt, hp, -⟩ := first_some _ _ _ hj
      have hlen : behindL l + j < l.length := by
        unfold tailM at hlt
        rw [List.length_drop] at hlt
        omega
      rw [push_gone l m _ hg, Nat.add_comm j, tail_append _ m h0, tail_erase l j hlen, List.countP_append, List.countP_cons, List.countP_nil]
      split
      · rename_i hl
        rw [like_cong n m hl]
        have := count_erase (likeM m) (tailM l) j hlt hp
        have := h m
        omega
      · have := count_erase_le (likeM n) (tailM l) j
        have := h n
        omega

/-! In and out again. -/
theorem insert_length (l : List MV) (z : Int) (m : MV) : (insertL l z m).length = l.length + 1 := by
  unfold insertL
  have : atN l z ≤ l.length := by unfold atN; omega
  rw [List.length_append, List.length_cons, List.length_take, List.length_drop]
  omega
theorem find_insert (l : List MV) (z : Int) (m : MV) (h : ∀ x ∈ l, x.id ≠ m.id) : findZ (insertL l z m) m.id = (atN l z : Int) := by
  unfold findZ insertL
  have hle : atN l z ≤ l.length := by unfold atN; omega
  rw [first_app_none _ _ _ (fun x hx => by simpa [idM] using h x (List.mem_of_mem_take hx)), firstO, if_pos (by simp [idM]), List.length_take, Nat.min_eq_left hle]
  simp [placeZ]
theorem drop_insert (l : List MV) (z : Int) (m : MV) (h : ∀ x ∈ l, x.id ≠ m.id) : dropL (insertL l z m) m.id = l := by
  unfold dropL
  rw [find_insert l z m h]
  unfold withoutZ
  rw [if_neg (by omega), Int.toNat_natCast]
  unfold insertL
  have hle : atN l z ≤ l.length := by unfold atN; omega
  generalize atN l z = n at *
  rw [List.eraseIdx_append_of_length_le (by rw [List.length_take]; omega)]
  rw [List.length_take, Nat.min_eq_left hle, Nat.sub_self, List.eraseIdx_cons_zero, List.take_append_drop]
def noMark (av : Value) : MV := ⟨0, ⟨#[]⟩, [], av⟩
theorem with_eq (l : List MV) (k m : MV) (hk : k.id = 0) (hm : m.id ≠ 0) : pushL (pushL l k) m = l ++ [k] ++ [m] := by
  rw [push_keep l k (.inl hk)]
  refine push_keep _ m (.inr ?_)
  unfold tailM
  rw [behind_append_marker l k hk, List.drop_eq_nil_of_le (by simp)]
  simp
theorem clear_with (l : List MV) (k m : MV) (hk : k.id = 0) (hm : m.id ≠ 0) : clearL (l ++ [k] ++ [m]) = l := by
  unfold clearL
  rw [behind_append _ m hm, behind_append_marker l k hk, Nat.add_sub_cancel, List.append_assoc, List.take_left']
  rfl
theorem renew_none (l : List MV) : renewL l [] = behindL l := by
  unfold renewL behindL
  have : stopM [] = markerM := by funext x; simp [stopM, markerM]
  rw [this]
theorem renew_with (l : List MV) (k m : MV) (hk : k.id = 0) (hm : m.id ≠ 0) : renewL (l ++ [k] ++ [m]) [] = l.length + 1 := by
  rw [renew_none, behind_append _ m hm, behind_append_marker l k hk]
end Go.Proofs.Ytihpjalbdkiecaa
