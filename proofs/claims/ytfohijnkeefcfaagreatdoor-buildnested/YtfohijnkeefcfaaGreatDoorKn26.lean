import Derived.Test.YtfohijnkeefcfaaGreatDoorKn00
import Derived.Shelf.SlSortCmp.WholeK
set_option linter.unusedVariables false
set_option linter.unusedSimpArgs false
set_option maxRecDepth 100000
set_option maxHeartbeats 8000000
namespace Go.Proofs.YtfohijnkeefcfaaGreatDoor.S7
open Go.Sort
abbrev At := List UInt8 × List UInt8
theorem bl_irrefl : ∀ x : List UInt8, Op.bytesLess x x = false
  | [] => rfl
  | a :: r => by simp [Op.bytesLess, bl_irrefl r]
theorem bl_tri : ∀ x y : List UInt8, Op.bytesLess x y = false -> Op.bytesLess y x = false -> x = y
  | [], [], _, _ => rfl
  | [], b :: y, h, _ => by simp [Op.bytesLess] at h
  | a :: x, [], _, h => by simp [Op.bytesLess] at h
  | a :: x, b :: y, h1, h2 => by
    simp only [Op.bytesLess, Bool.or_eq_false_iff, Bool.and_eq_false_iff, decide_eq_false_iff_not] at h1 h2
    have e : a = b := by
      have n1 : ¬ a.toNat < b.toNat := h1.1
      have n2 : ¬ b.toNat < a.toNat := h2.1
      exact UInt8.toNat_inj.1 (by omega)
    subst e
    have g1 : Op.bytesLess x y = false := by rcases h1.2 with h | h; · simp at h
                                             · exact h
    have g2 : Op.bytesLess y x = false := by rcases h2.2 with h | h; · simp at h
                                             · exact h
    rw [bl_tri x y g1 g2]
theorem bl_trans : ∀ x y z : List UInt8, Op.bytesLess x y = true -> Op.bytesLess y z = true -> Op.bytesLess x z = true
  | _, [], _, h, _ => by simp [Op.bytesLess] at h
  | _, _ :: _, [], _, h => by simp [Op.bytesLess] at h
  | [], _ :: _, _ :: _, _, _ => by simp [Op.bytesLess]
  | a :: x, b :: y, c :: z, h1, h2 => by
    simp only [Op.bytesLess, Bool.or_eq_true, Bool.and_eq_true, decide_eq_true_eq, beq_iff_eq] at h1 h2 ⊢
    rcases h1 with h1 | ⟨rfl, h1⟩
    · rcases h2 with h2 | ⟨rfl, h2⟩
      · left
        have n1 : a.toNat < b.toNat := h1
        have n2 : b.toNat < c.toNat := h2
        exact (by omega : a.toNat < c.toNat)
      · exact .inl h1
    · rcases h2 with h2 | ⟨rfl, h2⟩
      · exact .inl h2
      · exact .inr ⟨rfl, bl_trans x y z h1 h2⟩
def cmpB (a b : List UInt8) : Int := if Op.bytesLess a b = true then -1 else if (a == b) = true then 0 else 1
def cmpA (x y : At) : Int := if cmpB x.1 y.1 = 0 then cmpB x.2 y.2 else cmpB x.1 y.1
theorem cmpB_neg (a b : List UInt8) : cmpB a b < 0 ↔ Op.bytesLess a b = true := by
  unfold cmpB
  split
  · simp_all
  · rename_i h
    constructor
    · intro h2
      split at h2 <;> omega
    · exact fun h2 => absurd h2 h
theorem cmpB_zero (a b : List UInt8) : cmpB a b = 0 ↔ a = b := by
  unfold cmpB
  split
  · rename_i h
    constructor
    · intro h2; omega
    · rintro rfl
      rw [bl_irrefl] at h
      exact absurd h Bool.false_ne_true
  · split
    · rename_i h
      simp at h
      simp [h]
    · rename_i h
      simp at h
      simp [h]
theorem lt_iff (x y : At) : ltOf cmpA x y = true ↔ Op.bytesLess x.1 y.1 = true \/ (x.1 = y.1 /\ Op.bytesLess x.2 y.2 = true) := by
  unfold ltOf cmpA
  rw [decide_eq_true_eq]
  by_cases h : cmpB x.1 y.1 = 0
  · rw [if_pos h, cmpB_neg]
    have e := (cmpB_zero _ _).1 h
    rw [e, bl_irrefl]
    simp
  · rw [if_neg h, cmpB_neg]
    have e := fun he => h ((cmpB_zero _ _).2 he)
    constructor
    · exact .inl
    · rintro (h | ⟨h, -⟩)
      · exact h
      · exact absurd h e
theorem lt_false (x y : At) : ltOf cmpA x y = false ↔ Op.bytesLess x.1 y.1 = false /\ (x.1 = y.1 -> Op.bytesLess x.2 y.2 = false) := by
  rw [<- Bool.not_eq_true, lt_iff]
  constructor
  · intro h
    refine ⟨Bool.not_eq_true _ ▸ fun h1 => h (.inl h1), fun e => Bool.not_eq_true _ ▸ fun h1 => h (.inr ⟨e, h1⟩)⟩
  · rintro ⟨h1, h2⟩ (h | ⟨e, h⟩)
    · rw [h1] at h; exact Bool.false_ne_true h
    · rw [h2 e] at h; exact Bool.false_ne_true h
theorem lt_tri (x y : At) (h1 : ltOf cmpA x y = false) (h2 : ltOf cmpA y x = false) : x = y := by
  rw [lt_false] at h1 h2
  have e := bl_tri _ _ h1.1 h2.1
  exact Prod.ext e (bl_tri _ _ (h1.2 e) (h2.2 e.symm))
theorem lt_trans' (x y z : At) (h1 : ltOf cmpA x y = true) (h2 : ltOf cmpA y z = true) : ltOf cmpA x z = true := by
  rw [lt_iff] at *
  rcases h1 with h1 | ⟨e1, h1⟩
  · rcases h2 with h2 | ⟨e2, h2⟩
    · exact .inl (bl_trans _ _ _ h1 h2)
    · exact .inl (by rw [<- e2]; exact h1)
  · rcases h2 with h2 | ⟨e2, h2⟩
    · exact .inl (by rw [e1]; exact h2)
    · exact .inr ⟨e1.trans e2, bl_trans _ _ _ h1 h2⟩
theorem lt_irrefl' (x : At) : ltOf cmpA x x = false := by rw [lt_false]; exact ⟨bl_irrefl _, fun _ => bl_irrefl _⟩
theorem lt_ntrans (x y z : At) (h1 : ltOf cmpA x y = false) (h2 : ltOf cmpA y z = false) : ltOf cmpA x z = false := by
  cases e : ltOf cmpA x z with
  | false => rfl
  | true =>
    cases e1 : ltOf cmpA y x with
    | true =>
      have := lt_trans' _ _ _ e1 e
      rw [h2] at this
      exact absurd this Bool.false_ne_true
    | false =>
      obtain rfl := lt_tri _ _ h1 e1
      rw [h2] at e
      exact absurd e Bool.false_ne_true
theorem lt_swo : SWO (ltOf cmpA) := ⟨lt_irrefl', lt_trans', lt_ntrans⟩
def onceK (l : AttrL) : Nat -> AttrL
  | 0 => []
  | k + 1 => onceK l k ++ (if k = 0 \/ l[k]? ≠ l[k - 1]? then (l[k]?).toList else [])
theorem once_new (l : AttrL) (k : Nat) (hk : k < l.length) (h : k = 0 \/ l[k]? ≠ l[k - 1]?) : onceK l (k + 1) = onceK l k ++ [l[k]] := by
  rw [onceK, if_pos h, List.getElem?_eq_getElem hk]; rfl
theorem once_old (l : AttrL) (k : Nat) (h : ¬ (k = 0 \/ l[k]? ≠ l[k - 1]?)) : onceK l (k + 1) = onceK l k := by
  rw [onceK, if_neg h, List.append_nil]
theorem once_len (l : AttrL) : ∀ k, (onceK l k).length <= k := by
  intro k
  induction k with
  | zero => simp [onceK]
  | succ k ih =>
    rw [onceK, List.length_append]
    split
    · cases l[k]? <;> simp <;> omega
    · simp; omega
theorem once_mem (l : AttrL) : ∀ k, k <= l.length -> ∀ x, x ∈ onceK l k ↔ x ∈ l.take k := by
  intro k
  induction k with
  | zero => intro _ x; simp [onceK]
  | succ k ih =>
    intro hk x
    have hk2 : k < l.length := by omega
    rw [List.take_succ_eq_append_getElem hk2, List.mem_append, <- ih (by omega) x]
    by_cases h : k = 0 \/ l[k]? ≠ l[k - 1]?
    · rw [once_new l k hk2 h, List.mem_append]
    · rw [once_old l k h]
      simp only [not_or, Decidable.not_not, ne_eq] at h
      constructor
      · exact .inl
      · rintro (h1 | h1)
        · exact h1
        · obtain rfl := List.mem_singleton.1 h1
          rw [ih (by omega)]
          have e := h.2
          rw [List.getElem?_eq_getElem hk2, List.getElem?_eq_getElem (by omega)] at e
          rw [Option.some.inj e]
          exact List.mem_take_iff_getElem.2 ⟨k - 1, by omega, rfl⟩
theorem once_first (l : AttrL) : ∀ k, k <= l.length -> (∀ i, 0 < i -> i < k -> l[i]? ≠ l[i - 1]?) -> onceK l k = l.take k := by
  intro k
  induction k with
  | zero => intro _ _; simp [onceK]
  | succ k ih =>
    intro hk h
    have hk2 : k < l.length := by omega
    rw [once_new l k hk2 (by
      by_cases h0 : k = 0
      · exact .inl h0
      · exact .inr (h k (by omega) (by omega))), ih (by omega) (fun i h1 h2 => h i h1 (by omega)), List.take_succ_eq_append_getElem hk2]
def UpA (l : AttrL) : Prop := l.Pairwise fun x y => ltOf cmpA x y = true
theorem once_up (l : AttrL) (hs : ∀ i j (hi : i < l.length) (hj : j < l.length), i < j -> ltOf cmpA l[j] l[i] = false) : ∀ k, k <= l.length -> UpA (onceK l k) := by
  intro k
  induction k with
  | zero => intro _; simp [onceK, UpA]
  | succ k ih =>
    intro hk
    have hk2 : k < l.length := by omega
    by_cases h : k = 0 \/ l[k]? ≠ l[k - 1]?
    · rw [once_new l k hk2 h]
      refine List.pairwise_append.2 ⟨ih (by omega), List.pairwise_singleton _ _, fun x hx y hy => ?_⟩
      obtain rfl := List.mem_singleton.1 hy
      rw [once_mem l k (by omega)] at hx
      obtain ⟨i, hi, rfl⟩ := List.mem_take_iff_getElem.1 hx
      have hik : i < k := by omega
      rcases h with h | h
      · omega
      · rw [List.getElem?_eq_getElem hk2, List.getElem?_eq_getElem (by omega)] at h
        have hne : l[k] ≠ l[k - 1]'(by omega) := fun e => h (by rw [e])
        have h1 : ltOf cmpA (l[k - 1]'(by omega)) l[k] = true := by
          cases e : ltOf cmpA (l[k - 1]'(by omega)) l[k] with
          | true => rfl
          | false => exact absurd (lt_tri _ _ (hs (k - 1) k (by omega) hk2 (by omega)) e) hne
        cases e : ltOf cmpA l[i] l[k] with
        | true => rfl
        | false =>
          have h2 : ltOf cmpA (l[k - 1]'(by omega)) l[i] = false := by
            by_cases hi2 : i = k - 1
            · subst hi2; exact lt_irrefl' _
            · exact hs i (k - 1) (by omega) (by omega) (by omega)
          rw [lt_swo.ntrans _ _ _ h2 e] at h1
          exact absurd h1 Bool.false_ne_true
    · rw [once_old l k h]
      exact ih (by omega)
theorem up_eq : ∀ (a b : AttrL), UpA a -> UpA b -> (∀ x, x ∈ a ↔ x ∈ b) -> a = b
  | [], [], _, _, _ => rfl
  | [], y :: b, _, _, h => absurd ((h y).2 (by simp)) (by simp)
  | x :: a, [], _, _, h => absurd ((h x).1 (by simp)) (by simp)
  | x :: a, y :: b, h1, h2, h => by
    obtain ⟨p1, q1⟩ := List.pairwise_cons.1 h1
    obtain ⟨p2, q2⟩ := List.pairwise_cons.1 h2
    have no : ∀ u v : At, ltOf cmpA u v = true -> ltOf cmpA v u = true -> False := fun u v h3 h4 => by
      have := lt_trans' _ _ _ h3 h4
      rw [lt_irrefl'] at this
      exact Bool.false_ne_true this
    have e : x = y := by
      rcases List.mem_cons.1 ((h x).1 (by simp)) with e | e
      · exact e
      · rcases List.mem_cons.1 ((h y).2 (by simp)) with e2 | e2
        · exact e2.symm
        · exact absurd (p1 _ e2) (fun h3 => no _ _ h3 (p2 _ e))
    subst e
    rw [up_eq a b q1 q2 fun z => by
      constructor
      · intro hz
        rcases List.mem_cons.1 ((h z).1 (by simp [hz])) with e | e
        · subst e
          exact absurd (p1 _ hz) (by rw [lt_irrefl']; exact Bool.false_ne_true)
        · exact e
      · intro hz
        rcases List.mem_cons.1 ((h z).2 (by simp [hz])) with e | e
        · subst e
          exact absurd (p2 _ hz) (by rw [lt_irrefl']; exact Bool.false_ne_true)
        · exact e]
def DistL (l d : AttrL) : Prop := UpA d /\ d.length <= l.length /\ ∀ x, x ∈ d ↔ x ∈ l
theorem alike_dist (a b da db : AttrL) (ha : DistL a da) (hb : DistL b db) (hl : a.length = b.length) : alikeL a b = decide (da = db) := by
  have : alikeL a b = true ↔ da = db := by
    rw [alike_iff]
    constructor
    · rintro ⟨-, h⟩
      exact up_eq _ _ ha.1 hb.1 fun x => by rw [ha.2.2, hb.2.2]; exact h x
    · rintro rfl
      exact ⟨hl, fun x => by rw [<- ha.2.2, <- hb.2.2]⟩
  by_cases h : da = db
  · rw [decide_eq_true h, this.2 h]
  · rw [decide_eq_false h]
    exact Bool.eq_false_iff.2 fun h2 => h (this.1 h2)
end Go.Proofs.YtfohijnkeefcfaaGreatDoor.S7
