/- Lines and words as the library cuts them, and that they are the document's. No program in it. -/
import Derived.Test.YthopnliaikkhbaaGreatDoorPr11
import Derived.Lib.SplitLaws
import Derived.Lib.IndexBytes
import Derived.Lib.FieldsP
set_option linter.unusedVariables false
set_option linter.unusedSimpArgs false
namespace Go.Proofs.YthopnliaikkhbaaGreatDoor
open Go.Lib

theorem index_hit (a r : Bs) (h : ∀ c ∈ a, c ≠ 10) : indexByte (a ++ 10 :: r) 10 = (a.length : Int) := by
  induction a with
  | nil => rfl
  | cons c a ih =>
    have e := ih fun x hx => h x (by simp [hx])
    rw [List.cons_append, indexByte, e, if_neg (by simpa using h c (by simp)), if_neg (by rw [beq_iff_eq]; omega)]
    simp
theorem index_miss (a : Bs) (h : ∀ c ∈ a, c ≠ 10) : indexByte a 10 = -1 := by
  induction a with
  | nil => rfl
  | cons c a ih =>
    have e := ih fun x hx => h x (by simp [hx])
    rw [indexByte, e, if_neg (by simpa using h c (by simp)), if_pos (by decide)]
theorem lines_one (a : Bs) (h : ∀ c ∈ a, c ≠ 10) : linesL a = [a] := by
  have := lines_go a [] [] h
  rw [List.append_nil, List.nil_append] at this
  unfold linesL
  rw [this, linesK]
theorem parts (s : Bs) : (∀ c ∈ s, c ≠ 10) ∨ ∃ a r, s = a ++ 10 :: r ∧ ∀ c ∈ a, c ≠ 10 := by
  induction s with
  | nil => exact .inl (by simp)
  | cons c s ih =>
    by_cases h : c = 10
    · subst h
      exact .inr ⟨[], s, rfl, by simp⟩
    · rcases ih with ih | ⟨a, r, rfl, ha⟩
      · exact .inl (by intro x hx; rcases List.mem_cons.1 hx with rfl | hx; exact h; exact ih x hx)
      · exact .inr ⟨c :: a, r, rfl, by intro x hx; rcases List.mem_cons.1 hx with rfl | hx; exact h; exact ha x hx⟩
theorem split_lines : ∀ (n : Nat) (s : Bs), s.length ≤ n → splitK [10] 0 (s.count 10) s = linesL s
  | n, s, hn => by
    rcases parts s with h | ⟨a, r, rfl, ha⟩
    · have hc : s.count 10 = 0 := List.count_eq_zero.2 fun h1 => h 10 h1 rfl
      rw [hc, splitK, lines_one s h]
    · have hc : (a ++ 10 :: r).count 10 = r.count 10 + 1 := by
        rw [List.count_append, List.count_cons_self, List.count_eq_zero.2 fun h1 => ha 10 h1 rfl]
        omega
      rw [hc, splitK, index_one, index_hit a r ha, if_neg (by rw [beq_iff_eq]; omega), lines_cut a r ha]
      simp only [Int.toNat_natCast, Nat.add_zero, List.take_left', List.length_cons, List.length_nil, Nat.zero_add]
      have hd : (a ++ 10 :: r).drop (a.length + 1) = r := by
        rw [show a.length + 1 = (a ++ [(10 : UInt8)]).length by simp, show a ++ 10 :: r = (a ++ [10]) ++ r by simp, List.drop_left]
      rw [hd]
      cases n with
      | zero => simp at hn
      | succ n => rw [split_lines n r (by simp at hn; omega)]
/-- The lines of a text as the library cuts them. -/
theorem split_is (s : ByteArray) : (splitB ⟨#[10]⟩ 0 (countB s ⟨#[10]⟩) s).map (·.data.toList) = linesL s.data.toList := by
  rw [splitB_data]
  show splitK [10] 0 (count s.data.toList [10]) s.data.toList = _
  rw [count_one, split_lines _ _ (Nat.le_refl _)]

/-! Words. -/
def blankR (n : Nat) : Bool := n == 32
theorem get_at (s : ByteArray) (i : Nat) (h : i < s.size) : s.get! i = s[i] := by
  rw [ByteArray.get!]
  show s.data[i]! = s.data[i]
  exact getElem!_pos s.data i h
theorem decode_is (s : ByteArray) (pos : Nat) (h : pos < s.size) : (s[pos].toNat = 32 ∧ Utf8.decode s pos = (32, 1)) ∨ (blankR (Utf8.decode s pos).1 = false ∧ 1 ≤ (Utf8.decode s pos).2 ∧ pos + (Utf8.decode s pos).2 ≤ s.size ∧ ∀ j, j < (Utf8.decode s pos).2 → ∀ hj : pos + j < s.size, s[pos + j].toNat ≠ 32) := by
  have h0 : (s.get! pos).toNat = s[pos].toNat := by rw [get_at s pos h]
  have hz : ∀ hj : pos + 0 < s.size, s[pos + 0].toNat = s[pos].toNat := fun _ => rfl
  unfold Utf8.decode
  simp only [Nat.add_zero, h0]
  by_cases a1 : s[pos].toNat < 128
  · rw [if_pos a1]
    by_cases a2 : s[pos].toNat = 32
    · exact .inl ⟨a2, by rw [a2]⟩
    · refine .inr ⟨by simp [blankR, a2], Nat.le_refl _, by simp; omega, fun j hj hq => ?_⟩
      obtain rfl : j = 0 := by simpa using hj
      exact a2
  · rw [if_neg a1]
    right
    have cont : ∀ k, (decide (pos + k < s.size) && (s.get! (pos + k)).toNat / 64 == 2) = true → pos + k < s.size ∧ ∀ hj : pos + k < s.size, s[pos + k].toNat ≠ 32 := by
      intro k hk
      simp only [Bool.and_eq_true, decide_eq_true_eq, beq_iff_eq] at hk
      refine ⟨hk.1, fun hj => ?_⟩
      rw [get_at s _ hj] at hk
      omega
    have one : (blankR 65533 = false) ∧ 1 ≤ 1 ∧ pos + 1 ≤ s.size ∧ ∀ j, j < 1 → ∀ hj : pos + j < s.size, s[pos + j].toNat ≠ 32 := ⟨rfl, Nat.le_refl _, by omega, fun j hj hq => by
      obtain rfl : j = 0 := by omega
      simp only [Nat.add_zero]
      omega⟩
    have zero : ∀ hj : pos + 0 < s.size, s[pos + 0].toNat ≠ 32 := fun hj => by simp only [Nat.add_zero]; omega
    split
    · rename_i hc
      rw [Bool.and_eq_true] at hc
      obtain ⟨c1, d1⟩ := cont 1 hc.2
      split
      · rename_i hv
        refine ⟨by simp [blankR]; omega, by simp, by simp; omega, fun j hj hq => ?_⟩
        have hj2 : j < 2 := hj
        match j, hj2 with
        | 0, _ => exact zero hq
        | 1, _ => exact d1 hq
      · exact one
    · split
      · rename_i hc
        rw [Bool.and_eq_true, Bool.and_eq_true] at hc
        obtain ⟨c1, d1⟩ := cont 1 hc.1.2
        obtain ⟨c2, d2⟩ := cont 2 hc.2
        split
        · rename_i hv
          rw [Bool.and_eq_true, decide_eq_true_eq] at hv
          refine ⟨by simp [blankR]; omega, by simp, by simp; omega, fun j hj hq => ?_⟩
          have hj2 : j < 3 := hj
          match j, hj2 with
          | 0, _ => exact zero hq
          | 1, _ => exact d1 hq
          | 2, _ => exact d2 hq
        · exact one
      · split
        · rename_i hc
          rw [Bool.and_eq_true, Bool.and_eq_true, Bool.and_eq_true] at hc
          obtain ⟨c1, d1⟩ := cont 1 hc.1.1.2
          obtain ⟨c2, d2⟩ := cont 2 hc.1.2
          obtain ⟨c3, d3⟩ := cont 3 hc.2
          split
          · rename_i hv
            rw [Bool.and_eq_true, decide_eq_true_eq] at hv
            refine ⟨by simp [blankR]; omega, by simp, by simp; omega, fun j hj hq => ?_⟩
            have hj2 : j < 4 := hj
            match j, hj2 with
            | 0, _ => exact zero hq
            | 1, _ => exact d1 hq
            | 2, _ => exact d2 hq
            | 3, _ => exact d3 hq
          · exact one
        · exact one
def cutL (l : Bs) (x : Nat × Nat) : Bs := (l.drop x.1).take (x.2 - x.1)
def curL (l : Bs) (st : Option Nat) (pos : Nat) : Bs := match st with
  | some a => cutL l (a, pos)
  | none => []
theorem curL_some (l : Bs) (a pos : Nat) : curL l (some a) pos = cutL l (a, pos) := rfl
theorem curL_none (l : Bs) (pos : Nat) : curL l none pos = [] := rfl
theorem cut_grow (l : Bs) (a pos n : Nat) (h : a ≤ pos) : cutL l (a, pos + n) = cutL l (a, pos) ++ (l.drop pos).take n := by
  unfold cutL
  simp only []
  rw [show pos + n - a = (pos - a) + n by omega, List.take_add, List.drop_drop, show a + (pos - a) = pos by omega]
theorem spans_words (s : ByteArray) : ∀ (f pos : Nat) (st : Option Nat) (acc : List (Nat × Nat)), s.size ≤ pos + f → pos ≤ s.size → (∀ a, st = some a → a < pos) →
    (closeSpans s (spansFromP blankR s f pos st acc)).map (cutL s.data.toList) = acc.map (cutL s.data.toList) ++ wordsK (curL s.data.toList st pos) (s.data.toList.drop pos) := by
  have size_l : s.size = s.data.toList.length := by rw [Array.length_toList]; rfl
  have fin : ∀ (pos : Nat) (st : Option Nat) (acc : List (Nat × Nat)), pos = s.size → (∀ a, st = some a → a < pos) → (closeSpans s (acc, st)).map (cutL s.data.toList) = acc.map (cutL s.data.toList) ++ wordsK (curL s.data.toList st pos) (s.data.toList.drop pos) := by
    intro pos st acc hp hst
    subst hp
    rw [List.drop_eq_nil_of_le (by omega), wordsK]
    unfold closeSpans
    cases st with
    | none => simp [curL]
    | some a =>
      have := hst a rfl
      have hne : cutL s.data.toList (a, s.size) ≠ [] := by
        intro e
        have := congrArg List.length e
        unfold cutL at this
        simp at this
        omega
      rw [curL_some, if_neg hne]
      simp only []
      rw [List.map_append]
      rfl
  intro f
  induction f with
  | zero =>
    intro pos st acc h1 h2 hst
    exact fin pos st acc (by omega) hst
  | succ f ih =>
    intro pos st acc h1 h2 hst
    by_cases hlt : pos < s.size
    · have hcons : s.data.toList.drop pos = s[pos] :: s.data.toList.drop (pos + 1) := by
        rw [List.drop_eq_getElem_cons (by omega)]; rfl
      unfold spansFromP
      rw [if_pos hlt]
      rcases decode_is s pos hlt with ⟨hb, hd⟩ | ⟨hb, hn1, hn2, hno⟩
      · rw [hd]
        simp only []
        rw [if_pos (by rfl)]
        have h32 : s[pos] = 32 := by apply UInt8.toNat_inj.1; exact hb
        rw [hcons, h32, wordsK, if_pos rfl]
        cases st with
        | none =>
          rw [curL_none, if_pos rfl]
          simp only []
          rw [ih (pos + 1) none acc (by omega) (by omega) (by simp)]
          rfl
        | some a =>
          have := hst a rfl
          have hne : cutL s.data.toList (a, pos) ≠ [] := by
            intro e
            have := congrArg List.length e
            unfold cutL at this
            simp at this
            omega
          rw [curL_some, if_neg hne]
          simp only []
          rw [ih (pos + 1) none _ (by omega) (by omega) (by simp), List.map_append]
          simp [curL]
      · generalize Utf8.decode s pos = D at *
        obtain ⟨R, n⟩ := D
        simp only [] at *
        rw [if_neg (by rw [hb]; decide)]
        have hsplit : s.data.toList.drop pos = (s.data.toList.drop pos).take n ++ s.data.toList.drop (pos + n) := by
          rw [← List.drop_drop, List.take_append_drop]
        have hno2 : ∀ c ∈ (s.data.toList.drop pos).take n, c ≠ 32 := by
          intro c hc
          obtain ⟨j, hj, rfl⟩ := List.mem_iff_getElem.1 hc
          rw [List.getElem_take, List.getElem_drop]
          have hj2 : j < n ∧ pos + j < s.size := by
            rw [List.length_take, List.length_drop] at hj
            omega
          have := hno j hj2.1 hj2.2
          intro e
          apply this
          show (s.data.toList[pos + j]).toNat = 32
          rw [e]
          rfl
        cases st with
        | none =>
          simp only []
          rw [ih (pos + n) (some pos) acc (by omega) (by omega) (fun a ha => by have := Option.some.inj ha; omega)]
          congr 1
          conv => rhs; rw [hsplit, words_go _ _ _ hno2]
          rw [curL_none, curL_some, List.nil_append]
          unfold cutL
          simp
        | some a =>
          have := hst a rfl
          simp only []
          rw [ih (pos + n) (some a) acc (by omega) (by omega) (fun b hb => by have := Option.some.inj hb; omega)]
          congr 1
          conv => rhs; rw [hsplit, words_go _ _ _ hno2]
          rw [curL_some, curL_some, cut_grow _ _ _ _ (by omega)]
    · rw [spansFromP_end _ _ _ _ _ _ hlt]
      exact fin pos st acc (by omega) hst
/-- The words of a line as the library cuts them. -/
theorem fields_is (s : ByteArray) : (goFieldsP blankR s).map (·.data.toList) = wordsL s.data.toList := by
  have h := spans_words s s.size 0 none [] (by omega) (by omega) (by simp)
  unfold goFieldsP spansOfP
  rw [List.map_map]
  simp only [List.map_nil, List.nil_append, List.drop_zero, curL] at h
  unfold wordsL
  rw [← h]
  apply List.map_congr_left
  intro x _
  show (s.extract x.1 x.2).data.toList = _
  rw [Lib.extract_data]
  rfl
end Go.Proofs.YthopnliaikkhbaaGreatDoor
