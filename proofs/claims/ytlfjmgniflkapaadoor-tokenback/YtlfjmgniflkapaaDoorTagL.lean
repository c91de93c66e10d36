/- A tag behind its name, step by step, over lists and places. No program in it. -/
import Derived.Test.YtlfjmgniflkapaaDoorTok
import Derived.Test.YtlfjmgniflkapaaDoorBase
set_option linter.unusedVariables false
set_option linter.unusedSimpArgs false
namespace Go.Proofs.YtlfjmgniflkapaaDoor

theorem loopT_enough : ∀ (k j : Nat) (aa : List (List UInt8 × List UInt8)) (r : List UInt8), r.length < k → r.length < j → loopT k aa r = loopT j aa r := by
  intro k
  induction k with
  | zero => intro j aa r h; omega
  | succ k ih =>
    intro j aa r h1 h2
    cases j with
    | zero => omega
    | succ j =>
      have h0 := dw_le passB r
      simp only [loopT]
      cases hd : r.dropWhile passB with
      | nil => rfl
      | cons c r2 =>
        rw [hd] at h0
        simp only [List.length_cons] at h0
        simp only
        split
        · rfl
        · have h3 := dw_le isSp (r2.dropWhile attrB)
          have h4 := dw_le attrB r2
          cases hr : (r2.dropWhile attrB).dropWhile isSp with
          | nil => exact ih j _ _ (by simp; omega) (by simp; omega)
          | cons d r4 =>
            rw [hr] at h3
            simp only [List.length_cons] at h3
            simp only
            have h5 := valueL_le (r4.dropWhile isSp)
            have h6 := dw_le isSp r4
            split
            · exact ih j _ _ (by omega) (by omega)
            · exact ih j _ _ (by simp; omega) (by simp; omega)
def tailT (aa : List (List UInt8 × List UInt8)) (r : List UInt8) : Option (List (List UInt8 × List UInt8) × Bool × List UInt8) := loopT (r.length + 1) aa r
theorem tail_none (aa : List (List UInt8 × List UInt8)) (r : List UInt8) (h : r.dropWhile passB = []) : tailT aa r = none := by
  unfold tailT
  simp only [loopT]
  rw [h]
theorem tail_end (aa : List (List UInt8 × List UInt8)) (r r2 : List UInt8) (h : r.dropWhile passB = 62 :: r2) : tailT aa r = some (aa, strokeB r, r2) := by
  unfold tailT
  simp only [loopT]
  rw [h]
  rfl
theorem tail_plain (aa : List (List UInt8 × List UInt8)) (r : List UInt8) (c : UInt8) (r2 : List UInt8) (h : r.dropWhile passB = c :: r2) (hc : c ≠ 62) (hq : ¬ ((r2.dropWhile attrB).dropWhile isSp).head? = some 61) :
    tailT aa r = tailT (addA aa (lowerL (c :: r2.takeWhile attrB), [])) ((r2.dropWhile attrB).dropWhile isSp) := by
  have h0 := dw_le passB r
  have h3 := dw_le isSp (r2.dropWhile attrB)
  have h4 := dw_le attrB r2
  rw [h] at h0
  simp only [List.length_cons] at h0
  unfold tailT
  conv => lhs; simp only [loopT]
  rw [h]
  simp only
  rw [if_neg hc]
  cases hr : (r2.dropWhile attrB).dropWhile isSp with
  | nil => exact loopT_enough _ _ _ _ (by simp; omega) (by simp)
  | cons d r4 =>
    rw [hr] at h3 hq
    simp only [List.head?_cons, Option.some.injEq] at hq
    simp only [List.length_cons] at h3
    simp only
    rw [if_neg hq]
    exact loopT_enough _ _ _ _ (by simp; omega) (by simp)
theorem tail_value (aa : List (List UInt8 × List UInt8)) (r : List UInt8) (c : UInt8) (r2 r4 : List UInt8) (h : r.dropWhile passB = c :: r2) (hc : c ≠ 62) (hq : (r2.dropWhile attrB).dropWhile isSp = 61 :: r4) :
    tailT aa r = tailT (addA aa (lowerL (c :: r2.takeWhile attrB), (valueL (r4.dropWhile isSp)).1)) (valueL (r4.dropWhile isSp)).2 := by
  have h0 := dw_le passB r
  have h3 := dw_le isSp (r2.dropWhile attrB)
  have h4 := dw_le attrB r2
  have h5 := valueL_le (r4.dropWhile isSp)
  have h6 := dw_le isSp r4
  rw [h] at h0
  rw [hq] at h3
  simp only [List.length_cons] at h0 h3
  unfold tailT
  conv => lhs; simp only [loopT]
  rw [h]
  simp only
  rw [if_neg hc, hq]
  simp only [if_true]
  exact loopT_enough _ _ _ _ (by omega) (by omega)
theorem tagL_tail (r : List UInt8) : tagL r = (tailT [] (r.dropWhile nameB)).map fun x => ({ kind := 2, name := lowerL (r.takeWhile nameB), attrs := x.1, closed := x.2.1 }, x.2.2) := by
  unfold tagL tailT
  rw [loopT_enough (r.length + 1) ((r.dropWhile nameB).length + 1) [] _ (by have := dw_le nameB r; omega) (by omega)]

/-- Where what is left begins. -/
theorem drop_back (s : ByteArray) (k : Nat) (hk : k ≤ s.size) (a V : List UInt8) (h : a ++ V = s.data.toList.drop k) : s.data.toList.drop (s.size - V.length) = V ∧ k ≤ s.size - V.length ∧ s.size - V.length ≤ s.size ∧ V.length ≤ s.size := by
  have hl := congrArg List.length h
  rw [List.length_append, List.length_drop, ← size_list] at hl
  refine ⟨?_, by omega, by omega, by omega⟩
  rw [show s.size - V.length = k + a.length by omega, ← List.drop_drop, ← h, List.drop_left]
theorem dw_back (p : UInt8 → Bool) (s : ByteArray) (k : Nat) (hk : k ≤ s.size) : s.data.toList.drop (s.size - ((s.data.toList.drop k).dropWhile p).length) = (s.data.toList.drop k).dropWhile p ∧ k ≤ s.size - ((s.data.toList.drop k).dropWhile p).length ∧ s.size - ((s.data.toList.drop k).dropWhile p).length ≤ s.size ∧ ((s.data.toList.drop k).dropWhile p).length ≤ s.size :=
  drop_back s k hk _ _ List.takeWhile_append_dropWhile
theorem valueL_suf (r : List UInt8) : ∃ a, a ++ (valueL r).2 = r := by
  unfold valueL
  cases r with
  | nil => exact ⟨[], rfl⟩
  | cons c q =>
    simp only
    split
    · exact ⟨[], rfl⟩
    · split
      · refine ⟨c :: (findR [c] q).1 ++ (findR [c] q).2.take 1, ?_⟩
        rw [List.append_assoc, List.take_append_drop, List.cons_append, findR_app]
      · exact ⟨_, List.takeWhile_append_dropWhile⟩
theorem value_back (s : ByteArray) (k : Nat) (hk : k ≤ s.size) : s.data.toList.drop (s.size - (valueL (s.data.toList.drop k)).2.length) = (valueL (s.data.toList.drop k)).2 ∧ k ≤ s.size - (valueL (s.data.toList.drop k)).2.length ∧ s.size - (valueL (s.data.toList.drop k)).2.length ≤ s.size ∧ (valueL (s.data.toList.drop k)).2.length ≤ s.size := by
  obtain ⟨a, h⟩ := valueL_suf (s.data.toList.drop k)
  exact drop_back s k hk a _ h

/-- Whether a stroke was passed last, st being so far. -/
def strokeF (st : Bool) (r : List UInt8) : Bool := match (r.takeWhile passB).getLast? with | none => st | some c => c == 47
theorem strokeF_start (r : List UInt8) : strokeF false r = strokeB r := by
  unfold strokeF strokeB
  cases (r.takeWhile passB).getLast? <;> rfl
theorem strokeF_step (st : Bool) (c : UInt8) (r : List UInt8) (h : passB c = true) : strokeF st (c :: r) = strokeF (c == 47) r := by
  unfold strokeF
  rw [List.takeWhile_cons_of_pos h]
  cases hr : r.takeWhile passB with
  | nil => rfl
  | cons d q =>
    rw [List.getLast?_cons_cons]
    cases hg : (d :: q).getLast? with
    | none => simp at hg
    | some x => rfl
theorem strokeF_stop (st : Bool) (r : List UInt8) (h : r = [] ∨ ∃ c q, r = c :: q ∧ passB c = false) : strokeF st r = st := by
  unfold strokeF
  rcases h with rfl | ⟨c, q, rfl, hc⟩
  · rfl
  · rw [List.takeWhile_cons_of_neg (by rw [hc]; decide)]
    rfl
theorem pass_step (s : ByteArray) (k : Nat) (h : k < s.size) : (s.data.toList.drop k).dropWhile passB = if passB s[k] then (s.data.toList.drop (k + 1)).dropWhile passB else s.data.toList.drop k := by
  rw [drop_cons s k h, List.dropWhile_cons]
end Go.Proofs.YtlfjmgniflkapaaDoor
