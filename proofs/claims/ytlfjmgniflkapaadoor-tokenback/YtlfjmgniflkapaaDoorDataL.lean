/- The next token in ModeData, step by step, over lists. No program in it. -/
import Derived.Test.YtlfjmgniflkapaaDoorTagL
set_option linter.unusedVariables false
set_option linter.unusedSimpArgs false
namespace Go.Proofs.YtlfjmgniflkapaaDoor

theorem dataK_enough (f : Bool) : ∀ (k j : Nat) (r : List UInt8), r.length ≤ k → r.length ≤ j → dataK f k r = dataK f j r := by
  intro k
  induction k with
  | zero =>
    intro j r h1 h2
    obtain rfl : r = [] := List.eq_nil_of_length_eq_zero (by omega)
    cases j <;> simp [dataK]
  | succ k ih =>
    intro j r h1 h2
    cases j with
    | zero =>
      obtain rfl : r = [] := List.eq_nil_of_length_eq_zero (by omega)
      simp [dataK]
    | succ j =>
      by_cases h0 : r = []
      · simp [dataK, h0]
      · have hl : 1 ≤ r.length := by
          cases r with
          | nil => exact absurd rfl h0
          | cons c q => simp
        have hf := findR_le [93, 93, 62] (r.drop 9)
        rw [List.length_drop] at hf
        have e1 := ih j (r.drop 3) (by rw [List.length_drop]; omega) (by rw [List.length_drop]; omega)
        have e2 := ih j ((findR [93, 93, 62] (r.drop 9)).2.drop 3) (by rw [List.length_drop]; omega) (by rw [List.length_drop]; omega)
        simp only [dataK, e1, e2]
/-- One step. -/
def dataS (f : Bool) (r : List UInt8) : Tok × List UInt8 :=
  if beginsB r = false then ({ kind := 1, text := decL false (spanT r).1 }, (spanT r).2)
  else if [60, 47, 62].isPrefixOf r then dataL f (r.drop 3)
  else if [60, 47].isPrefixOf r then (if letterN (r.getD 2 0).toNat then endedL (r.drop 2) true else otherL (r.drop 2))
  else if [60, 33, 45, 45].isPrefixOf r then commentL (r.drop 4)
  else if f && cdataM.isPrefixOf r then (if (findR [93, 93, 62] (r.drop 9)).1 = [] then dataL f ((findR [93, 93, 62] (r.drop 9)).2.drop 3) else ({ kind := 1, text := (findR [93, 93, 62] (r.drop 9)).1 }, (findR [93, 93, 62] (r.drop 9)).2.drop 3))
  else if [60, 33].isPrefixOf r then (if 9 ≤ r.length ∧ lowerL ((r.drop 2).take 7) = doctypeM then ({ kind := 5 }, (otherL (r.drop 9)).2) else otherL (r.drop 2))
  else if [60, 63].isPrefixOf r then otherL (r.drop 1)
  else endedL (r.drop 1) false
theorem dataL_step (f : Bool) (r : List UInt8) (h0 : r ≠ []) : dataL f r = dataS f r := by
  have hl : 1 ≤ r.length := by
    cases r with
    | nil => exact absurd rfl h0
    | cons c q => simp
  have hf := findR_le [93, 93, 62] (r.drop 9)
  rw [List.length_drop] at hf
  unfold dataL dataS
  obtain ⟨n, hn⟩ : ∃ n, r.length = n + 1 := ⟨r.length - 1, by omega⟩
  rw [hn]
  have e1 := dataK_enough f n (r.drop 3).length (r.drop 3) (by rw [List.length_drop]; omega) (Nat.le_refl _)
  have e2 := dataK_enough f n ((findR [93, 93, 62] (r.drop 9)).2.drop 3).length ((findR [93, 93, 62] (r.drop 9)).2.drop 3) (by rw [List.length_drop]; omega) (Nat.le_refl _)
  simp only [dataK, e1, e2, if_neg h0]
  unfold dataL
  rw [← hn]
theorem dataL_nil (f : Bool) : dataL f [] = ({ kind := 0 }, []) := rfl
theorem data_text (f : Bool) (r : List UInt8) (h : r ≠ []) (h0 : beginsB r = false) : dataL f r = ({ kind := 1, text := decL false (spanT r).1 }, (spanT r).2) := by
  rw [dataL_step f r h]; unfold dataS; rw [if_pos h0]
theorem data_skip (f : Bool) (r : List UInt8) (h : r ≠ []) (h0 : beginsB r = true) (h1 : [60, 47, 62].isPrefixOf r = true) : dataL f r = dataL f (r.drop 3) := by
  rw [dataL_step f r h]; unfold dataS; rw [if_neg (by rw [h0]; decide), if_pos h1]
theorem data_end (f : Bool) (r : List UInt8) (h : r ≠ []) (h0 : beginsB r = true) (h1 : [60, 47, 62].isPrefixOf r = false) (h2 : [60, 47].isPrefixOf r = true) : dataL f r = if letterN (r.getD 2 0).toNat then endedL (r.drop 2) true else otherL (r.drop 2) := by
  rw [dataL_step f r h]; unfold dataS; rw [if_neg (by rw [h0]; decide), if_neg (by rw [h1]; decide), if_pos h2]
theorem data_comment (f : Bool) (r : List UInt8) (h : r ≠ []) (h0 : beginsB r = true) (h1 : [60, 47, 62].isPrefixOf r = false) (h2 : [60, 47].isPrefixOf r = false) (h3 : [60, 33, 45, 45].isPrefixOf r = true) : dataL f r = commentL (r.drop 4) := by
  rw [dataL_step f r h]; unfold dataS; rw [if_neg (by rw [h0]; decide), if_neg (by rw [h1]; decide), if_neg (by rw [h2]; decide), if_pos h3]
theorem data_cdata (r : List UInt8) (h : r ≠ []) (h0 : beginsB r = true) (h1 : [60, 47, 62].isPrefixOf r = false) (h2 : [60, 47].isPrefixOf r = false) (h3 : [60, 33, 45, 45].isPrefixOf r = false) (h4 : cdataM.isPrefixOf r = true) : dataL true r = if (findR [93, 93, 62] (r.drop 9)).1 = [] then dataL true ((findR [93, 93, 62] (r.drop 9)).2.drop 3) else ({ kind := 1, text := (findR [93, 93, 62] (r.drop 9)).1 }, (findR [93, 93, 62] (r.drop 9)).2.drop 3) := by
  rw [dataL_step true r h]; unfold dataS; rw [if_neg (by rw [h0]; decide), if_neg (by rw [h1]; decide), if_neg (by rw [h2]; decide), if_neg (by rw [h3]; decide), if_pos (by rw [h4]; rfl)]
theorem data_bang (f : Bool) (r : List UInt8) (h : r ≠ []) (h0 : beginsB r = true) (h1 : [60, 47, 62].isPrefixOf r = false) (h2 : [60, 47].isPrefixOf r = false) (h3 : [60, 33, 45, 45].isPrefixOf r = false) (h4 : (f && cdataM.isPrefixOf r) = false) (h5 : [60, 33].isPrefixOf r = true) : dataL f r = if 9 ≤ r.length ∧ lowerL ((r.drop 2).take 7) = doctypeM then ({ kind := 5 }, (otherL (r.drop 9)).2) else otherL (r.drop 2) := by
  rw [dataL_step f r h]; unfold dataS; rw [if_neg (by rw [h0]; decide), if_neg (by rw [h1]; decide), if_neg (by rw [h2]; decide), if_neg (by rw [h3]; decide), if_neg (by rw [h4]; decide), if_pos h5]
theorem data_ask (f : Bool) (r : List UInt8) (h : r ≠ []) (h0 : beginsB r = true) (h1 : [60, 47, 62].isPrefixOf r = false) (h2 : [60, 47].isPrefixOf r = false) (h3 : [60, 33, 45, 45].isPrefixOf r = false) (h4 : (f && cdataM.isPrefixOf r) = false) (h5 : [60, 33].isPrefixOf r = false) (h6 : [60, 63].isPrefixOf r = true) : dataL f r = otherL (r.drop 1) := by
  rw [dataL_step f r h]; unfold dataS; rw [if_neg (by rw [h0]; decide), if_neg (by rw [h1]; decide), if_neg (by rw [h2]; decide), if_neg (by rw [h3]; decide), if_neg (by rw [h4]; decide), if_neg (by rw [h5]; decide), if_pos h6]
theorem data_tag (f : Bool) (r : List UInt8) (h : r ≠ []) (h0 : beginsB r = true) (h1 : [60, 47, 62].isPrefixOf r = false) (h2 : [60, 47].isPrefixOf r = false) (h3 : [60, 33, 45, 45].isPrefixOf r = false) (h4 : (f && cdataM.isPrefixOf r) = false) (h5 : [60, 33].isPrefixOf r = false) (h6 : [60, 63].isPrefixOf r = false) : dataL f r = endedL (r.drop 1) false := by
  rw [dataL_step f r h]; unfold dataS; rw [if_neg (by rw [h0]; decide), if_neg (by rw [h1]; decide), if_neg (by rw [h2]; decide), if_neg (by rw [h3]; decide), if_neg (by rw [h4]; decide), if_neg (by rw [h5]; decide), if_neg (by rw [h6]; decide)]
end Go.Proofs.YtlfjmgniflkapaaDoor
