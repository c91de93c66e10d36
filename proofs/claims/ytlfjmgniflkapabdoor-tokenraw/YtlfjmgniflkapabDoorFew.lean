/- A tag has no more attributes than there are bytes. No program in it. -/
import Derived.Test.YtlfjmgniflkapabDoorAllL
set_option linter.unusedVariables false
set_option linter.unusedSimpArgs false
namespace Go.Proofs.YtlfjmgniflkapabDoor

theorem addA_few (bs : List (List UInt8 × List UInt8)) (a : List UInt8 × List UInt8) : (addA bs a).length ≤ bs.length + 1 := by
  unfold addA
  split
  · omega
  · simp
theorem loopT_few (k : Nat) : ∀ bs r x, loopT k bs r = some x → x.1.length ≤ bs.length + r.length := by
  induction k with
  | zero => intro bs r x h; simp [loopT] at h
  | succ k ih =>
    intro bs r x h
    simp only [loopT] at h
    have h0 := dw_le passB r
    cases hd : r.dropWhile passB with
    | nil => rw [hd] at h; simp at h
    | cons c r2 =>
      rw [hd] at h h0
      simp only [List.length_cons] at h0
      simp only at h
      split at h
      · cases h
        simp only
        omega
      · have h1 := dw_le isSp (r2.dropWhile attrB)
        have h2 := dw_le attrB r2
        cases hr : (r2.dropWhile attrB).dropWhile isSp with
        | nil =>
          rw [hr] at h
          have h3 := ih _ _ _ h
          have h4 := addA_few bs (lowerL (c :: r2.takeWhile attrB), [])
          simp only [List.length_nil] at h3
          omega
        | cons d r4 =>
          rw [hr] at h h1
          simp only [List.length_cons] at h1
          simp only at h
          split at h
          · have h3 := ih _ _ _ h
            have h4 := valueL_le (r4.dropWhile isSp)
            have h5 := dw_le isSp r4
            have h6 := addA_few bs (lowerL (c :: r2.takeWhile attrB), (valueL (r4.dropWhile isSp)).1)
            omega
          · have h3 := ih _ _ _ h
            have h6 := addA_few bs (lowerL (c :: r2.takeWhile attrB), [])
            simp only [List.length_cons] at h3
            omega
theorem endedL_few (r : List UInt8) (stop : Bool) : (endedL r stop).1.attrs.length ≤ r.length := by
  unfold endedL tagL
  cases hl : loopT (r.length + 1) [] (r.dropWhile nameB) with
  | none => simp
  | some x =>
    have h := loopT_few _ _ _ _ hl
    have h2 := dw_le nameB r
    cases stop
    · simp only [Option.map_some, Bool.false_eq_true, if_false]
      simp only [List.length_nil] at h
      omega
    · simp
theorem commentL_few (r : List UInt8) : (commentL r).1.attrs = [] := by
  unfold commentL
  split
  · rfl
  · split
    · rfl
    · split <;> rfl
theorem dataK_few (f : Bool) (k : Nat) : ∀ r, (dataK f k r).1.attrs.length ≤ r.length := by
  induction k with
  | zero => intro r; simp [dataK]
  | succ k ih =>
    intro r
    have hE : ∀ j b, (endedL (r.drop j) b).1.attrs.length ≤ r.length := fun j b => by
      have := endedL_few (r.drop j) b
      rw [List.length_drop] at this
      omega
    have hI : ∀ j, (dataK f k (r.drop j)).1.attrs.length ≤ r.length := fun j => by
      have := ih (r.drop j)
      rw [List.length_drop] at this
      omega
    have hF : (dataK f k ((findR [93, 93, 62] (r.drop 9)).2.drop 3)).1.attrs.length ≤ r.length := by
      have h1 := ih ((findR [93, 93, 62] (r.drop 9)).2.drop 3)
      have h2 := findR_le [93, 93, 62] (r.drop 9)
      rw [List.length_drop] at h1 h2
      omega
    simp only [dataK]
    split
    · simp
    split
    · simp
    split
    · exact hI 3
    split
    · split
      · exact hE 2 true
      · simp [otherL]
    split
    · rw [commentL_few]; simp
    split
    · split
      · exact hF
      · simp
    split
    · split
      · simp
      · simp [otherL]
    split
    · simp [otherL]
    · exact hE 1 false
theorem nextR_few (m : Int) (n : List UInt8) (f : Bool) (r : List UInt8) : (nextR m n f r).1.attrs.length ≤ r.length := by
  unfold nextR
  split
  · simp
  split
  · simp
  split
  · exact dataK_few f r.length r
  split
  · have := endedL_few (r.drop 2) true
    rw [List.length_drop] at this
    omega
  · simp
end Go.Proofs.YtlfjmgniflkapabDoor
