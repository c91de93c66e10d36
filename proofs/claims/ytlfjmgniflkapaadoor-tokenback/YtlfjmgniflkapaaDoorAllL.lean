/- All tokens, over lists: what is left behind a token is an end of what was there. No program in it. -/
import Derived.Test.YtlfjmgniflkapaaDoorDataL
import Derived.Test.YtlfjmgniflkapaaDoorOnward
set_option linter.unusedVariables false
set_option linter.unusedSimpArgs false
namespace Go.Proofs.YtlfjmgniflkapaaDoor

theorem valueL_sfx (r : List UInt8) : (valueL r).2 <:+ r := by
  obtain ⟨a, h⟩ := valueL_suf r
  exact ⟨a, h⟩
theorem findR_sfx (t r : List UInt8) : (findR t r).2 <:+ r := ⟨_, findR_app t r⟩
theorem loopT_sfx (k : Nat) : ∀ aa r x, loopT k aa r = some x → x.2.2 <:+ r := by
  induction k with
  | zero => intro aa r x h; simp [loopT] at h
  | succ k ih =>
    intro aa r x h
    simp only [loopT] at h
    have h0 : r.dropWhile passB <:+ r := List.dropWhile_suffix _
    cases hd : r.dropWhile passB with
    | nil => rw [hd] at h; simp at h
    | cons c r2 =>
      rw [hd] at h h0
      have h1 : r2 <:+ r := (List.suffix_cons c r2).trans h0
      simp only at h
      split at h
      · cases h
        exact h1
      · have h2 : (r2.dropWhile attrB).dropWhile isSp <:+ r := ((List.dropWhile_suffix _).trans (List.dropWhile_suffix _)).trans h1
        cases hr : (r2.dropWhile attrB).dropWhile isSp with
        | nil =>
          rw [hr] at h
          exact (ih _ _ _ h).trans (List.nil_suffix)
        | cons d r4 =>
          rw [hr] at h h2
          simp only at h
          split at h
          · exact (ih _ _ _ h).trans (((valueL_sfx _).trans (List.dropWhile_suffix _)).trans ((List.suffix_cons d r4).trans h2))
          · exact (ih _ _ _ h).trans h2
theorem endedL_sfx (r : List UInt8) (stop : Bool) : (endedL r stop).2 <:+ r := by
  unfold endedL
  cases h : tagL r with
  | none => exact List.nil_suffix
  | some x =>
    obtain ⟨t, q⟩ := x
    have hq : q <:+ r := by
      unfold tagL at h
      cases hl : loopT (r.length + 1) [] (r.dropWhile nameB) with
      | none => rw [hl] at h; simp at h
      | some y =>
        rw [hl] at h
        simp only [Option.map_some, Option.some.injEq, Prod.mk.injEq] at h
        rw [← h.2]
        exact (loopT_sfx _ _ _ _ hl).trans (List.dropWhile_suffix _)
    simp only
    split <;> exact hq
theorem otherL_sfx (r : List UInt8) : (otherL r).2 <:+ r := (List.drop_suffix _ _).trans (findR_sfx _ _)
theorem findC_sfx : ∀ r x, findC r = some x → x.2 <:+ r
  | [], x, h => by simp [findC] at h
  | c :: r, x, h => by
    simp only [findC] at h
    split at h
    · cases h; exact List.drop_suffix _ _
    · split at h
      · cases h; exact List.drop_suffix _ _
      · cases hf : findC r with
        | none => rw [hf] at h; simp at h
        | some y =>
          rw [hf] at h
          simp only [Option.map_some, Option.some.injEq] at h
          subst h
          exact (findC_sfx r y hf).trans (List.suffix_cons c r)
theorem commentL_sfx (r : List UInt8) : (commentL r).2 <:+ r := by
  unfold commentL
  split
  · exact List.drop_suffix _ _
  · split
    · exact List.drop_suffix _ _
    · split
      · rename_i a b h
        exact findC_sfx r _ h
      · exact List.nil_suffix
theorem dataK_sfx (f : Bool) (k : Nat) : ∀ r, (dataK f k r).2 <:+ r := by
  induction k with
  | zero => intro r; exact List.nil_suffix
  | succ k ih =>
    intro r
    simp only [dataK]
    split
    · exact List.nil_suffix
    · split
      · exact ⟨_, spanT_app r⟩
      · split
        · exact (ih _).trans (List.drop_suffix _ _)
        · split
          · split
            · exact (endedL_sfx _ _).trans (List.drop_suffix _ _)
            · exact (otherL_sfx _).trans (List.drop_suffix _ _)
          · split
            · exact (commentL_sfx _).trans (List.drop_suffix _ _)
            · split
              · split
                · exact (ih _).trans ((List.drop_suffix _ _).trans ((findR_sfx _ _).trans (List.drop_suffix _ _)))
                · exact (List.drop_suffix _ _).trans ((findR_sfx _ _).trans (List.drop_suffix _ _))
              · split
                · split
                  · exact (otherL_sfx _).trans (List.drop_suffix _ _)
                  · exact (otherL_sfx _).trans (List.drop_suffix _ _)
                · split
                  · exact (otherL_sfx _).trans (List.drop_suffix _ _)
                  · exact (endedL_sfx _ _).trans (List.drop_suffix _ _)
theorem nextR_sfx (mode : Int) (n : List UInt8) (f : Bool) (r : List UInt8) : (nextR mode n f r).2 <:+ r := by
  unfold nextR
  split
  · exact List.nil_suffix
  · split
    · exact List.nil_suffix
    · split
      · exact dataK_sfx f _ r
      · split
        · exact (endedL_sfx _ _).trans (List.drop_suffix _ _)
        · exact ⟨_, spanS_app n r⟩
theorem nextR_back (mode : Int) (n : List UInt8) (f : Bool) (s : ByteArray) (k : Nat) (hk : k ≤ s.size) : s.data.toList.drop (s.size - (nextR mode n f (s.data.toList.drop k)).2.length) = (nextR mode n f (s.data.toList.drop k)).2 ∧ s.size - (nextR mode n f (s.data.toList.drop k)).2.length ≤ s.size := by
  obtain ⟨a, h⟩ := nextR_sfx mode n f (s.data.toList.drop k)
  have := drop_back s k hk a _ h
  exact ⟨this.1, this.2.2.1⟩

/-- All tokens; k bounds the length. -/
def allK : Nat → List UInt8 → List Tok
  | 0, _ => []
  | k + 1, r => if (nextR 0 [] false r).1.kind = 0 then [] else (nextR 0 [] false r).1 :: allK k (nextR 0 [] false r).2
def allL (r : List UInt8) : List Tok := allK (r.length + 1) r
theorem nextR_nil (mode : Int) (n : List UInt8) (f : Bool) : nextR mode n f [] = ({ kind := 0 }, []) := by
  unfold nextR; rw [if_pos rfl]
theorem next_short (r : List UInt8) (h : (nextR 0 [] false r).1.kind ≠ 0) : (nextR 0 [] false r).2.length < r.length := by
  by_cases h0 : r = []
  · subst h0
    rw [nextR_nil] at h
    exact absurd rfl h
  · exact (next_good 0 [] false r h0).short
theorem allK_enough : ∀ (k j : Nat) (r : List UInt8), r.length < k → r.length < j → allK k r = allK j r := by
  intro k
  induction k with
  | zero => intro j r h; omega
  | succ k ih =>
    intro j r h1 h2
    cases j with
    | zero => omega
    | succ j =>
      simp only [allK]
      split
      · rfl
      · rename_i hk
        have hs := next_short r hk
        rw [ih j _ (by omega) (by omega)]
theorem allL_step (r : List UInt8) : allL r = if (nextR 0 [] false r).1.kind = 0 then [] else (nextR 0 [] false r).1 :: allL (nextR 0 [] false r).2 := by
  unfold allL
  conv => lhs; simp only [allK]
  split
  · rfl
  · rename_i hk
    have hs := next_short r hk
    rw [allK_enough r.length ((nextR 0 [] false r).2.length + 1) _ (by omega) (by omega)]
end Go.Proofs.YtlfjmgniflkapaaDoor
