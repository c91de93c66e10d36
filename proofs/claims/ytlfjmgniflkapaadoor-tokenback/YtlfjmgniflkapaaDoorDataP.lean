/- The next token in ModeData as the program comes to it, step by step, over lists. No program in it. -/
import Derived.Test.YtlfjmgniflkapaaDoorAllL
import Derived.Test.YtlfjmgniflkapaaDoorOnward
set_option linter.unusedVariables false
set_option linter.unusedSimpArgs false
namespace Go.Proofs.YtlfjmgniflkapaaDoor

def likeB (t r : List UInt8) : Bool := decide (t.length ≤ r.length) && (lowerL (r.take t.length) == t)
/-- What is left behind an odd comment's beginning. -/
def oddR (r : List UInt8) : List UInt8 := if [60, 33].isPrefixOf r then r.drop 2 else if [60, 47].isPrefixOf r then r.drop 2 else if [60].isPrefixOf r then r.drop 1 else r
def doctypeF : List UInt8 := [60, 33, 100, 111, 99, 116, 121, 112, 101]
def cdataT (r : List UInt8) : Tok × List UInt8 := (if (findR [93, 93, 62] r).1 = [] then { kind := 0 } else { kind := 1, text := (findR [93, 93, 62] r).1 }, (findR [93, 93, 62] r).2.drop 3)
/-- One step of the program. -/
def dataP (f : Bool) (r : List UInt8) : Tok × List UInt8 :=
  if beginsB r = false then ({ kind := 1, text := decL false (spanT r).1 }, (spanT r).2)
  else if letterN (r.getD 1 0).toNat then endedL (r.drop 1) false
  else if r.getD 1 0 == 47 && letterN (r.getD 2 0).toNat then endedL (r.drop 2) true
  else if [60, 47, 62].isPrefixOf r then ({ kind := 0 }, r.drop 3)
  else if [60, 33, 45, 45].isPrefixOf r then commentL (r.drop 4)
  else if likeB doctypeF r then ({ kind := 5 }, (findR [62] r).2.drop 1)
  else if f && cdataM.isPrefixOf r then cdataT (r.drop 9)
  else otherL (oddR r)
theorem ended_fix (f : Bool) (r : List UInt8) (stop : Bool) : (if (endedL r stop).1.kind = 0 then dataL f (endedL r stop).2 else endedL r stop) = endedL r stop := by
  unfold endedL
  cases h : tagL r with
  | none => rfl
  | some x =>
    obtain ⟨t, q⟩ := x
    obtain ⟨hk, _⟩ := tagL_what r t q h
    cases stop
    · simp only [Bool.false_eq_true, if_false]
      rw [if_neg (by rw [hk]; decide)]
    · rfl
theorem comment_fix (f : Bool) (r : List UInt8) : (if (commentL r).1.kind = 0 then dataL f (commentL r).2 else commentL r) = commentL r := by
  have : (commentL r).1.kind = 4 := by
    unfold commentL
    split
    · rfl
    · split
      · rfl
      · split <;> rfl
  rw [if_neg (by rw [this]; decide)]
theorem findR_pass (x : UInt8) : ∀ a r : List UInt8, x ∉ a → (findR [x] (a ++ r)).2 = (findR [x] r).2
  | [], r, _ => rfl
  | c :: a, r, h => by
    have hc : ¬ x = c := fun e => h (by rw [e]; exact List.mem_cons_self)
    have ih := findR_pass x a r (fun hm => h (List.mem_cons_of_mem c hm))
    simp only [List.cons_append, findR]
    rw [if_neg (by simp [List.isPrefixOf, hc])]
    exact ih
theorem like_doctype (q : List UInt8) : likeB doctypeF (60 :: 33 :: q) = true ↔ (9 ≤ (60 :: 33 :: q).length ∧ lowerL (((60 :: 33 :: q : List UInt8).drop 2).take 7) = doctypeM) := by
  unfold likeB doctypeF doctypeM
  have e1 : lowerL ((60 :: 33 :: q : List UInt8).take 9) = 60 :: 33 :: lowerL (q.take 7) := rfl
  simp only [List.length_cons, List.length_nil, Nat.zero_add, List.drop_succ_cons, List.drop_zero]
  rw [show (0 + 1 + 1 + 1 + 1 + 1 + 1 + 1 + 1 + 1 : Nat) = 9 from rfl] at *
  rw [e1, Bool.and_eq_true, decide_eq_true_eq, beq_iff_eq, List.cons.injEq, List.cons.injEq]
  simp
theorem doctype_rest (q : List UInt8) (h : likeB doctypeF (60 :: 33 :: q) = true) : (findR [62] (60 :: 33 :: q)).2 = (findR [62] ((60 :: 33 :: q : List UInt8).drop 9)).2 := by
  have hl : lowerL ((60 :: 33 :: q : List UInt8).take 9) = doctypeF := by
    unfold likeB at h
    rw [Bool.and_eq_true] at h
    exact beq_iff_eq.1 h.2
  have hn : (62 : UInt8) ∉ (60 :: 33 :: q : List UInt8).take 9 := by
    intro hm
    have h2 : (62 : UInt8) ∈ lowerL ((60 :: 33 :: q : List UInt8).take 9) := List.mem_map.2 ⟨62, hm, rfl⟩
    rw [hl] at h2
    exact absurd h2 (by decide)
  have h3 := findR_pass 62 ((60 :: 33 :: q : List UInt8).take 9) ((60 :: 33 :: q : List UInt8).drop 9) hn
  rw [List.take_append_drop] at h3
  exact h3
theorem like_no (c : UInt8) (q : List UInt8) (h : low c ≠ 33) : likeB doctypeF (60 :: c :: q) = false := by
  unfold likeB doctypeF
  rw [Bool.and_eq_false_iff]
  refine .inr ?_
  refine beq_eq_false_iff_ne.2 ?_
  show low 60 :: low c :: lowerL (q.take 7) ≠ _
  intro e
  rw [List.cons.injEq, List.cons.injEq] at e
  exact h e.2.1
theorem pre_no (a c : UInt8) (q t : List UInt8) (h : ¬ a = c) : (60 :: a :: t : List UInt8).isPrefixOf (60 :: c :: q) = false := by
  simp [List.isPrefixOf, h]
theorem letter_not (c : UInt8) (h : letterN c.toNat = true) : c ≠ 47 ∧ c ≠ 33 ∧ c ≠ 63 ∧ c ≠ 62 ∧ c ≠ 45 ∧ c ≠ 91 := by
  refine ⟨?_, ?_, ?_, ?_, ?_, ?_⟩ <;> (intro e; subst e; exact absurd h (by decide))

theorem dataL_P (f : Bool) (r : List UInt8) (h : r ≠ []) : dataL f r = if (dataP f r).1.kind = 0 then dataL f (dataP f r).2 else dataP f r := by
  cases hb : beginsB r with
  | false =>
    rw [data_text f r h hb]
    unfold dataP
    rw [if_pos hb]
    rfl
  | true =>
    obtain ⟨c, q, rfl, hc⟩ := begins_form r hb
    rcases hc with hl | rfl | rfl | ⟨rfl, hq⟩
    · obtain ⟨n47, n33, n63, _⟩ := letter_not c hl
      have e1 : ∀ (a : UInt8) t, c ≠ a → (60 :: a :: t : List UInt8).isPrefixOf (60 :: c :: q) = false := fun a t ha => pre_no a c q t (fun e => ha e.symm)
      rw [data_tag f _ h hb (e1 47 [62] n47) (e1 47 [] n47) (e1 33 [45, 45] n33) (by rw [show cdataM = 60 :: 33 :: [91, 67, 68, 65, 84, 65, 91] from rfl, e1 33 _ n33, Bool.and_false]) (e1 33 [] n33) (e1 63 [] n63)]
      have hP : dataP f (60 :: c :: q) = endedL ((60 :: c :: q).drop 1) false := by
        unfold dataP
        rw [if_neg (by rw [hb]; decide), if_pos (show letterN ((60 :: c :: q : List UInt8).getD 1 0).toNat = true from hl)]
      rw [hP]
      exact (ended_fix f _ false).symm
    · -- <!
      have n47 : ∀ t, (60 :: 47 :: t : List UInt8).isPrefixOf (60 :: 33 :: q) = false := fun t => pre_no 47 33 q t (by decide)
      have hl1 : ¬ letterN ((60 :: 33 :: q : List UInt8).getD 1 0).toNat = true := by show ¬ letterN (33 : UInt8).toNat = true; decide
      have hl2 : ¬ ((60 :: 33 :: q : List UInt8).getD 1 0 == 47 && letterN ((60 :: 33 :: q : List UInt8).getD 2 0).toNat) = true := by
        rw [show ((60 :: 33 :: q : List UInt8).getD 1 0 == 47) = false from rfl, Bool.false_and]; decide
      cases h4 : ([60, 33, 45, 45] : List UInt8).isPrefixOf (60 :: 33 :: q) with
      | true =>
        have hP : dataP f (60 :: 33 :: q) = commentL ((60 :: 33 :: q).drop 4) := by
          unfold dataP
          rw [if_neg (by rw [hb]; decide), if_neg hl1, if_neg hl2, if_neg (by rw [n47]; decide), if_pos h4]
        rw [hP, data_comment f _ h hb (n47 [62]) (n47 []) h4]
        exact (comment_fix f _).symm
      | false =>
        cases hcd : (f && cdataM.isPrefixOf (60 :: 33 :: q)) with
        | true =>
          rw [Bool.and_eq_true] at hcd
          obtain ⟨hf, hcd⟩ := hcd
          subst hf
          have hlk : likeB doctypeF (60 :: 33 :: q) = false := by
            cases hk : likeB doctypeF (60 :: 33 :: q) with
            | false => rfl
            | true =>
              have h7 := ((like_doctype q).1 hk).2
              obtain ⟨q2, hq2⟩ := List.isPrefixOf_iff_prefix.1 hcd
              have hq3 : q = 91 :: 67 :: 68 :: 65 :: 84 :: 65 :: 91 :: q2 := by
                unfold cdataM at hq2
                simp only [List.cons_append, List.nil_append, List.cons.injEq, true_and] at hq2
                exact hq2.symm
              rw [hq3] at h7
              exact absurd h7 (by
                unfold doctypeM
                show low 91 :: _ ≠ _
                intro e
                rw [List.cons.injEq] at e
                exact absurd e.1 (by decide))
          have hP : dataP true (60 :: 33 :: q) = cdataT ((60 :: 33 :: q).drop 9) := by
            unfold dataP
            rw [if_neg (by rw [hb]; decide), if_neg hl1, if_neg hl2, if_neg (by rw [n47]; decide), if_neg (by rw [h4]; decide), if_neg (by rw [hlk]; decide), if_pos (by rw [hcd]; rfl)]
          rw [hP, data_cdata _ h hb (n47 [62]) (n47 []) h4 hcd]
          unfold cdataT
          generalize findR [93, 93, 62] ((60 :: 33 :: q : List UInt8).drop 9) = F
          by_cases hF : F.1 = []
          · rw [if_pos hF, if_pos hF]; rfl
          · rw [if_neg hF, if_neg hF]; rfl
        | false =>
          have h33 : ([60, 33] : List UInt8).isPrefixOf (60 :: 33 :: q) = true := by simp [List.isPrefixOf]
          rw [data_bang f _ h hb (n47 [62]) (n47 []) h4 hcd h33]
          cases hk : likeB doctypeF (60 :: 33 :: q) with
          | true =>
            have hP : dataP f (60 :: 33 :: q) = ({ kind := 5 }, (findR [62] (60 :: 33 :: q)).2.drop 1) := by
              unfold dataP
              rw [if_neg (by rw [hb]; decide), if_neg hl1, if_neg hl2, if_neg (by rw [n47]; decide), if_neg (by rw [h4]; decide), if_pos hk]
            rw [hP, if_pos ((like_doctype q).1 hk), doctype_rest q hk]
            rfl
          | false =>
            have hP : dataP f (60 :: 33 :: q) = otherL ((60 :: 33 :: q).drop 2) := by
              unfold dataP
              rw [if_neg (by rw [hb]; decide), if_neg hl1, if_neg hl2, if_neg (by rw [n47]; decide), if_neg (by rw [h4]; decide), if_neg (by rw [hk]; decide), if_neg (by rw [hcd]; decide)]
              unfold oddR
              rw [if_pos h33]
            rw [hP, if_neg (fun hh => by rw [(like_doctype q).2 hh] at hk; cases hk)]
            rfl
    · -- <?
      have no : ∀ (a : UInt8) t, a ≠ 63 → (60 :: a :: t : List UInt8).isPrefixOf (60 :: 63 :: q) = false := fun a t ha => pre_no a 63 q t ha
      have hl1 : ¬ letterN ((60 :: 63 :: q : List UInt8).getD 1 0).toNat = true := by show ¬ letterN (63 : UInt8).toNat = true; decide
      have hl2 : ¬ ((60 :: 63 :: q : List UInt8).getD 1 0 == 47 && letterN ((60 :: 63 :: q : List UInt8).getD 2 0).toNat) = true := by
        rw [show ((60 :: 63 :: q : List UInt8).getD 1 0 == 47) = false from rfl, Bool.false_and]; decide
      have hcd : (f && cdataM.isPrefixOf (60 :: 63 :: q)) = false := by rw [show cdataM = 60 :: 33 :: [91, 67, 68, 65, 84, 65, 91] from rfl, no 33 _ (by decide), Bool.and_false]
      have hlk := like_no 63 q (by decide)
      have hP : dataP f (60 :: 63 :: q) = otherL ((60 :: 63 :: q).drop 1) := by
        unfold dataP
        rw [if_neg (by rw [hb]; decide), if_neg hl1, if_neg hl2, if_neg (by rw [no 47 _ (by decide)]; decide), if_neg (by rw [no 33 _ (by decide)]; decide), if_neg (by rw [hlk]; decide), if_neg (by rw [hcd]; decide)]
        unfold oddR
        rw [if_neg (by rw [no 33 _ (by decide)]; decide), if_neg (by rw [no 47 _ (by decide)]; decide), if_pos (by simp [List.isPrefixOf])]
      rw [hP, data_ask f _ h hb (no 47 _ (by decide)) (no 47 _ (by decide)) (no 33 _ (by decide)) hcd (no 33 _ (by decide)) (by simp [List.isPrefixOf])]
      rfl
    · -- </
      have no : ∀ (a : UInt8) t, a ≠ 47 → (60 :: a :: t : List UInt8).isPrefixOf (60 :: 47 :: q) = false := fun a t ha => pre_no a 47 q t ha
      have h47 : ([60, 47] : List UInt8).isPrefixOf (60 :: 47 :: q) = true := by simp [List.isPrefixOf]
      have hl1 : ¬ letterN ((60 :: 47 :: q : List UInt8).getD 1 0).toNat = true := by show ¬ letterN (47 : UInt8).toNat = true; decide
      have hl2 : ((60 :: 47 :: q : List UInt8).getD 1 0 == 47 && letterN ((60 :: 47 :: q : List UInt8).getD 2 0).toNat) = letterN ((60 :: 47 :: q : List UInt8).getD 2 0).toNat := by
        rw [show ((60 :: 47 :: q : List UInt8).getD 1 0 == 47) = true from rfl, Bool.true_and]
      cases q with
      | nil => exact absurd rfl hq
      | cons d q =>
        cases hlt : letterN ((60 :: 47 :: d :: q : List UInt8).getD 2 0).toNat with
        | true =>
          have hd : letterN d.toNat = true := hlt
          have h62 : ([60, 47, 62] : List UInt8).isPrefixOf (60 :: 47 :: d :: q) = false := by
            have := (letter_not d hd).2.2.2.1
            have e : ¬ (62 : UInt8) = d := fun e => this e.symm
            simp [List.isPrefixOf, e]
          have hP : dataP f (60 :: 47 :: d :: q) = endedL ((60 :: 47 :: d :: q).drop 2) true := by
            unfold dataP
            rw [if_neg (by rw [hb]; decide), if_neg hl1, if_pos (by rw [hl2]; exact hlt)]
          rw [hP, data_end f _ h hb h62 h47, if_pos hlt]
          exact (ended_fix f _ true).symm
        | false =>
          have hlk := like_no 47 (d :: q) (by decide)
          cases h62 : ([60, 47, 62] : List UInt8).isPrefixOf (60 :: 47 :: d :: q) with
          | true =>
            have hP : dataP f (60 :: 47 :: d :: q) = ({ kind := 0 }, (60 :: 47 :: d :: q).drop 3) := by
              unfold dataP
              rw [if_neg (by rw [hb]; decide), if_neg hl1, if_neg (by rw [hl2, hlt]; decide), if_pos h62]
            rw [hP, data_skip f _ h hb h62]
            rfl
          | false =>
            have hcd : (f && cdataM.isPrefixOf (60 :: 47 :: d :: q)) = false := by rw [show cdataM = 60 :: 33 :: [91, 67, 68, 65, 84, 65, 91] from rfl, no 33 _ (by decide), Bool.and_false]
            have hP : dataP f (60 :: 47 :: d :: q) = otherL ((60 :: 47 :: d :: q).drop 2) := by
              unfold dataP
              rw [if_neg (by rw [hb]; decide), if_neg hl1, if_neg (by rw [hl2, hlt]; decide), if_neg (by rw [h62]; decide), if_neg (by rw [no 33 _ (by decide)]; decide), if_neg (by rw [hlk]; decide), if_neg (by rw [hcd]; decide)]
              unfold oddR
              rw [if_neg (by rw [no 33 _ (by decide)]; decide), if_pos h47]
            rw [hP, data_end f _ h hb h62 h47, if_neg (by rw [hlt]; decide)]
            rfl
theorem dataP_short (f : Bool) (r : List UInt8) (h : r ≠ []) : (dataP f r).2.length < r.length := by
  have hl : 1 ≤ r.length := by
    cases r with
    | nil => exact absurd rfl h
    | cons c q => simp
  have hE : ∀ k b, 1 ≤ k → (endedL (r.drop k) b).2.length < r.length := fun k b hk => by
    have := (endedL_sfx (r.drop k) b).length_le
    rw [List.length_drop] at this
    omega
  have hF : ∀ t x : List UInt8, (findR t x).2.length ≤ x.length := fun t x => findR_le t x
  unfold dataP
  split
  · rename_i hb
    exact short_of (spanT_app r) (spanT_ne r h hb)
  · split
    · exact hE 1 _ (by omega)
    · split
      · exact hE 2 _ (by omega)
      · split
        · show (r.drop 3).length < _
          rw [List.length_drop]; omega
        · split
          · have := (commentL_sfx (r.drop 4)).length_le
            rw [List.length_drop] at this
            omega
          · split
            · have := hF [62] r
              show ((findR [62] r).2.drop 1).length < _
              rw [List.length_drop]; omega
            · split
              · have := hF [93, 93, 62] (r.drop 9)
                rw [List.length_drop] at this
                show ((findR [93, 93, 62] (r.drop 9)).2.drop 3).length < _
                rw [List.length_drop]; omega
              · have h1 := hF [62] (oddR r)
                have h2 : (oddR r).length ≤ r.length := by
                  unfold oddR
                  split
                  · rw [List.length_drop]; omega
                  · split
                    · rw [List.length_drop]; omega
                    · split
                      · rw [List.length_drop]; omega
                      · omega
                show ((findR [62] (oddR r)).2.drop 1).length < _
                rw [List.length_drop]; omega
end Go.Proofs.YtlfjmgniflkapaaDoor
