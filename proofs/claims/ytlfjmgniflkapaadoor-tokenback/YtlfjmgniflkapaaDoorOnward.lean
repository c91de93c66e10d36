/- Onwards, over lists of bytes: what is left behind a token is shorter, and what a token may be. No program in it. -/
import Derived.Test.YtlfjmgniflkapaaDoorProm
set_option linter.unusedVariables false
set_option linter.unusedSimpArgs false
namespace Go.Proofs.YtlfjmgniflkapaaDoor

theorem decL_ne (attr : Bool) (l : List UInt8) (h : l ≠ []) : decL attr l ≠ [] := by
  cases l with
  | nil => exact absurd rfl h
  | cons c r =>
    by_cases hc : c = 38
    · subst hc
      rw [decL_amp]
      have := (refL_bd attr r).2.2
      cases hq : (refL attr r).1 with
      | nil => exact absurd hq this
      | cons a b => simp
    · rw [decL_other _ _ _ hc]; simp
theorem spanT_app : ∀ r, (spanT r).1 ++ (spanT r).2 = r
  | [] => rfl
  | c :: r => by
    simp only [spanT]
    split
    · rfl
    · simp [spanT_app r]
theorem spanT_ne (r : List UInt8) (h : r ≠ []) (hb : beginsB r = false) : (spanT r).1 ≠ [] := by
  cases r with
  | nil => exact absurd rfl h
  | cons c q => simp only [spanT]; rw [hb]; simp
theorem spanS_app (n : List UInt8) : ∀ r, (spanS n r).1 ++ (spanS n r).2 = r
  | [] => rfl
  | c :: r => by
    simp only [spanS]
    split
    · rfl
    · simp [spanS_app n r]
theorem spanS_ne (n r : List UInt8) (h : r ≠ []) (hb : stopB n r = false) : (spanS n r).1 ≠ [] := by
  cases r with
  | nil => exact absurd rfl h
  | cons c q => rw [spanS_cons, hb]; simp
theorem short_of {a b r : List UInt8} (h : a ++ b = r) (ha : a ≠ []) : b.length < r.length := by
  rw [← h, List.length_append]
  have := List.length_pos_iff.2 ha
  omega

def namesA (as : List (List UInt8 × List UInt8)) : List (List UInt8) := as.map (·.1)
theorem getA_none (as : List (List UInt8 × List UInt8)) (n : List UInt8) (h : (getA as n).isSome = false) : n ∉ namesA as := by
  intro hm
  obtain ⟨a, ha, rfl⟩ := List.mem_map.1 hm
  unfold getA at h
  cases hf : as.find? (fun x => x.1 == a.1) with
  | none =>
    have := List.find?_eq_none.1 hf a ha
    simp at this
  | some x => rw [hf] at h; simp at h
theorem addA_nodup (as : List (List UInt8 × List UInt8)) (a : List UInt8 × List UInt8) (h : (namesA as).Nodup) : (namesA (addA as a)).Nodup := by
  unfold addA
  cases hg : (getA as a.1).isSome
  · rw [if_neg (by decide)]
    unfold namesA
    rw [List.map_append]
    refine List.nodup_append.2 ⟨h, by simp, ?_⟩
    intro x hx y hy
    simp at hy
    subst hy
    rintro rfl
    exact getA_none as a.1 hg hx
  · rw [if_pos rfl]; exact h
theorem loopT_nodup (k : Nat) : ∀ as r x, (namesA as).Nodup → loopT k as r = some x → (namesA x.1).Nodup := by
  induction k with
  | zero => intro as r x _ h; simp [loopT] at h
  | succ k ih =>
    intro as r x hn h
    simp only [loopT] at h
    cases hd : r.dropWhile passB with
    | nil => rw [hd] at h; simp at h
    | cons c r2 =>
      rw [hd] at h
      simp only at h
      split at h
      · cases h; exact hn
      · cases hr : (r2.dropWhile attrB).dropWhile isSp with
        | nil => rw [hr] at h; exact ih _ _ _ (addA_nodup _ _ hn) h
        | cons d r4 =>
          rw [hr] at h
          simp only at h
          split at h
          · exact ih _ _ _ (addA_nodup _ _ hn) h
          · exact ih _ _ _ (addA_nodup _ _ hn) h
theorem tagL_what (r : List UInt8) (t : Tok) (q : List UInt8) (h : tagL r = some (t, q)) : t.kind = 2 ∧ t.name = lowerL (r.takeWhile nameB) ∧ (namesA t.attrs).Nodup := by
  unfold tagL at h
  cases hl : loopT (r.length + 1) [] (r.dropWhile nameB) with
  | none => rw [hl] at h; simp at h
  | some x =>
    rw [hl] at h
    simp only [Option.map_some, Option.some.injEq, Prod.mk.injEq] at h
    have := loopT_nodup _ _ _ _ (by simp [namesA]) hl
    rw [← h.1]
    exact ⟨rfl, rfl, this⟩

/-- What holds of every token and of what is left behind it. -/
structure Good (r : List UInt8) (x : Tok × List UInt8) : Prop where
  short : x.2.length < r.length
  none : x.1.kind = 0 → x.2 = []
  text : x.1.kind = 1 → x.1.text ≠ []
  name : x.1.kind = 2 → ∃ c n, x.1.name = c :: n ∧ smallC c = true
  once : (namesA x.1.attrs).Nodup
  bare : x.1.kind ≠ 2 → x.1.attrs = [] ∧ x.1.closed = false

theorem good_plain (r q : List UInt8) (k : Nat) (n t : List UInt8) (hk : k = 3 ∨ k = 4 ∨ k = 5) (h : q.length < r.length) : Good r ({ kind := k, name := n, text := t }, q) :=
  ⟨h, fun e => by simp at e; omega, fun e => by simp at e; omega, fun e => by simp at e; omega, by simp [namesA], fun _ => ⟨rfl, rfl⟩⟩
theorem good_text (r q t : List UInt8) (ht : t ≠ []) (h : q.length < r.length) : Good r ({ kind := 1, text := t }, q) :=
  ⟨h, fun e => by simp at e, fun _ => ht, fun e => by simp at e, by simp [namesA], fun _ => ⟨rfl, rfl⟩⟩
theorem good_none (r : List UInt8) (h : r ≠ []) : Good r ({ kind := 0 }, []) :=
  ⟨List.length_pos_iff.2 h, fun _ => rfl, fun e => by simp at e, fun e => by simp at e, by simp [namesA], fun _ => ⟨rfl, rfl⟩⟩
theorem Good.wider {r r' : List UInt8} {x : Tok × List UInt8} (h : Good r x) (hl : r.length ≤ r'.length) : Good r' x := ⟨Nat.lt_of_lt_of_le h.short hl, h.none, h.text, h.name, h.once, h.bare⟩
theorem ended_stop (r0 r : List UInt8) (h0 : r0 ≠ []) (hl : r.length ≤ r0.length) : Good r0 (endedL r true) := by
  unfold endedL
  cases h : tagL r with
  | none => exact good_none r0 h0
  | some x =>
    obtain ⟨t, q⟩ := x
    have := tagL_le r t q h
    exact good_plain r0 q 3 t.name [] (.inl rfl) (by omega)
theorem low_letter (c : UInt8) (h : letterN c.toNat = true) : smallC (low c) = true ∧ nameB c = true := by
  simp [letterN, greatN] at h
  constructor
  · unfold low
    split
    · rename_i hg
      simp [greatN] at hg
      have e : (c + 32).toNat = c.toNat + 32 := by
        rw [UInt8.toNat_add]
        show (c.toNat + 32) % 256 = _
        omega
      simp [smallC, e]; omega
    · rename_i hg
      simp [greatN] at hg
      simp [smallC]; omega
  · have e47 : c ≠ 47 := by rintro rfl; simp at h
    have e62 : c ≠ 62 := by rintro rfl; simp at h
    have hs : isSp c = false := by simp [isSp, spaceN]; omega
    simp [nameB, hs, e47, e62]
theorem ended_start (r0 : List UInt8) (c : UInt8) (q : List UInt8) (h0 : r0 ≠ []) (hl : q.length + 1 ≤ r0.length) (hc : letterN c.toNat = true) : Good r0 (endedL (c :: q) false) := by
  unfold endedL
  cases h : tagL (c :: q) with
  | none => exact good_none r0 h0
  | some x =>
    obtain ⟨t, q2⟩ := x
    have h1 := tagL_le _ t q2 h
    obtain ⟨k1, k2, k3⟩ := tagL_what _ t q2 h
    simp only [List.length_cons] at h1
    refine ⟨by show q2.length < _; omega, fun e => ?_, fun e => ?_, fun _ => ?_, k3, fun e => absurd k1 e⟩
    · have : t.kind = 0 := e
      omega
    · have : t.kind = 1 := e
      omega
    · refine ⟨low c, lowerL (q.takeWhile nameB), ?_, (low_letter c hc).1⟩
      show t.name = _
      rw [k2, List.takeWhile_cons, (low_letter c hc).2]
      rfl
theorem other_good (r0 r : List UInt8) (hl : r.length < r0.length) : Good r0 (otherL r) := by
  have := findR_le [62] r
  unfold otherL
  exact good_plain r0 _ 4 [] _ (.inr (.inl rfl)) (by rw [List.length_drop]; omega)
theorem findC_le : ∀ r a b, findC r = some (a, b) → b.length ≤ r.length
  | [], a, b, h => by simp [findC] at h
  | c :: r, a, b, h => by
    rw [findC_cons] at h
    split at h
    · cases h; rw [List.length_drop]; omega
    · split at h
      · cases h; rw [List.length_drop]; omega
      · cases hf : findC r with
        | none => rw [hf] at h; simp at h
        | some x =>
          rw [hf] at h
          simp only [Option.map_some, Option.some.injEq, Prod.mk.injEq] at h
          have := findC_le r x.1 x.2 hf
          rw [← h.2]
          simp
          omega
theorem comment_good (r0 r : List UInt8) (hl : r.length < r0.length) : Good r0 (commentL r) := by
  unfold commentL
  split
  · exact good_plain r0 _ 4 [] [] (.inr (.inl rfl)) (by rw [List.length_drop]; omega)
  · split
    · exact good_plain r0 _ 4 [] [] (.inr (.inl rfl)) (by rw [List.length_drop]; omega)
    · cases h : findC r with
      | none => exact good_plain r0 [] 4 [] _ (.inr (.inl rfl)) (by simp; omega)
      | some x =>
        have := findC_le r x.1 x.2 h
        exact good_plain r0 _ 4 [] _ (.inr (.inl rfl)) (by omega)
theorem begins_form (r : List UInt8) (h : beginsB r = true) : ∃ c q, r = 60 :: c :: q ∧ (letterN c.toNat = true ∨ c = 33 ∨ c = 63 ∨ (c = 47 ∧ q ≠ [])) := by
  match r, h with
  | [], h => simp [beginsB] at h
  | [a], h => simp [beginsB] at h
  | a :: c :: q, h =>
    simp [beginsB] at h
    obtain ⟨rfl, h⟩ := h
    refine ⟨c, q, rfl, ?_⟩
    rcases h with ((h | h) | h) | h
    · exact .inl h
    · exact .inr (.inl h)
    · exact .inr (.inr (.inl h))
    · exact .inr (.inr (.inr h))
theorem dataK_nil (foreign : Bool) (k : Nat) : dataK foreign k [] = ({ kind := 0 }, []) := by
  cases k <;> simp [dataK]
theorem dataK_good (foreign : Bool) (k : Nat) : ∀ r, r ≠ [] → r.length ≤ k → Good r (dataK foreign k r) := by
  induction k with
  | zero =>
    intro r h hl
    exact absurd (List.eq_nil_of_length_eq_zero (by omega)) h
  | succ k ih =>
    intro r h0 hl
    have again : ∀ q, q.length < r.length → Good r (dataK foreign k q) := by
      intro q hq
      by_cases hn : q = []
      · rw [hn, dataK_nil]; exact good_none r h0
      · exact (ih q hn (by omega)).wider (by omega)
    have hp := List.length_pos_iff.2 h0
    rw [dataK, if_neg h0]
    by_cases hb : beginsB r = false
    · rw [if_pos hb]
      exact good_text r _ _ (decL_ne _ _ (spanT_ne r h0 hb)) (short_of (spanT_app r) (spanT_ne r h0 hb))
    · rw [if_neg hb]
      obtain ⟨c, q, rfl, hc⟩ := begins_form r (by simpa using hb)
      split
      · exact again _ (by rw [List.length_drop]; simp only [List.length_cons]; omega)
      · rename_i n3
        split
        · split
          · exact ended_stop _ _ h0 (by rw [List.length_drop]; omega)
          · exact other_good _ _ (by rw [List.length_drop]; simp only [List.length_cons]; omega)
        · rename_i n2
          split
          · exact comment_good _ _ (by rw [List.length_drop]; simp only [List.length_cons]; omega)
          · split
            · have hf := findR_le [93, 93, 62] ((60 :: c :: q).drop 9)
              rw [List.length_drop] at hf
              simp only [List.length_cons] at hf
              split
              · exact again _ (by rw [List.length_drop]; simp only [List.length_cons]; omega)
              · rename_i ht
                exact good_text _ _ _ ht (by rw [List.length_drop]; simp only [List.length_cons]; omega)
            · split
              · split
                · have hf := findR_le [62] ((60 :: c :: q).drop 9)
                  rw [List.length_drop] at hf
                  simp only [List.length_cons] at hf
                  exact good_plain _ _ 5 [] [] (.inr (.inr rfl)) (by show ((findR [62] _).2.drop 1).length < _; rw [List.length_drop]; simp only [List.length_cons]; omega)
                · exact other_good _ _ (by rw [List.length_drop]; simp only [List.length_cons]; omega)
              · rename_i n33
                split
                · exact other_good _ _ (by rw [List.length_drop]; simp only [List.length_cons]; omega)
                · rename_i n63
                  refine ended_start _ c q h0 (by simp) ?_
                  rcases hc with hc | rfl | rfl | ⟨rfl, hq⟩
                  · exact hc
                  · exact absurd (by simp [List.isPrefixOf]) n33
                  · exact absurd (by simp [List.isPrefixOf]) n63
                  · exact absurd (by simp [List.isPrefixOf]) n2
theorem next_good (mode : Int) (name : List UInt8) (foreign : Bool) (r : List UInt8) (h0 : r ≠ []) : Good r (nextR mode name foreign r) := by
  have hp := List.length_pos_iff.2 h0
  unfold nextR
  rw [if_neg h0]
  split
  · exact good_text r [] r h0 (by simpa using hp)
  · split
    · exact dataK_good foreign r.length r h0 (Nat.le_refl _)
    · split
      · exact ended_stop r _ h0 (by rw [List.length_drop]; omega)
      · rename_i hs
        have hs2 : stopB name r = false := by simpa using hs
        have hn := spanS_ne name r h0 hs2
        refine good_text r _ _ ?_ (short_of (spanS_app name r) hn)
        split
        · exact decL_ne _ _ hn
        · exact hn
end Go.Proofs.YtlfjmgniflkapaaDoor
