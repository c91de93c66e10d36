/- A text's pieces one behind the other, over lists of bytes: what Decode, Valid, Count, Lines and Text come to, and what the promises ask of them. No program in it. -/
import Derived.Test.YthagloigihpfdabDoorPlain
import Derived.Lib.Strings
set_option linter.unusedVariables false
set_option linter.unusedSimpArgs false
namespace Go.Proofs.YthagloigihpfdabDoor

def piecesF : Nat → List UInt8 → List (List UInt8 × Bool)
  | 0, _ => []
  | f + 1, l => if l = [] then [] else (l.take (pieceL l), goodL l) :: piecesF f (l.drop (pieceL l))
def pieces (l : List UInt8) : List (List UInt8 × Bool) := piecesF l.length l

theorem piecesF_eq (f : Nat) : ∀ (g : Nat) (l : List UInt8), l.length ≤ f → l.length ≤ g → piecesF f l = piecesF g l := by
  induction f with
  | zero =>
    intro g l hf hg
    have : l = [] := List.eq_nil_of_length_eq_zero (by omega)
    subst this
    cases g <;> simp [piecesF]
  | succ f ih =>
    intro g l hf hg
    cases g with
    | zero =>
      have : l = [] := List.eq_nil_of_length_eq_zero (by omega)
      subst this
      simp [piecesF]
    | succ g =>
      simp only [piecesF]
      by_cases hl : l = []
      · simp [hl]
      · have hp := pieceL_bd l hl
        simp only [if_neg hl]
        rw [ih g (l.drop (pieceL l)) (by simp; omega) (by simp; omega)]

theorem pieces_nil : pieces [] = [] := rfl
theorem pieces_step (l : List UInt8) (h : l ≠ []) : pieces l = (l.take (pieceL l), goodL l) :: pieces (l.drop (pieceL l)) := by
  have hp := pieceL_bd l h
  unfold pieces
  cases hl : l.length with
  | zero => exact absurd (List.eq_nil_of_length_eq_zero hl) h
  | succ n =>
    simp only [piecesF, if_neg h]
    rw [piecesF_eq n (l.drop (pieceL l)).length (l.drop (pieceL l)) (by simp; omega) (Nat.le_refl _)]

/-- The replacement's bytes. -/
def badB : List UInt8 := [239, 191, 189]
def repl (p : List UInt8 × Bool) : List UInt8 := if p.2 = true then p.1 else badB
def decL (l : List UInt8) : List UInt8 := (pieces l).flatMap repl
def validL (l : List UInt8) : Bool := (pieces l).all (·.2)
def countL (l : List UInt8) : Nat := (pieces l).length
def markB : List UInt8 := [239, 187, 191]
def markedL (l : List UInt8) : Bool := Lib.hasPrefix l markB
def stripL (l : List UInt8) : List UInt8 := if markedL l = true then l.drop 3 else l
def DecL (l : List UInt8) : List UInt8 := decL (stripL l)

theorem decL_nil : decL [] = [] := rfl
theorem validL_nil : validL [] = true := rfl
theorem countL_nil : countL [] = 0 := rfl
theorem decL_step (l : List UInt8) (h : l ≠ []) : decL l = (if goodL l = true then l.take (pieceL l) else badB) ++ decL (l.drop (pieceL l)) := by
  unfold decL
  rw [pieces_step l h]
  rfl
theorem decL_good (l : List UInt8) (h : l ≠ []) (hg : goodL l = true) : decL l = l.take (pieceL l) ++ decL (l.drop (pieceL l)) := by
  rw [decL_step l h, if_pos hg]
theorem decL_bad (l : List UInt8) (h : l ≠ []) (hg : goodL l = false) : decL l = badB ++ decL (l.drop (pieceL l)) := by
  rw [decL_step l h, if_neg (by rw [hg]; exact Bool.false_ne_true)]
theorem validL_step (l : List UInt8) (h : l ≠ []) : validL l = (goodL l && validL (l.drop (pieceL l))) := by
  unfold validL
  rw [pieces_step l h]
  rfl
theorem countL_step (l : List UInt8) (h : l ≠ []) : countL l = countL (l.drop (pieceL l)) + 1 := by
  unfold countL
  rw [pieces_step l h]
  rfl

/-! ### good pieces, put together -/

theorem runL_app (k lo hi : Nat) (r x : List UInt8) (h : runL k lo hi r = k) : runL k lo hi (r ++ x) = k := by
  induction k generalizing lo hi r with
  | zero => rfl
  | succ k ih =>
    obtain ⟨c, r', rfl, h1, h2, h3⟩ := runL_full k lo hi r h
    rw [List.cons_append]
    exact runL_mk k lo hi c (r' ++ x) ⟨h1, h2⟩ (ih 128 191 r' h3)

theorem good_piece (b : UInt8) (r : List UInt8) (h : goodL (b :: r) = true) : runL (need b.toNat) (secLo b.toNat) (secHi b.toNat) r = need b.toNat := by
  simp only [goodL, Bool.or_eq_true, Bool.and_eq_true, decide_eq_true_eq] at h
  rcases h with h | h
  · have : need b.toNat = 0 := by unfold need; rw [if_pos (by omega)]
    rw [this]; rfl
  · exact h.2

theorem good_app (p x : List UInt8) (h : goodL p = true) : goodL (p ++ x) = true ∧ pieceL (p ++ x) = pieceL p := by
  cases p with
  | nil => simp [goodL] at h
  | cons b r =>
    have h1 := good_piece b r h
    have h2 := runL_app _ _ _ r x h1
    constructor
    · simp only [goodL, List.cons_append, Bool.or_eq_true, Bool.and_eq_true, decide_eq_true_eq] at h ⊢
      rcases h with h | h
      · exact .inl h
      · exact .inr ⟨h.1, h2⟩
    · simp only [List.cons_append, pieceL, h1, h2]

/-- A list that is one good piece. -/
def Whole (p : List UInt8) : Prop := goodL p = true ∧ pieceL p = p.length

theorem Whole.ne {p : List UInt8} (h : Whole p) : p ≠ [] := by
  intro e; subst e; simp [Whole, goodL] at h

theorem pieces_whole (p x : List UInt8) (h : Whole p) : pieces (p ++ x) = (p, true) :: pieces x := by
  obtain ⟨g1, g2⟩ := good_app p x h.1
  rw [pieces_step _ (by simp [h.ne]), g1, g2, h.2]
  simp

theorem decL_whole (p x : List UInt8) (h : Whole p) : decL (p ++ x) = p ++ decL x := by
  unfold decL; rw [pieces_whole p x h]; rfl
theorem validL_whole (p x : List UInt8) (h : Whole p) : validL (p ++ x) = validL x := by
  unfold validL; rw [pieces_whole p x h]; simp
theorem countL_whole (p x : List UInt8) (h : Whole p) : countL (p ++ x) = countL x + 1 := by
  unfold countL; rw [pieces_whole p x h]; rfl

theorem badB_whole : Whole badB := by
  unfold Whole badB
  exact ⟨by decide, by decide⟩

/-- The first piece of a list, if good, is one good piece by itself. -/
theorem runL_take (k lo hi : Nat) (r : List UInt8) (h : runL k lo hi r = k) : runL k lo hi (r.take k) = k := by
  induction k generalizing lo hi r with
  | zero => rfl
  | succ k ih =>
    obtain ⟨c, r', rfl, h1, h2, h3⟩ := runL_full k lo hi r h
    rw [List.take_succ_cons]
    exact runL_mk k lo hi c _ ⟨h1, h2⟩ (ih 128 191 r' h3)

theorem whole_take (l : List UInt8) (h : goodL l = true) : Whole (l.take (pieceL l)) := by
  cases l with
  | nil => simp [goodL] at h
  | cons b r =>
    have h1 := good_piece b r h
    have h2 := runL_take _ _ _ r h1
    have h3 := runL_le (need b.toNat) (secLo b.toNat) (secHi b.toNat) r
    have hp : pieceL (b :: r) = need b.toNat + 1 := by simp only [pieceL, h1]; omega
    rw [hp, List.take_succ_cons]
    constructor
    · simp only [goodL, Bool.or_eq_true, Bool.and_eq_true, decide_eq_true_eq] at h ⊢
      rcases h with h | h
      · exact .inl h
      · exact .inr ⟨h.1, h2⟩
    · simp only [pieceL, h2, List.length_cons, List.length_take]
      omega

/-- Induction over a text's pieces. -/
theorem pieces_ind {P : List UInt8 → Prop} (h0 : P []) (hs : ∀ l, l ≠ [] → P (l.drop (pieceL l)) → P l) (l : List UInt8) : P l := by
  suffices H : ∀ n (l : List UInt8), l.length ≤ n → P l from H l.length l (Nat.le_refl _)
  intro n
  induction n with
  | zero =>
    intro l hl
    have e : l = [] := List.eq_nil_of_length_eq_zero (by omega)
    rw [e]; exact h0
  | succ n ih =>
    intro l hl
    by_cases h : l = []
    · rw [h]; exact h0
    · have hp := pieceL_bd l h
      exact hs l h (ih _ (by simp; omega))

/-- What a piece is written as is one good piece. -/
theorem repl_whole (l : List UInt8) : Whole (if goodL l = true then l.take (pieceL l) else badB) := by
  by_cases h : goodL l = true
  · rw [if_pos h]; exact whole_take l h
  · rw [if_neg h]; exact badB_whole

theorem decL_valid (l : List UInt8) : validL (decL l) = true := by
  refine pieces_ind (P := fun l => validL (decL l) = true) rfl ?_ l
  intro l h ih
  rw [decL_step l h, validL_whole _ _ (repl_whole l)]
  exact ih
theorem decL_count (l : List UInt8) : countL (decL l) = countL l := by
  refine pieces_ind (P := fun l => countL (decL l) = countL l) rfl ?_ l
  intro l h ih
  rw [decL_step l h, countL_whole _ _ (repl_whole l), countL_step l h, ih]

theorem valid_parts (l : List UInt8) (h : l ≠ []) (hv : validL l = true) : goodL l = true ∧ validL (l.drop (pieceL l)) = true := by
  rw [validL_step l h] at hv
  simpa using hv

theorem decL_id (l : List UInt8) (hv : validL l = true) : decL l = l := by
  revert hv
  refine pieces_ind (P := fun l => validL l = true → decL l = l) (fun _ => rfl) ?_ l
  intro l h ih hv
  obtain ⟨h1, h2⟩ := valid_parts l h hv
  rw [decL_good l h h1, ih h2, List.take_append_drop]

theorem decL_eq_iff (l : List UInt8) : decL l = l ↔ validL l = true :=
  ⟨fun h => by rw [← h]; exact decL_valid l, decL_id l⟩

theorem decL_app (a b : List UInt8) (hv : validL a = true) : decL (a ++ b) = a ++ decL b := by
  revert hv
  refine pieces_ind (P := fun a => validL a = true → decL (a ++ b) = a ++ decL b) (fun _ => rfl) ?_ a
  intro l h ih hv
  obtain ⟨h1, h2⟩ := valid_parts l h hv
  have e : l ++ b = l.take (pieceL l) ++ (l.drop (pieceL l) ++ b) := by rw [← List.append_assoc, List.take_append_drop]
  rw [e, decL_whole _ _ (whole_take l h1), ih h2, ← List.append_assoc, List.take_append_drop]

/-! ### lines -/

def linesL : List UInt8 → List UInt8
  | [] => []
  | c :: r => if c = 13 then (if r.head? = some 10 then linesL r else 10 :: linesL r) else c :: linesL r
def tidyL (l : List UInt8) : List UInt8 := l.filter (fun c => c != 0)
def TextL (l : List UInt8) : List UInt8 := tidyL (linesL (DecL l))

theorem linesL_app (p x : List UInt8) (h : ∀ c ∈ p, c ≠ 13) : linesL (p ++ x) = p ++ linesL x := by
  induction p with
  | nil => rfl
  | cons c r ih =>
    have hc := h c (by simp)
    simp only [List.cons_append, linesL, if_neg hc]
    rw [ih (fun d hd => h d (by simp [hd]))]
theorem linesL_id (l : List UInt8) (h : ∀ c ∈ l, c ≠ 13) : linesL l = l := by
  have := linesL_app l [] h
  simpa [linesL] using this
theorem linesL_no13 (l : List UInt8) : ∀ c ∈ linesL l, c ≠ 13 := by
  induction l with
  | nil => simp [linesL]
  | cons c r ih =>
    intro d hd
    simp only [linesL] at hd
    split at hd
    · split at hd
      · exact ih d hd
      · rcases List.mem_cons.1 hd with e | e
        · rw [e]; decide
        · exact ih d e
    · rename_i hc
      rcases List.mem_cons.1 hd with e | e
      · rw [e]; exact hc
      · exact ih d e
theorem linesL_len (l : List UInt8) : (linesL l).length ≤ l.length := by
  induction l with
  | nil => simp [linesL]
  | cons c r ih =>
    simp only [linesL]
    split
    · split <;> simp <;> omega
    · simp; omega
theorem linesL_twice (l : List UInt8) : linesL (linesL l) = linesL l := linesL_id _ (linesL_no13 l)

theorem whole_byte (c : UInt8) (h : c.toNat < 128) : Whole [c] := by
  have hn : need c.toNat = 0 := by unfold need; rw [if_pos (by omega)]
  exact ⟨by simp [goodL, h], by simp [pieceL, hn, runL]⟩

/-- A good piece is one byte below 128, or has none such. -/
theorem whole_shape (p : List UInt8) (h : Whole p) : (∃ c, p = [c] ∧ c.toNat < 128) ∨ ∀ c ∈ p, 128 ≤ c.toNat := by
  cases p with
  | nil => exact absurd rfl h.ne
  | cons b r =>
    by_cases hb : b.toNat < 128
    · left
      have hn : need b.toNat = 0 := by unfold need; rw [if_pos (by omega)]
      have := h.2
      simp only [pieceL, hn, runL, List.length_cons] at this
      have hr : r = [] := List.eq_nil_of_length_eq_zero (by omega)
      exact ⟨b, by rw [hr], hb⟩
    · right
      intro c hc
      obtain ⟨j, hj, rfl⟩ := List.mem_iff_getElem.1 hc
      cases j with
      | zero => simp; omega
      | succ j =>
        obtain ⟨d, h1, h2, _⟩ := pieceL_cont (b :: r) (j + 1) (by omega) (by rw [h.2]; exact hj)
        rw [List.getElem?_eq_getElem hj] at h1
        rw [Option.some.inj h1]
        exact h2

theorem ne_of_toNat {c d : UInt8} (h : c.toNat ≠ d.toNat) : c ≠ d := fun e => h (by rw [e])

theorem linesL_valid (l : List UInt8) (hv : validL l = true) : validL (linesL l) = true := by
  revert hv
  refine pieces_ind (P := fun l => validL l = true → validL (linesL l) = true) (fun _ => rfl) ?_ l
  intro l h ih hv
  obtain ⟨h1, h2⟩ := valid_parts l h hv
  have hw := whole_take l h1
  have ih2 := ih h2
  have e : l = l.take (pieceL l) ++ l.drop (pieceL l) := (List.take_append_drop _ _).symm
  generalize l.take (pieceL l) = p at *
  generalize l.drop (pieceL l) = x at *
  subst e
  rcases whole_shape p hw with ⟨c, rfl, hc⟩ | hp
  · by_cases c13 : c = 13
    · subst c13
      simp only [List.cons_append, List.nil_append, linesL, if_true]
      split
      · exact ih2
      · rw [show (10 :: linesL x : List UInt8) = [10] ++ linesL x from rfl, validL_whole _ _ (whole_byte 10 (by decide))]
        exact ih2
    · rw [linesL_app [c] x (by simpa using c13), validL_whole _ _ hw]
      exact ih2
  · rw [linesL_app p x (fun c hc => ne_of_toNat (by have := hp c hc; show c.toNat ≠ 13; omega)), validL_whole _ _ hw]
    exact ih2

theorem tidyL_valid (l : List UInt8) (hv : validL l = true) : validL (tidyL l) = true := by
  revert hv
  refine pieces_ind (P := fun l => validL l = true → validL (tidyL l) = true) (fun _ => rfl) ?_ l
  intro l h ih hv
  obtain ⟨h1, h2⟩ := valid_parts l h hv
  have hw := whole_take l h1
  have ih2 := ih h2
  have e : l = l.take (pieceL l) ++ l.drop (pieceL l) := (List.take_append_drop _ _).symm
  generalize l.take (pieceL l) = p at *
  generalize l.drop (pieceL l) = x at *
  subst e
  unfold tidyL at ih2 ⊢
  rw [List.filter_append]
  rcases whole_shape p hw with ⟨c, rfl, hc⟩ | hp
  · by_cases c0 : c = 0
    · subst c0
      exact ih2
    · rw [show [c].filter (fun c => c != 0) = [c] by simp [c0], validL_whole _ _ hw]
      exact ih2
  · rw [show p.filter (fun c => c != 0) = p by
      rw [List.filter_eq_self]
      intro c hc
      have := hp c hc
      have : c ≠ 0 := ne_of_toNat (by show c.toNat ≠ 0; omega)
      simpa using this, validL_whole _ _ hw]
    exact ih2

/-! ### the promises -/

theorem TextL_valid (l : List UInt8) : validL (TextL l) = true := tidyL_valid _ (linesL_valid _ (decL_valid _))
theorem TextL_no (l : List UInt8) : ∀ c ∈ TextL l, c ≠ 0 ∧ c ≠ 13 := by
  intro c hc
  unfold TextL tidyL at hc
  rw [List.mem_filter] at hc
  exact ⟨by simpa using hc.2, linesL_no13 _ c hc.1⟩
theorem stripL_not (l : List UInt8) (h : markedL l = false) : stripL l = l := by
  unfold stripL; rw [if_neg (by rw [h]; exact Bool.false_ne_true)]
theorem TextL_again (l : List UInt8) (h : markedL (TextL l) = false) : TextL (TextL l) = TextL l := by
  have hn := TextL_no l
  have hv := TextL_valid l
  generalize TextL l = t at *
  show tidyL (linesL (decL (stripL t))) = t
  rw [stripL_not t h, decL_id t hv, linesL_id t (fun c hc => (hn c hc).2)]
  unfold tidyL
  rw [List.filter_eq_self]
  intro c hc
  simpa using (hn c hc).1
theorem stripL_mark (l : List UInt8) : stripL (markB ++ l) = l := by
  unfold stripL markedL
  have : Lib.hasPrefix (markB ++ l) markB = true := by simp [Lib.hasPrefix, markB, List.isPrefixOf]
  rw [if_pos this]
  rfl
theorem DecL_mark (l : List UInt8) (h : markedL l = false) : DecL (markB ++ l) = DecL l := by
  unfold DecL; rw [stripL_mark, stripL_not l h]
theorem TextL_mark (l : List UInt8) (h : markedL l = false) : TextL (markB ++ l) = TextL l := by
  unfold TextL; rw [DecL_mark l h]
theorem DecL_behind (a b : List UInt8) (ha : markedL (a ++ b) = false) (hb : markedL b = false) (hv : validL a = true) : DecL (a ++ b) = a ++ DecL b := by
  unfold DecL; rw [stripL_not _ ha, stripL_not _ hb, decL_app a b hv]

end Go.Proofs.YthagloigihpfdabDoor
