/- What the chapter promises of tokens, over lists of bytes. No program in it. -/
import Derived.Test.YtlfjmgniflkapaaDoorTok
import Derived.Test.YtlfjmgniflkapaaDoorPieces
set_option linter.unusedVariables false
set_option linter.unusedSimpArgs false
namespace Go.Proofs.YtlfjmgniflkapaaDoor

def hasL (t : List UInt8) : List UInt8 → Bool
  | [] => false
  | c :: r => t.isPrefixOf (c :: r) || hasL t r

/-! Comments. -/
theorem pre3 (a b c : UInt8) (l : List UInt8) : [a, b, c].isPrefixOf l = (decide (l[0]? = some a) && decide (l[1]? = some b) && decide (l[2]? = some c)) := by
  match l with
  | [] => simp [List.isPrefixOf]
  | [x] => simp [List.isPrefixOf]
  | [x, y] => simp [List.isPrefixOf]
  | x :: y :: z :: r =>
    rw [Bool.eq_iff_iff]
    simp [List.isPrefixOf]
    constructor
    · rintro ⟨h1, h2, h3⟩; exact ⟨⟨h1.symm, h2.symm⟩, h3.symm⟩
    · rintro ⟨⟨h1, h2⟩, h3⟩; exact ⟨h1.symm, h2.symm, h3.symm⟩
theorem pre4 (a b c d : UInt8) (l : List UInt8) : [a, b, c, d].isPrefixOf l = (decide (l[0]? = some a) && decide (l[1]? = some b) && decide (l[2]? = some c) && decide (l[3]? = some d)) := by
  match l with
  | [] => simp [List.isPrefixOf]
  | [x] => simp [List.isPrefixOf]
  | [x, y] => simp [List.isPrefixOf]
  | [x, y, z] => simp [List.isPrefixOf]
  | x :: y :: z :: u :: r =>
    rw [Bool.eq_iff_iff]
    simp [List.isPrefixOf]
    constructor
    · rintro ⟨h1, h2, h3, h4⟩; exact ⟨⟨⟨h1.symm, h2.symm⟩, h3.symm⟩, h4.symm⟩
    · rintro ⟨⟨⟨h1, h2⟩, h3⟩, h4⟩; exact ⟨h1.symm, h2.symm, h3.symm, h4.symm⟩
theorem findC_cons (c : UInt8) (r : List UInt8) : findC (c :: r) = if [45, 45, 62].isPrefixOf (c :: r) then some ([], (c :: r).drop 3) else if [45, 45, 33, 62].isPrefixOf (c :: r) then some ([], (c :: r).drop 4) else (findC r).map fun x => (c :: x.1, x.2) := rfl
theorem spanS_cons (n : List UInt8) (c : UInt8) (r : List UInt8) : spanS n (c :: r) = if stopB n (c :: r) then ([], c :: r) else (c :: (spanS n r).1, (spanS n r).2) := rfl
theorem dataK_amp (foreign : Bool) (k : Nat) (r : List UInt8) (h0 : r ≠ []) (h1 : beginsB r = true) (h2 : [60, 47, 62].isPrefixOf r = false) (h3 : [60, 47].isPrefixOf r = false) (h4 : [60, 33, 45, 45].isPrefixOf r = true) : dataK foreign (k + 1) r = commentL (r.drop 4) := by
  rw [dataK, if_neg h0, h1, if_neg (by decide), h2, if_neg (by decide), h3, if_neg (by decide), if_pos h4]
theorem findC_text : ∀ (text rest : List UInt8), hasL [45, 45, 62] text = false → hasL [45, 45, 33, 62] text = false → findC (text ++ 45 :: 45 :: 62 :: rest) = some (text, rest)
  | [], rest, _, _ => by
    simp [findC, List.isPrefixOf]
  | c :: r, rest, h1, h2 => by
    simp only [hasL, Bool.or_eq_false_iff] at h1 h2
    have ih := findC_text r rest h1.2 h2.2
    have e1 : [45, 45, 62].isPrefixOf (c :: (r ++ 45 :: 45 :: 62 :: rest)) = false := by
      have h := h1.1
      match r with
      | [] => rw [pre3]; simp
      | [x] => rw [pre3]; simp
      | x :: y :: q =>
        rw [pre3] at h ⊢
        simpa using h
    have e2 : [45, 45, 33, 62].isPrefixOf (c :: (r ++ 45 :: 45 :: 62 :: rest)) = false := by
      have h := h2.1
      match r with
      | [] => rw [pre4]; simp
      | [x] => rw [pre4]; simp
      | [x, y] => rw [pre4]; simp
      | x :: y :: z :: q =>
        rw [pre4] at h ⊢
        simpa using h
    show findC (c :: (r ++ 45 :: 45 :: 62 :: rest)) = _
    rw [findC_cons, e1, e2, ih]
    rfl
theorem comment_back (text rest : List UInt8) (h1 : hasL [45, 45, 62] text = false) (h2 : hasL [45, 45, 33, 62] text = false) (h3 : text.head? ≠ some 62) (h4 : text.take 2 ≠ [45, 62]) :
    nextR 0 [] false (60 :: 33 :: 45 :: 45 :: (text ++ 45 :: 45 :: 62 :: rest)) = ({ kind := 4, text := text }, rest) := by
  have hc : commentL (text ++ 45 :: 45 :: 62 :: rest) = ({ kind := 4, text := text }, rest) := by
    unfold commentL
    rw [findC_text text rest h1 h2]
    have e1 : [62].isPrefixOf (text ++ 45 :: 45 :: 62 :: rest) = false := by
      match text, h3 with
      | [], _ => simp [List.isPrefixOf]
      | c :: r, h3 =>
        simp [List.isPrefixOf] at h3 ⊢
        exact fun e => h3 e.symm
    have e2 : [45, 62].isPrefixOf (text ++ 45 :: 45 :: 62 :: rest) = false := by
      match text, h4 with
      | [], _ => simp [List.isPrefixOf]
      | [c], _ => simp [List.isPrefixOf]
      | c :: d :: r, h4 =>
        simp [List.isPrefixOf] at h4 ⊢
        exact fun e1 e2 => h4 e1.symm e2.symm
    rw [e1, e2]
    simp
  unfold nextR
  rw [if_neg (by simp), if_neg (by decide), if_pos (by decide)]
  unfold dataL
  rw [List.length_cons, dataK_amp false _ _ (by simp) (by simp [beginsB]) (by simp [List.isPrefixOf]) (by simp [List.isPrefixOf]) (by simp [List.isPrefixOf])]
  exact hc

/-! Up to the end tag. -/
def smallC (c : UInt8) : Bool := decide (97 ≤ c.toNat) && decide (c.toNat ≤ 122)
theorem small_name (c : UInt8) (h : smallC c = true) : nameB c = true ∧ attrB c = true ∧ low c = c ∧ letterN c.toNat = true ∧ isSp c = false ∧ passB c = false := by
  simp [smallC] at h
  have e47 : c ≠ 47 := by rintro rfl; simp at h
  have e62 : c ≠ 62 := by rintro rfl; simp at h
  have e61 : c ≠ 61 := by rintro rfl; simp at h
  have hs : isSp c = false := by simp [isSp, spaceN]; omega
  refine ⟨?_, ?_, ?_, ?_, hs, ?_⟩
  · simp [nameB, hs, e47, e62]
  · simp [attrB, hs, e47, e62, e61]
  · unfold low
    rw [if_neg]
    simp [greatN]; omega
  · simp [letterN, greatN]; omega
  · simp [passB, hs, e47]
theorem small_lower (n : List UInt8) (h : n.all smallC = true) : lowerL n = n := by
  unfold lowerL
  conv => rhs; rw [← List.map_id n]
  exact List.map_congr_left fun c hc => (small_name c (List.all_eq_true.1 h c hc)).2.2.1
theorem tw_app (p : UInt8 → Bool) : ∀ (n : List UInt8) (x : UInt8) (r : List UInt8), n.all p = true → p x = false → (n ++ x :: r).takeWhile p = n ∧ (n ++ x :: r).dropWhile p = x :: r
  | [], x, r, _, h => by simp [h]
  | c :: n, x, r, hn, h => by
    simp only [List.all_cons, Bool.and_eq_true] at hn
    have ih := tw_app p n x r hn.2 h
    simp [List.takeWhile_cons, List.dropWhile_cons, hn.1, ih]
theorem all_of (p q : UInt8 → Bool) (n : List UInt8) (h : n.all p = true) (hpq : ∀ c, p c = true → q c = true) : n.all q = true :=
  List.all_eq_true.2 fun c hc => hpq c (List.all_eq_true.1 h c hc)
theorem tag_end (n rest : List UInt8) (h : n.all smallC = true) : endedL (n ++ 62 :: rest) true = ({ kind := 3, name := n }, rest) := by
  have h1 := tw_app nameB n 62 rest (all_of _ _ n h fun c hc => (small_name c hc).1) (by decide)
  have ht : tagL (n ++ 62 :: rest) = some ({ kind := 2, name := n, attrs := [], closed := strokeB (62 :: rest) }, rest) := by
    unfold tagL
    rw [h1.1, h1.2, small_lower n h]
    simp only [loopT]
    rw [show (62 :: rest).dropWhile passB = 62 :: rest by simp [List.dropWhile_cons, passB, isSp, spaceN]]
    rfl
  unfold endedL
  rw [ht]
  rfl
theorem stop_here (n rest : List UInt8) : stopB n (60 :: 47 :: (n ++ 62 :: rest)) = true := by
  unfold stopB
  have e1 : ((60 :: 47 :: (n ++ 62 :: rest)).drop 2).take n.length = n := by simp
  have e2 : (60 :: 47 :: (n ++ 62 :: rest))[2 + n.length]? = some 62 := by
    rw [Nat.add_comm, List.getElem?_cons_succ, List.getElem?_cons_succ, List.getElem?_append_right (Nat.le_refl _), Nat.sub_self]
    rfl
  rw [e1, e2]
  simp [List.isPrefixOf]
theorem stop_not (n : List UInt8) (x : UInt8) (l : List UInt8) (h : l.head? ≠ some 47) : stopB n (x :: l) = false := by
  unfold stopB
  have : [60, 47].isPrefixOf (x :: l) = false := by
    cases l with
    | nil => simp [List.isPrefixOf]
    | cons c r =>
      simp [List.isPrefixOf] at h ⊢
      exact fun _ e => h e.symm
  rw [this]
  rfl
theorem spanS_text (n rest : List UInt8) : ∀ text : List UInt8, text.contains 47 = false → spanS n (text ++ 60 :: 47 :: (n ++ 62 :: rest)) = (text, 60 :: 47 :: (n ++ 62 :: rest))
  | [], _ => by
    rw [List.nil_append, spanS_cons, if_pos (stop_here n rest)]
  | c :: r, h => by
    simp only [List.contains_cons, Bool.or_eq_false_iff] at h
    have ih := spanS_text n rest r h.2
    rw [List.cons_append, spanS_cons, if_neg, ih]
    rw [stop_not]
    · decide
    · match r, h.2 with
      | [], _ => simp
      | d :: q, hq =>
        simp only [List.contains_cons, Bool.or_eq_false_iff] at hq
        simp
        intro e
        rw [e] at hq
        simp at hq
theorem raw_text (text n rest : List UInt8) (ht : text ≠ []) (h : text.contains 47 = false) : nextR 2 n false (text ++ 60 :: 47 :: (n ++ 62 :: rest)) = ({ kind := 1, text := text }, 60 :: 47 :: (n ++ 62 :: rest)) := by
  unfold nextR
  rw [if_neg (by simp [ht]), if_neg (by decide), if_neg (by decide)]
  rw [if_neg, spanS_text n rest text h]
  · rfl
  · match text, ht, h with
    | c :: r, _, h =>
      simp only [List.contains_cons, Bool.or_eq_false_iff] at h
      rw [List.cons_append, stop_not]
      · decide
      · match r, h.2 with
        | [], _ => simp
        | d :: q, hq =>
          simp only [List.contains_cons, Bool.or_eq_false_iff] at hq
          simp
          intro e
          rw [e] at hq
          simp at hq
theorem raw_stop (n rest : List UInt8) (h : n.all smallC = true) : nextR 2 n false (60 :: 47 :: (n ++ 62 :: rest)) = ({ kind := 3, name := n }, rest) := by
  unfold nextR
  rw [if_neg (by simp), if_neg (by decide), if_neg (by decide), if_pos (stop_here n rest)]
  exact tag_end n rest h
theorem mode_none (n r : List UInt8) : nextR 77 n false r = nextR 0 [] false r := by
  simp [nextR]
theorem mode_plain (n r : List UInt8) (h : r ≠ []) : nextR 3 n false r = ({ kind := 1, text := r }, []) := by
  unfold nextR
  rw [if_neg h, if_pos rfl]
end Go.Proofs.YtlfjmgniflkapaaDoor
