/- What the chapter promises of references, over lists of bytes: there and back, part by part, what stands there is taken. No program in it. -/
import Derived.Test.YthoibenncjbkdaaDoorS4Plain
set_option linter.unusedVariables false
set_option linter.unusedSimpArgs false
set_option maxRecDepth 4000
namespace Go.Proofs.YthoibenncjbkdaaDoor.S4

/-! There and back. -/
def escL (x : List UInt8) : List UInt8 → List UInt8
  | [] => []
  | c :: r => if c = 38 then x ++ escL x r else c :: escL x r
theorem escL_length (x : List UInt8) (hx : x.length ≤ 6) (l : List UInt8) : (escL x l).length ≤ 7 * l.length := by
  induction l with
  | nil => simp [escL]
  | cons c r ih =>
    simp only [escL]
    split
    · simp; omega
    · simp; omega
theorem back_of (attr : Bool) (y : List UInt8) (h : ∀ r, refL attr (y ++ r) = ([38], y.length + 1)) (l : List UInt8) : decL attr (escL (38 :: y) l) = l := by
  induction l with
  | nil => rfl
  | cons c r ih =>
    simp only [escL]
    split
    · rename_i hc
      rw [List.cons_append, decL_amp, h, hc]
      show [38] ++ decL attr ((38 :: (y ++ escL (38 :: y) r)).drop (y.length + 1)) = _
      rw [List.drop_succ_cons, List.drop_left, ih]
      rfl
    · rename_i hc
      rw [decL_other _ _ _ hc, ih]

theorem amp_last : entriesE.all (fun e => (decide ((e.1 ++ [59]).length ≤ 4) || !((e.1 ++ [59]).take 4 == [97, 109, 112, 59])) && (decide (e.1.length ≤ 4) || !(e.1.take 4 == [97, 109, 112, 59]))) = true := by decide +kernel
theorem back_amp (attr : Bool) (r : List UInt8) : refL attr ([97, 109, 112, 59] ++ r) = ([38], 5) := by
  have hl : longL ([97, 109, 112, 59] ++ r) = some (38, 4) := by
    refine longK_eq 8 _ 4 38 (by omega) (by omega) (by simp) (by show codeL [97, 109, 112, 59] = _; decide +kernel) ?_
    intro m h1 h2 h3
    cases hc : codeL (([97, 109, 112, 59] ++ r).take m) with
    | none => rfl
    | some c =>
      have := code_all (fun n => decide (n.length ≤ 4) || !(n.take 4 == [97, 109, 112, 59])) amp_last _ c hc
      simp only [Bool.or_eq_true, decide_eq_true_eq] at this
      rcases this with h | h
      · rw [List.length_take] at h; omega
      · rw [List.take_take, show min 4 m = 4 by omega] at h
        exact absurd h (by simp)
  unfold refL
  rw [if_neg (by simp), hl]
  simp only
  rw [if_neg (by simp)]
  decide +kernel
theorem back_num (attr : Bool) (r : List UInt8) : refL attr ([35, 51, 56, 59] ++ r) = ([38], 5) := by
  have h : numL ([51, 56, 59] ++ r) = ([38], 5) := by
    show numL (51 :: 56 :: 59 :: r) = _
    have hd : digsL 10 (51 :: 56 :: 59 :: r) = ([38], 3) := by
      have h1 : digsN 10 (51 :: 56 :: 59 :: r) = 2 := rfl
      have h2 : valN 10 0 (51 :: 56 :: 59 :: r) = 38 := rfl
      unfold digsL
      rw [h1, h2]
      rw [if_neg (by omega)]
      show (numberL 38, 2 + semiN (59 :: r)) = _
      rw [show semiN (59 :: r) = 1 from rfl]
      have : numberL 38 = [38] := by decide +kernel
      rw [this]
    unfold numL
    simp only
    rw [if_neg (by decide), hd]
    rfl
  unfold refL
  rw [if_pos (by simp)]
  show (if (numL ([51, 56, 59] ++ r)).2 = 0 then _ else _) = _
  rw [h]
  rfl
theorem back_hex (attr : Bool) (r : List UInt8) : refL attr ([35, 120, 50, 54, 59] ++ r) = ([38], 6) := by
  have h : numL ([120, 50, 54, 59] ++ r) = ([38], 6) := by
    show numL (120 :: 50 :: 54 :: 59 :: r) = _
    have hd : digsL 16 (50 :: 54 :: 59 :: r) = ([38], 3) := by
      have h1 : digsN 16 (50 :: 54 :: 59 :: r) = 2 := rfl
      have h2 : valN 16 0 (50 :: 54 :: 59 :: r) = 38 := rfl
      unfold digsL
      rw [h1, h2]
      rw [if_neg (by omega)]
      show (numberL 38, 2 + semiN (59 :: r)) = _
      rw [show semiN (59 :: r) = 1 from rfl]
      have : numberL 38 = [38] := by decide +kernel
      rw [this]
    unfold numL
    simp only
    rw [if_pos (by decide), hd]
    rfl
  unfold refL
  rw [if_pos (by simp)]
  show (if (numL ([120, 50, 54, 59] ++ r)).2 = 0 then _ else _) = _
  rw [h]
  rfl
theorem back_1 (attr : Bool) (l : List UInt8) : decL attr (escL [38, 97, 109, 112, 59] l) = l := back_of attr [97, 109, 112, 59] (back_amp attr) l
theorem back_2 (attr : Bool) (l : List UInt8) : decL attr (escL [38, 35, 51, 56, 59] l) = l := back_of attr [35, 51, 56, 59] (back_num attr) l
theorem back_3 (attr : Bool) (l : List UInt8) : decL attr (escL [38, 35, 120, 50, 54, 59] l) = l := back_of attr [35, 120, 50, 54, 59] (back_hex attr) l

/-! Part by part. -/
/-- A byte that ends every reference: no letter, no figure, none of ; and #, = and &. -/
def apartB (x : UInt8) : Bool := !letterN x.toNat && !figureN x.toNat && !(x == 59) && !(x == 35) && !(x == 38) && !(x == 61)
theorem apart_digit (x : UInt8) (h : apartB x = true) (base : Nat) : digitB base x = none := by
  simp [apartB, letterN, greatN, figureN] at h
  unfold digitB
  have a : figureN x.toNat = false := by simp [figureN]; omega
  have b : ¬ (97 ≤ x.toNat ∧ x.toNat ≤ 102) := by omega
  have c : ¬ (65 ≤ x.toNat ∧ x.toNat ≤ 70) := by omega
  simp [a, b, c]
theorem apart_ne (x : UInt8) (h : apartB x = true) : x ≠ 59 ∧ x ≠ 35 ∧ x ≠ 38 ∧ x ≠ 120 ∧ x ≠ 88 := by
  have h2 := h
  simp [apartB] at h2
  refine ⟨h2.1.1.1.2, h2.1.1.2, h2.1.2, ?_, ?_⟩
  · rintro rfl; exact absurd h (by decide)
  · rintro rfl; exact absurd h (by decide)
theorem apart_code (x : UInt8) (h : apartB x = true) : (letterN x.toNat || x == 59) = false := by
  simp [apartB] at h
  simp [h]
theorem apart_barred (x : UInt8) (h : apartB x = true) : barredB (some x) = false := by
  simp [apartB] at h
  have h61 : x.toNat ≠ 61 := fun e => h.2 (UInt8.toNat_inj.1 e)
  simp [barredB, h, h61]
theorem digs_app (base : Nat) (x : UInt8) (h : apartB x = true) (b : List UInt8) : ∀ l : List UInt8, digsN base (l ++ x :: b) = digsN base l ∧ ∀ n, valN base n (l ++ x :: b) = valN base n l
  | [] => by simp [digsN, valN, apart_digit x h base]
  | c :: r => by
    obtain ⟨h1, h2⟩ := digs_app base x h b r
    simp only [List.cons_append, digsN, valN]
    split
    · exact ⟨by rw [h1], fun n => h2 _⟩
    · exact ⟨rfl, fun n => rfl⟩
theorem semi_app (x : UInt8) (h : apartB x = true) (l b : List UInt8) : semiN (l ++ x :: b) = semiN l := by
  unfold semiN
  cases l with
  | nil => simp [(apart_ne x h).1]
  | cons c r => rfl
theorem digsL_app (base : Nat) (x : UInt8) (h : apartB x = true) (l b : List UInt8) : digsL base (l ++ x :: b) = digsL base l := by
  unfold digsL
  rw [(digs_app base x h b l).1, (digs_app base x h b l).2, List.drop_append_of_le_length (digsN_le base l), semi_app x h]
theorem numL_app (x : UInt8) (h : apartB x = true) (l b : List UInt8) : numL (l ++ x :: b) = numL l := by
  cases l with
  | nil =>
    have hd : digsL 10 (x :: b) = ([], 0) := by
      unfold digsL
      rw [show digsN 10 (x :: b) = 0 by simp [digsN, apart_digit x h]]
      rfl
    show numL (x :: b) = ([], 0)
    unfold numL
    simp only
    rw [if_neg (by have := apart_ne x h; simp [this]), hd]
    rfl
  | cons c r =>
    have h1 := digsL_app 16 x h r b
    have h2 := digsL_app 10 x h (c :: r) b
    unfold numL
    simp only [List.cons_append]
    rw [List.cons_append] at h2
    rw [h1, h2]
theorem long_app (x : UInt8) (h : apartB x = true) (b : List UInt8) (k : Nat) (l : List UInt8) : longK k (l ++ x :: b) = longK k l := by
  induction k with
  | zero => rfl
  | succ k ih =>
    simp only [longK]
    rw [ih]
    by_cases hk : k + 1 ≤ l.length
    · rw [if_pos (by simp; omega), if_pos hk, List.take_append_of_le_length hk]
    · rw [if_neg hk]
      split
      · have hm : x ∈ (l ++ x :: b).take (k + 1) := by
          rw [List.take_append]
          refine List.mem_append_right _ ?_
          cases hj : k + 1 - l.length with
          | zero => omega
          | succ j => simp
        rw [code_no _ x (apart_code x h) hm]
      · rfl
theorem refL_app (attr : Bool) (x : UInt8) (h : apartB x = true) (l b : List UInt8) : refL attr (l ++ x :: b) = refL attr l := by
  have hnum : l ≠ [] → numL (l ++ x :: b).tail = numL l.tail := by
    intro hne
    cases l with
    | nil => exact absurd rfl hne
    | cons c r => exact numL_app x h r b
  have hlong : longL (l ++ x :: b) = longL l := long_app x h b 8 l
  cases l with
  | nil =>
    have hl0 : longL ([] : List UInt8) = none := by decide +kernel
    unfold refL
    rw [hlong, hl0]
    rw [if_neg (by simp [(apart_ne x h).2.1]), if_neg (by simp)]
  | cons c r =>
    unfold refL
    rw [hlong, hnum (by simp), show ((c :: r) ++ x :: b).head? = (c :: r).head? from rfl]
    split
    · rfl
    · split
      · rfl
      · rename_i cc n hlg
        obtain ⟨a1, a2, a3, a4⟩ := longK_some _ _ _ _ hlg
        have e1 : ((c :: r) ++ x :: b)[n - 1]? = (c :: r)[n - 1]? := List.getElem?_append_left (by omega)
        rw [e1]
        by_cases hn : n < (c :: r).length
        · rw [List.getElem?_append_left hn]
        · have hn2 : n = (c :: r).length := by omega
          have e2 : ((c :: r) ++ x :: b)[n]? = some x := by
            rw [List.getElem?_append_right (by omega), hn2, Nat.sub_self]; rfl
          have e3 : (c :: r)[n]? = none := List.getElem?_eq_none (by omega)
          rw [e2, e3, apart_barred x h]
          rfl
theorem decL_parts (attr : Bool) (x : UInt8) (h : apartB x = true) (b : List UInt8) : ∀ l : List UInt8, decL attr (l ++ x :: b) = decL attr l ++ x :: decL attr b := by
  have key : ∀ k l, List.length l ≤ k → decL attr (l ++ x :: b) = decL attr l ++ x :: decL attr b := by
    intro k
    induction k with
    | zero =>
      intro l hl
      obtain rfl : l = [] := List.eq_nil_of_length_eq_zero (by omega)
      exact decL_other attr x b (apart_ne x h).2.2.1
    | succ k ih =>
      intro l hl
      cases l with
      | nil => exact decL_other attr x b (apart_ne x h).2.2.1
      | cons c r =>
        simp only [List.length_cons] at hl
        by_cases hc : c = 38
        · subst hc
          have hb := refL_bd attr r
          rw [List.cons_append, decL_amp, decL_amp, refL_app attr x h, List.append_assoc]
          congr 1
          rw [← List.cons_append, List.drop_append_of_le_length (by simp; omega)]
          exact ih _ (by rw [List.length_drop]; simp; omega)
        · rw [List.cons_append, decL_other _ _ _ hc, decL_other _ _ _ hc, ih r (by omega)]
          rfl
  exact fun l => key l.length l (Nat.le_refl _)

/-! What stands there is taken. -/
theorem take_digs (base : Nat) : ∀ (l : List UInt8) (m : Nat), digsN base l ≤ m → digsN base (l.take m) = digsN base l ∧ ∀ n, valN base n (l.take m) = valN base n l
  | [], m, _ => by simp
  | c :: r, 0, h => by
    simp only [digsN] at h
    simp only [List.take_zero, digsN, valN]
    split at h
    · omega
    · rename_i e
      simp [e]
  | c :: r, m + 1, h => by
    simp only [List.take_succ_cons, digsN, valN] at h ⊢
    split
    · rename_i d e
      rw [e] at h
      simp only at h
      obtain ⟨h1, h2⟩ := take_digs base r m (by omega)
      exact ⟨by rw [h1], fun n => h2 _⟩
    · exact ⟨rfl, fun n => rfl⟩
theorem take_digsL (base : Nat) (l : List UInt8) (h : (digsL base l).2 ≠ 0) : digsL base (l.take (digsL base l).2) = digsL base l := by
  have h0 : digsN base l ≠ 0 := by
    intro e
    apply h
    unfold digsL
    rw [if_pos e]
  have e : (digsL base l).2 = digsN base l + semiN (l.drop (digsN base l)) := by
    unfold digsL
    rw [if_neg h0]
  rw [e]
  obtain ⟨h1, h2⟩ := take_digs base l (digsN base l + semiN (l.drop (digsN base l))) (by omega)
  unfold digsL
  rw [h1, h2, if_neg h0, if_neg h0]
  congr 2
  rw [List.drop_take, Nat.add_sub_cancel_left]
  unfold semiN
  cases hd : l.drop (digsN base l) with
  | nil => simp
  | cons c r =>
    by_cases hc : c = 59
    · subst hc; rfl
    · rw [if_neg (by simp [hc])]
      simp [hc]
theorem take_numL (q : List UInt8) (h : (numL q).2 ≠ 0) : numL (q.take ((numL q).2 - 2)) = numL q := by
  cases q with
  | nil => exact absurd rfl h
  | cons c r =>
    by_cases hc : c = 120 ∨ c = 88
    · have e : numL (c :: r) = if (digsL 16 r).2 = 0 then ([], 0) else ((digsL 16 r).1, (digsL 16 r).2 + 3) := by
        unfold numL; simp only; rw [if_pos hc]
      by_cases hz : (digsL 16 r).2 = 0
      · rw [e, if_pos hz] at h; exact absurd rfl h
      · rw [if_neg hz] at e
        rw [e]
        show numL ((c :: r).take ((digsL 16 r).2 + 3 - 2)) = _
        rw [show (digsL 16 r).2 + 3 - 2 = (digsL 16 r).2 + 1 by omega, List.take_succ_cons]
        unfold numL
        simp only
        rw [if_pos hc, take_digsL 16 r hz, if_neg hz]
    · have e : numL (c :: r) = if (digsL 10 (c :: r)).2 = 0 then ([], 0) else ((digsL 10 (c :: r)).1, (digsL 10 (c :: r)).2 + 2) := by
        unfold numL; simp only; rw [if_neg hc]
      by_cases hz : (digsL 10 (c :: r)).2 = 0
      · rw [e, if_pos hz] at h; exact absurd rfl h
      · rw [if_neg hz] at e
        rw [e]
        show numL ((c :: r).take ((digsL 10 (c :: r)).2 + 2 - 2)) = _
        rw [Nat.add_sub_cancel]
        have ht := take_digsL 10 (c :: r) hz
        cases hm : (digsL 10 (c :: r)).2 with
        | zero => exact absurd hm hz
        | succ m =>
          rw [hm, List.take_succ_cons] at ht
          rw [List.take_succ_cons]
          unfold numL
          simp only
          rw [if_neg hc, ht, hm, if_neg (by omega)]
theorem one_amp : decL false [38] = [38] := by decide +kernel
theorem take_refL (attr : Bool) (r : List UInt8) : decL false ((38 :: r).take (refL attr r).2) = (refL attr r).1 := by
  have hb := refL_bd attr r
  have whole : ∀ (q t : List UInt8), refL false q = (t, q.length + 1) → decL false (38 :: q) = t := by
    intro q t h
    rw [decL_amp, h]
    show t ++ decL false ((38 :: q).drop (q.length + 1)) = t
    rw [List.drop_of_length_le (by simp), decL_nil, List.append_nil]
  have lone : ∀ p : List UInt8 × Nat, p = ([38], 1) → decL false ((38 :: r).take p.2) = p.1 := by
    rintro p rfl
    exact one_amp
  by_cases h35 : r.head? = some 35
  · have e : refL attr r = if (numL r.tail).2 = 0 then ([38], 1) else numL r.tail := by unfold refL; rw [if_pos h35]
    by_cases hz : (numL r.tail).2 = 0
    · rw [if_pos hz] at e
      exact lone _ e
    · rw [if_neg hz] at e
      have hn := numL_bd r.tail
      have h2 := (hn.2 hz).2
      cases r with
      | nil => simp at h35
      | cons c q =>
        obtain rfl : c = 35 := by simpa using h35
        simp only [List.tail_cons] at e hz h2 hn
        rw [e, show (numL q).2 = ((numL q).2 - 2) + 1 + 1 by omega, List.take_succ_cons, List.take_succ_cons]
        have ht := take_numL q hz
        refine whole _ _ ?_
        unfold refL
        rw [if_pos (by simp), if_neg (by show ¬ (numL (q.take ((numL q).2 - 2))).2 = 0; rw [ht]; exact hz)]
        show numL (q.take ((numL q).2 - 2)) = _
        rw [ht]
        have hl : (q.take ((numL q).2 - 2)).length = (numL q).2 - 2 := by
          rw [List.length_take]
          have := hn.1
          omega
        rw [List.length_cons, hl]
        show numL q = ((numL q).1, _)
        rw [show (numL q).2 - 2 + 1 + 1 = (numL q).2 by omega]
  · cases hlg : longL r with
    | none =>
      refine lone _ ?_
      unfold refL
      rw [if_neg h35, hlg]
    | some p =>
      obtain ⟨c, n⟩ := p
      obtain ⟨a1, a2, a3, a4⟩ := longK_some _ _ _ _ hlg
      have e : refL attr r = if attr && !(r[n - 1]? == some 59) && barredB r[n]? then ([38], 1) else (Lib.encodeRune (c : Int), n + 1) := by
        unfold refL; rw [if_neg h35, hlg]
      cases hbar : attr && !(r[n - 1]? == some 59) && barredB r[n]?
      · rw [hbar] at e
        have e2 : refL attr r = (Lib.encodeRune (c : Int), n + 1) := by rw [e]; rfl
        rw [e2]
        show decL false (38 :: r.take n) = _
        have hlen : (r.take n).length = n := by rw [List.length_take]; omega
        refine whole _ _ ?_
        rw [hlen]
        have hlg2 : longL (r.take n) = some (c, n) := by
          refine longK_eq 8 _ n c a1 a2 (by omega) (by rw [List.take_take, Nat.min_self]; exact a4) ?_
          intro m h1 _ h3
          omega
        unfold refL
        rw [if_neg, hlg2]
        · rfl
        · have := code_all (fun n => !(n.head? == some 35)) code_head _ c a4
          simpa using this
      · rw [hbar] at e
        exact lone _ (by rw [e]; rfl)
end Go.Proofs.YthoibenncjbkdaaDoor.S4
