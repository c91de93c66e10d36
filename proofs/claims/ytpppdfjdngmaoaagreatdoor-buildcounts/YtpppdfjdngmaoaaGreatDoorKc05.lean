import Derived.Test.YtpppdfjdngmaoaaGreatDoorKc02
import Derived.Test.YtpppdfjdngmaoaaGreatDoorKc04
import Derived.Laws.ResultCell
import Derived.Laws.AppendOwn
import Derived.Lib.RuneBytes
import Derived.Maps.AppendAt
import Derived.Laws.Runes
set_option linter.unusedVariables false
set_option linter.unusedSimpArgs false
set_option maxRecDepth 100000
set_option maxHeartbeats 8000000
namespace Go.Proofs.YtpppdfjdngmaoaaGreatDoor.S4
theorem loopT_enough : ∀ (k j : Nat) (aa : List (List UInt8 × List UInt8)) (r : List UInt8), r.length < k → r.length < j → loopT k aa r = loopT j aa r := by
  intro k
  induction k with
  | zero => intro j aa r h; omega
  | succ k ih =>
    intro j aa r h1 h2
    cases j with
    | zero => omega
    | succ j =>
      have h0 := dw_le passB r
      simp only [loopT]
      cases hd : r.dropWhile passB with
      | nil => rfl
      | cons c r2 =>
        rw [hd] at h0
        simp only [List.length_cons] at h0
        simp only
        split
        · rfl
        · have h3 := dw_le isSp (r2.dropWhile attrB)
          have h4 := dw_le attrB r2
          cases hr : (r2.dropWhile attrB).dropWhile isSp with
          | nil => exact ih j _ _ (by simp; omega) (by simp; omega)
          | cons d r4 =>
            rw [hr] at h3
            simp only [List.length_cons] at h3
            simp only
            have h5 := valueL_le (r4.dropWhile isSp)
            have h6 := dw_le isSp r4
            split
            · exact ih j _ _ (by omega) (by omega)
            · exact ih j _ _ (by simp; omega) (by simp; omega)
def tailT (aa : List (List UInt8 × List UInt8)) (r : List UInt8) : Option (List (List UInt8 × List UInt8) × Bool × List UInt8) := loopT (r.length + 1) aa r
theorem tail_none (aa : List (List UInt8 × List UInt8)) (r : List UInt8) (h : r.dropWhile passB = []) : tailT aa r = none := by
  unfold tailT
  simp only [loopT]
  rw [h]
theorem tail_end (aa : List (List UInt8 × List UInt8)) (r r2 : List UInt8) (h : r.dropWhile passB = 62 :: r2) : tailT aa r = some (aa, strokeB r, r2) := by
  unfold tailT
  simp only [loopT]
  rw [h]
  rfl
theorem tail_plain (aa : List (List UInt8 × List UInt8)) (r : List UInt8) (c : UInt8) (r2 : List UInt8) (h : r.dropWhile passB = c :: r2) (hc : c ≠ 62) (hq : ¬ ((r2.dropWhile attrB).dropWhile isSp).head? = some 61) :
    tailT aa r = tailT (addA aa (lowerL (c :: r2.takeWhile attrB), [])) ((r2.dropWhile attrB).dropWhile isSp) := by
  have h0 := dw_le passB r
  have h3 := dw_le isSp (r2.dropWhile attrB)
  have h4 := dw_le attrB r2
  rw [h] at h0
  simp only [List.length_cons] at h0
  unfold tailT
  conv => lhs; simp only [loopT]
  rw [h]
  simp only
  rw [if_neg hc]
  cases hr : (r2.dropWhile attrB).dropWhile isSp with
  | nil => exact loopT_enough _ _ _ _ (by simp; omega) (by simp)
  | cons d r4 =>
    rw [hr] at h3 hq
    simp only [List.head?_cons, Option.some.injEq] at hq
    simp only [List.length_cons] at h3
    simp only
    rw [if_neg hq]
    exact loopT_enough _ _ _ _ (by simp; omega) (by simp)
theorem tail_value (aa : List (List UInt8 × List UInt8)) (r : List UInt8) (c : UInt8) (r2 r4 : List UInt8) (h : r.dropWhile passB = c :: r2) (hc : c ≠ 62) (hq : (r2.dropWhile attrB).dropWhile isSp = 61 :: r4) :
    tailT aa r = tailT (addA aa (lowerL (c :: r2.takeWhile attrB), (valueL (r4.dropWhile isSp)).1)) (valueL (r4.dropWhile isSp)).2 := by
  have h0 := dw_le passB r
  have h3 := dw_le isSp (r2.dropWhile attrB)
  have h4 := dw_le attrB r2
  have h5 := valueL_le (r4.dropWhile isSp)
  have h6 := dw_le isSp r4
  rw [h] at h0
  rw [hq] at h3
  simp only [List.length_cons] at h0 h3
  unfold tailT
  conv => lhs; simp only [loopT]
  rw [h]
  simp only
  rw [if_neg hc, hq]
  simp only [if_true]
  exact loopT_enough _ _ _ _ (by omega) (by omega)
theorem tagL_tail (r : List UInt8) : tagL r = (tailT [] (r.dropWhile nameB)).map fun x => ({ kind := 2, name := lowerL (r.takeWhile nameB), attrs := x.1, closed := x.2.1 }, x.2.2) := by
  unfold tagL tailT
  rw [loopT_enough (r.length + 1) ((r.dropWhile nameB).length + 1) [] _ (by have := dw_le nameB r; omega) (by omega)]
theorem drop_back (s : ByteArray) (k : Nat) (hk : k ≤ s.size) (a V : List UInt8) (h : a ++ V = s.data.toList.drop k) : s.data.toList.drop (s.size - V.length) = V ∧ k ≤ s.size - V.length ∧ s.size - V.length ≤ s.size ∧ V.length ≤ s.size := by
  have hl := congrArg List.length h
  rw [List.length_append, List.length_drop, ← size_list] at hl
  refine ⟨?_, by omega, by omega, by omega⟩
  rw [show s.size - V.length = k + a.length by omega, ← List.drop_drop, ← h, List.drop_left]
theorem valueL_suf (r : List UInt8) : ∃ a, a ++ (valueL r).2 = r := by
  unfold valueL
  cases r with
  | nil => exact ⟨[], rfl⟩
  | cons c q =>
    simp only
    split
    · exact ⟨[], rfl⟩
    · split
      · refine ⟨c :: (findR [c] q).1 ++ (findR [c] q).2.take 1, ?_⟩
        rw [List.append_assoc, List.take_append_drop, List.cons_append, findR_app]
      · exact ⟨_, List.takeWhile_append_dropWhile⟩
end Go.Proofs.YtpppdfjdngmaoaaGreatDoor.S4
namespace Go.Proofs.YtpppdfjdngmaoaaGreatDoor.S4
theorem dataK_enough (f : Bool) : ∀ (k j : Nat) (r : List UInt8), r.length ≤ k → r.length ≤ j → dataK f k r = dataK f j r := by
  intro k
  induction k with
  | zero =>
    intro j r h1 h2
    obtain rfl : r = [] := List.eq_nil_of_length_eq_zero (by omega)
    cases j <;> simp [dataK]
  | succ k ih =>
    intro j r h1 h2
    cases j with
    | zero =>
      obtain rfl : r = [] := List.eq_nil_of_length_eq_zero (by omega)
      simp [dataK]
    | succ j =>
      by_cases h0 : r = []
      · simp [dataK, h0]
      · have hl : 1 ≤ r.length := by
          cases r with
          | nil => exact absurd rfl h0
          | cons c q => simp
        have hf := findR_le [93, 93, 62] (r.drop 9)
        rw [List.length_drop] at hf
        have e1 := ih j (r.drop 3) (by rw [List.length_drop]; omega) (by rw [List.length_drop]; omega)
        have e2 := ih j ((findR [93, 93, 62] (r.drop 9)).2.drop 3) (by rw [List.length_drop]; omega) (by rw [List.length_drop]; omega)
        simp only [dataK, e1, e2]
def dataS (f : Bool) (r : List UInt8) : Tok × List UInt8 :=
  if beginsB r = false then ({ kind := 1, text := decL false (spanT r).1 }, (spanT r).2)
  else if [60, 47, 62].isPrefixOf r then dataL f (r.drop 3)
  else if [60, 47].isPrefixOf r then (if letterN (r.getD 2 0).toNat then endedL (r.drop 2) true else otherL (r.drop 2))
  else if [60, 33, 45, 45].isPrefixOf r then commentL (r.drop 4)
  else if f && cdataM.isPrefixOf r then (if (findR [93, 93, 62] (r.drop 9)).1 = [] then dataL f ((findR [93, 93, 62] (r.drop 9)).2.drop 3) else ({ kind := 1, text := (findR [93, 93, 62] (r.drop 9)).1 }, (findR [93, 93, 62] (r.drop 9)).2.drop 3))
  else if [60, 33].isPrefixOf r then (if 9 ≤ r.length ∧ lowerL ((r.drop 2).take 7) = doctypeM then ({ kind := 5 }, (otherL (r.drop 9)).2) else otherL (r.drop 2))
  else if [60, 63].isPrefixOf r then otherL (r.drop 1)
  else endedL (r.drop 1) false
theorem dataL_step (f : Bool) (r : List UInt8) (h0 : r ≠ []) : dataL f r = dataS f r := by
  have hl : 1 ≤ r.length := by
    cases r with
    | nil => exact absurd rfl h0
    | cons c q => simp
  have hf := findR_le [93, 93, 62] (r.drop 9)
  rw [List.length_drop] at hf
  unfold dataL dataS
  obtain ⟨n, hn⟩ : ∃ n, r.length = n + 1 := ⟨r.length - 1, by omega⟩
  rw [hn]
  have e1 := dataK_enough f n (r.drop 3).length (r.drop 3) (by rw [List.length_drop]; omega) (Nat.le_refl _)
  have e2 := dataK_enough f n ((findR [93, 93, 62] (r.drop 9)).2.drop 3).length ((findR [93, 93, 62] (r.drop 9)).2.drop 3) (by rw [List.length_drop]; omega) (Nat.le_refl _)
  simp only [dataK, e1, e2, if_neg h0]
  unfold dataL
  rw [← hn]
theorem data_text (f : Bool) (r : List UInt8) (h : r ≠ []) (h0 : beginsB r = false) : dataL f r = ({ kind := 1, text := decL false (spanT r).1 }, (spanT r).2) := by
  rw [dataL_step f r h]; unfold dataS; rw [if_pos h0]
theorem data_skip (f : Bool) (r : List UInt8) (h : r ≠ []) (h0 : beginsB r = true) (h1 : [60, 47, 62].isPrefixOf r = true) : dataL f r = dataL f (r.drop 3) := by
  rw [dataL_step f r h]; unfold dataS; rw [if_neg (by rw [h0]; decide), if_pos h1]
theorem data_end (f : Bool) (r : List UInt8) (h : r ≠ []) (h0 : beginsB r = true) (h1 : [60, 47, 62].isPrefixOf r = false) (h2 : [60, 47].isPrefixOf r = true) : dataL f r = if letterN (r.getD 2 0).toNat then endedL (r.drop 2) true else otherL (r.drop 2) := by
  rw [dataL_step f r h]; unfold dataS; rw [if_neg (by rw [h0]; decide), if_neg (by rw [h1]; decide), if_pos h2]
theorem data_comment (f : Bool) (r : List UInt8) (h : r ≠ []) (h0 : beginsB r = true) (h1 : [60, 47, 62].isPrefixOf r = false) (h2 : [60, 47].isPrefixOf r = false) (h3 : [60, 33, 45, 45].isPrefixOf r = true) : dataL f r = commentL (r.drop 4) := by
  rw [dataL_step f r h]; unfold dataS; rw [if_neg (by rw [h0]; decide), if_neg (by rw [h1]; decide), if_neg (by rw [h2]; decide), if_pos h3]
theorem data_cdata (r : List UInt8) (h : r ≠ []) (h0 : beginsB r = true) (h1 : [60, 47, 62].isPrefixOf r = false) (h2 : [60, 47].isPrefixOf r = false) (h3 : [60, 33, 45, 45].isPrefixOf r = false) (h4 : cdataM.isPrefixOf r = true) : dataL true r = if (findR [93, 93, 62] (r.drop 9)).1 = [] then dataL true ((findR [93, 93, 62] (r.drop 9)).2.drop 3) else ({ kind := 1, text := (findR [93, 93, 62] (r.drop 9)).1 }, (findR [93, 93, 62] (r.drop 9)).2.drop 3) := by
  rw [dataL_step true r h]; unfold dataS; rw [if_neg (by rw [h0]; decide), if_neg (by rw [h1]; decide), if_neg (by rw [h2]; decide), if_neg (by rw [h3]; decide), if_pos (by rw [h4]; rfl)]
theorem data_bang (f : Bool) (r : List UInt8) (h : r ≠ []) (h0 : beginsB r = true) (h1 : [60, 47, 62].isPrefixOf r = false) (h2 : [60, 47].isPrefixOf r = false) (h3 : [60, 33, 45, 45].isPrefixOf r = false) (h4 : (f && cdataM.isPrefixOf r) = false) (h5 : [60, 33].isPrefixOf r = true) : dataL f r = if 9 ≤ r.length ∧ lowerL ((r.drop 2).take 7) = doctypeM then ({ kind := 5 }, (otherL (r.drop 9)).2) else otherL (r.drop 2) := by
  rw [dataL_step f r h]; unfold dataS; rw [if_neg (by rw [h0]; decide), if_neg (by rw [h1]; decide), if_neg (by rw [h2]; decide), if_neg (by rw [h3]; decide), if_neg (by rw [h4]; decide), if_pos h5]
theorem data_ask (f : Bool) (r : List UInt8) (h : r ≠ []) (h0 : beginsB r = true) (h1 : [60, 47, 62].isPrefixOf r = false) (h2 : [60, 47].isPrefixOf r = false) (h3 : [60, 33, 45, 45].isPrefixOf r = false) (h4 : (f && cdataM.isPrefixOf r) = false) (h5 : [60, 33].isPrefixOf r = false) (h6 : [60, 63].isPrefixOf r = true) : dataL f r = otherL (r.drop 1) := by
  rw [dataL_step f r h]; unfold dataS; rw [if_neg (by rw [h0]; decide), if_neg (by rw [h1]; decide), if_neg (by rw [h2]; decide), if_neg (by rw [h3]; decide), if_neg (by rw [h4]; decide), if_neg (by rw [h5]; decide), if_pos h6]
theorem data_tag (f : Bool) (r : List UInt8) (h : r ≠ []) (h0 : beginsB r = true) (h1 : [60, 47, 62].isPrefixOf r = false) (h2 : [60, 47].isPrefixOf r = false) (h3 : [60, 33, 45, 45].isPrefixOf r = false) (h4 : (f && cdataM.isPrefixOf r) = false) (h5 : [60, 33].isPrefixOf r = false) (h6 : [60, 63].isPrefixOf r = false) : dataL f r = endedL (r.drop 1) false := by
  rw [dataL_step f r h]; unfold dataS; rw [if_neg (by rw [h0]; decide), if_neg (by rw [h1]; decide), if_neg (by rw [h2]; decide), if_neg (by rw [h3]; decide), if_neg (by rw [h4]; decide), if_neg (by rw [h5]; decide), if_neg (by rw [h6]; decide)]
end Go.Proofs.YtpppdfjdngmaoaaGreatDoor.S4
namespace Go.Proofs.YtpppdfjdngmaoaaGreatDoor.S4
theorem valueL_sfx (r : List UInt8) : (valueL r).2 <:+ r := by
  obtain ⟨a, h⟩ := valueL_suf r
  exact ⟨a, h⟩
theorem findR_sfx (t r : List UInt8) : (findR t r).2 <:+ r := ⟨_, findR_app t r⟩
theorem loopT_sfx (k : Nat) : ∀ aa r x, loopT k aa r = some x → x.2.2 <:+ r := by
  induction k with
  | zero => intro aa r x h; simp [loopT] at h
  | succ k ih =>
    intro aa r x h
    simp only [loopT] at h
    have h0 : r.dropWhile passB <:+ r := List.dropWhile_suffix _
    cases hd : r.dropWhile passB with
    | nil => rw [hd] at h; simp at h
    | cons c r2 =>
      rw [hd] at h h0
      have h1 : r2 <:+ r := (List.suffix_cons c r2).trans h0
      simp only at h
      split at h
      · cases h
        exact h1
      · have h2 : (r2.dropWhile attrB).dropWhile isSp <:+ r := ((List.dropWhile_suffix _).trans (List.dropWhile_suffix _)).trans h1
        cases hr : (r2.dropWhile attrB).dropWhile isSp with
        | nil =>
          rw [hr] at h
          exact (ih _ _ _ h).trans (List.nil_suffix)
        | cons d r4 =>
          rw [hr] at h h2
          simp only at h
          split at h
          · exact (ih _ _ _ h).trans (((valueL_sfx _).trans (List.dropWhile_suffix _)).trans ((List.suffix_cons d r4).trans h2))
          · exact (ih _ _ _ h).trans h2
theorem endedL_sfx (r : List UInt8) (stop : Bool) : (endedL r stop).2 <:+ r := by
  unfold endedL
  cases h : tagL r with
  | none => exact List.nil_suffix
  | some x =>
    obtain ⟨t, q⟩ := x
    have hq : q <:+ r := by
      unfold tagL at h
      cases hl : loopT (r.length + 1) [] (r.dropWhile nameB) with
      | none => rw [hl] at h; simp at h
      | some y =>
        rw [hl] at h
        simp only [Option.map_some, Option.some.injEq, Prod.mk.injEq] at h
        rw [← h.2]
        exact (loopT_sfx _ _ _ _ hl).trans (List.dropWhile_suffix _)
    simp only
    split <;> exact hq
theorem otherL_sfx (r : List UInt8) : (otherL r).2 <:+ r := (List.drop_suffix _ _).trans (findR_sfx _ _)
theorem findC_sfx : ∀ r x, findC r = some x → x.2 <:+ r
  | [], x, h => by simp [findC] at h
  | c :: r, x, h => by
    simp only [findC] at h
    split at h
    · cases h; exact List.drop_suffix _ _
    · split at h
      · cases h; exact List.drop_suffix _ _
      · cases hf : findC r with
        | none => rw [hf] at h; simp at h
        | some y =>
          rw [hf] at h
          simp only [Option.map_some, Option.some.injEq] at h
          subst h
          exact (findC_sfx r y hf).trans (List.suffix_cons c r)
theorem commentL_sfx (r : List UInt8) : (commentL r).2 <:+ r := by
  unfold commentL
  split
  · exact List.drop_suffix _ _
  · split
    · exact List.drop_suffix _ _
    · split
      · rename_i a b h
        exact findC_sfx r _ h
      · exact List.nil_suffix
theorem dataK_sfx (f : Bool) (k : Nat) : ∀ r, (dataK f k r).2 <:+ r := by
  induction k with
  | zero => intro r; exact List.nil_suffix
  | succ k ih =>
    intro r
    simp only [dataK]
    split
    · exact List.nil_suffix
    · split
      · exact ⟨_, spanT_app r⟩
      · split
        · exact (ih _).trans (List.drop_suffix _ _)
        · split
          · split
            · exact (endedL_sfx _ _).trans (List.drop_suffix _ _)
            · exact (otherL_sfx _).trans (List.drop_suffix _ _)
          · split
            · exact (commentL_sfx _).trans (List.drop_suffix _ _)
            · split
              · split
                · exact (ih _).trans ((List.drop_suffix _ _).trans ((findR_sfx _ _).trans (List.drop_suffix _ _)))
                · exact (List.drop_suffix _ _).trans ((findR_sfx _ _).trans (List.drop_suffix _ _))
              · split
                · split
                  · exact (otherL_sfx _).trans (List.drop_suffix _ _)
                  · exact (otherL_sfx _).trans (List.drop_suffix _ _)
                · split
                  · exact (otherL_sfx _).trans (List.drop_suffix _ _)
                  · exact (endedL_sfx _ _).trans (List.drop_suffix _ _)
theorem nextR_sfx (mode : Int) (n : List UInt8) (f : Bool) (r : List UInt8) : (nextR mode n f r).2 <:+ r := by
  unfold nextR
  split
  · exact List.nil_suffix
  · split
    · exact List.nil_suffix
    · split
      · exact dataK_sfx f _ r
      · split
        · exact (endedL_sfx _ _).trans (List.drop_suffix _ _)
        · exact ⟨_, spanS_app n r⟩
theorem nextR_back (mode : Int) (n : List UInt8) (f : Bool) (s : ByteArray) (k : Nat) (hk : k ≤ s.size) : s.data.toList.drop (s.size - (nextR mode n f (s.data.toList.drop k)).2.length) = (nextR mode n f (s.data.toList.drop k)).2 ∧ s.size - (nextR mode n f (s.data.toList.drop k)).2.length ≤ s.size := by
  obtain ⟨a, h⟩ := nextR_sfx mode n f (s.data.toList.drop k)
  have := drop_back s k hk a _ h
  exact ⟨this.1, this.2.2.1⟩
theorem nextR_nil (mode : Int) (n : List UInt8) (f : Bool) : nextR mode n f [] = ({ kind := 0 }, []) := by
  unfold nextR; rw [if_pos rfl]
end Go.Proofs.YtpppdfjdngmaoaaGreatDoor.S4
namespace Go.Proofs.YtpppdfjdngmaoaaGreatDoor.S4
open Go.RowKit
def tokV (t : Tok) (sv : Value) : Value := .agg #[.int .i64 (t.kind : Int), .string ⟨t.name.toArray⟩, sv, .bool t.closed, .string ⟨t.text.toArray⟩]
theorem wpList_append_run {P : Program} {ops : Array Oper} {rest : List Oper} {o : Oper} {a : Act} {Q : Exit → Act → World → Prop} {w : World} (hgd : o.guard = none) (s x : Operand) (t : TypeId)
    (ho : o.op = .call { callee := .builtin .append, args := #[s, x], argTypes := #[t, t] }) (v1 v2 v' : Value) (w' : World) (hs : a.eval s = v1) (hx : a.eval x = v2)
    (hr : (Builtin.append_ #[t, t] o.type #[v1, v2]).run P w = .ok v' w') (h : wpList P ops Q rest (a.put o.dst v') w') : wpList P ops Q (o :: rest) a w :=
  wpList_plain hgd fun _ hK => by
    unfold Oper.wp execOp
    simp only [ho, resolve, invoke, builtin, Sem.run_bind, Sem.run_pure, Result.andThen_ok, List.map_toArray, List.map_cons, List.map_nil, hs, hx, hr]
    exact hK _ _ h
theorem spanT_step (s : ByteArray) (k : Nat) (h : k < s.size) : (spanT (s.data.toList.drop k)).2 = if beginsB (s.data.toList.drop k) then s.data.toList.drop k else (spanT (s.data.toList.drop (k + 1))).2 := by
  rw [drop_cons s k h]
  simp only [spanT]
  split <;> rfl
def PreC (L l : List UInt8) (k : Nat) : Prop := findC L = (findC l).map fun x => (L.take k ++ x.1, x.2)
theorem preC_start (L : List UInt8) : PreC L L 0 := by
  unfold PreC
  cases findC L <;> simp
theorem preC_step (L : List UInt8) (k : Nat) (c : UInt8) (r : List UInt8) (hk : L.drop k = c :: r) (h1 : [45, 45, 62].isPrefixOf (c :: r) = false) (h2 : [45, 45, 33, 62].isPrefixOf (c :: r) = false) (h : PreC L (L.drop k) k) : PreC L r (k + 1) := by
  unfold PreC at *
  rw [h, hk]
  simp only [findC, h1, h2, Bool.false_eq_true, if_false]
  have e : L.take (k + 1) = L.take k ++ [c] := by
    have hlt : k < L.length := by
      have := congrArg List.length hk
      rw [List.length_drop, List.length_cons] at this
      omega
    rw [List.take_succ_eq_append_getElem hlt]
    have := List.drop_eq_getElem_cons hlt
    rw [hk] at this
    rw [(List.cons.inj this).1]
  rw [e]
  cases findC r <;> simp
theorem preC_3 (L : List UInt8) (k : Nat) (h1 : [45, 45, 62].isPrefixOf (L.drop k) = true) (h : PreC L (L.drop k) k) : findC L = some (L.take k, L.drop (k + 3)) := by
  unfold PreC at h
  cases hk : L.drop k with
  | nil => rw [hk] at h1; simp [List.isPrefixOf] at h1
  | cons c r =>
    rw [hk] at h1 h
    rw [h]
    simp only [findC, h1, if_true, Option.map_some, List.append_nil]
    rw [← hk, List.drop_drop]
theorem preC_4 (L : List UInt8) (k : Nat) (h0 : [45, 45, 62].isPrefixOf (L.drop k) = false) (h1 : [45, 45, 33, 62].isPrefixOf (L.drop k) = true) (h : PreC L (L.drop k) k) : findC L = some (L.take k, L.drop (k + 4)) := by
  unfold PreC at h
  cases hk : L.drop k with
  | nil => rw [hk] at h1; simp [List.isPrefixOf] at h1
  | cons c r =>
    rw [hk] at h1 h h0
    rw [h]
    simp only [findC, h0, h1, if_true, Bool.false_eq_true, if_false, Option.map_some, List.append_nil]
    rw [← hk, List.drop_drop]
theorem preC_end (L : List UInt8) (k : Nat) (h : PreC L [] k) : findC L = none := by
  unfold PreC at h
  rw [h]
  rfl
def restC (r : List UInt8) : List UInt8 × List UInt8 :=
  match findC r with
  | some x => x
  | none => (trimC r, [])
theorem below_drewN {B : Nat} {a w : World} (h : Below B a w) : ∀ n, Below B a (w.drewN n)
  | 0 => h
  | n + 1 => (below_drewN h n).drew
theorem below_set5b {w w2 : World} (h : Below w.heap.size w w2) (v0 v1 v2 v3 v4 : Value) : Below w.heap.size w (((((w2.setCell ⟨w.heap.size, 0, none⟩ v0).setCell ⟨w.heap.size, 1, none⟩ v1).setCell ⟨w.heap.size, 2, none⟩ v2).setCell ⟨w.heap.size, 3, none⟩ v3).setCell ⟨w.heap.size, 4, none⟩ v4) :=
  ((((h.setCell (Nat.le_refl _) _).setCell (Nat.le_refl _) _).setCell (Nat.le_refl _) _).setCell (Nat.le_refl _) _).setCell (Nat.le_refl _) _
theorem restC_some (r : List UInt8) (x : List UInt8 × List UInt8) (h : findC r = some x) : restC r = x := by
  unfold restC; rw [h]
theorem restC_none (r : List UInt8) (h : findC r = none) : restC r = (trimC r, []) := by
  unfold restC; rw [h]
abbrev AttrL := List (List UInt8 × List UInt8)
def IsA (w : World) (v : Value) (aa : AttrL) : Prop :=
  (v = .slice none 0 0 ∧ aa = []) ∨ ∃ b o cap, v = .slice (some ⟨b, o, none⟩) aa.length cap ∧ aa.length ≤ cap ∧
    ∀ j (hj : j < aa.length), w.cell? ⟨b, o + j * 2, none⟩ = some (.string ⟨aa[j].1.toArray⟩) ∧ w.cell? ⟨b, o + j * 2 + 1, none⟩ = some (.string ⟨aa[j].2.toArray⟩)
theorem IsA.below {w W : World} {v : Value} {aa : AttrL} (h : IsA w v aa) (hb : Below w.heap.size w W) : IsA W v aa := by
  rcases h with h | ⟨b, o, cap, h1, h2, h3⟩
  · exact .inl h
  · refine .inr ⟨b, o, cap, h1, h2, fun j hj => ?_⟩
    obtain ⟨c1, c2⟩ := h3 j hj
    exact ⟨by rw [hb.cell (cell_lt c1)]; exact c1, by rw [hb.cell (cell_lt c2)]; exact c2⟩
def attrCells : AttrL → List Value
  | [] => []
  | a :: r => .string ⟨a.1.toArray⟩ :: .string ⟨a.2.toArray⟩ :: attrCells r
theorem attrCells_len : ∀ aa : AttrL, (attrCells aa).length = aa.length * 2
  | [] => rfl
  | a :: r => by
    simp only [attrCells, List.length_cons, attrCells_len r]
    omega
theorem attrCells_app : ∀ aa bb : AttrL, attrCells (aa ++ bb) = attrCells aa ++ attrCells bb
  | [], bb => rfl
  | a :: r, bb => by
    simp only [List.cons_append, attrCells, attrCells_app r bb]
theorem attrCells_get : ∀ (aa : AttrL) (j : Nat) (hj : j < aa.length), (attrCells aa)[j * 2]? = some (.string ⟨aa[j].1.toArray⟩) ∧ (attrCells aa)[j * 2 + 1]? = some (.string ⟨aa[j].2.toArray⟩)
  | a :: r, 0, _ => ⟨rfl, rfl⟩
  | a :: r, j + 1, hj => by
    have h := attrCells_get r j (by simpa using hj)
    rw [show (j + 1) * 2 = j * 2 + 1 + 1 by omega]
    exact h
theorem attrCells_1c : ∀ (aa : AttrL), ∀ u ∈ attrCells aa, u.oneCell' = true
  | [] => by intro u hu; cases hu
  | a :: r => by
    intro u hu
    simp only [attrCells, List.mem_cons] at hu
    rcases hu with rfl | rfl | hu
    · rfl
    · rfl
    · exact attrCells_1c r u hu
theorem owns_isA {w : World} {B n : Nat} {v : Value} {aa : AttrL} (h : w.ownsRow B 66 2 v n (attrCells aa)) : IsA w v aa := by
  have hn : n = aa.length := by
    have := h.1
    rw [attrCells_len] at this
    omega
  subst hn
  rcases h.2 with ⟨rfl, h2⟩ | ⟨g, cap, cur, rfl, _, _, hc, _, _, _⟩
  · exact .inl ⟨rfl, List.eq_nil_of_length_eq_zero h2⟩
  · refine .inr ⟨g, 0, cap, rfl, hc, fun j hj => ?_⟩
    obtain ⟨g1, g2⟩ := attrCells_get aa j hj
    have c1 := h.cells rfl _ _ g1
    have c2 := h.cells rfl _ _ g2
    rw [addr_add] at c1 c2
    rw [Nat.zero_add]
    exact ⟨c1, c2⟩
theorem owns_below {w W : World} {B n : Nat} {e : TypeId} {z : Nat} {v : Value} {xs : List Value} (h : w.ownsRow B e z v n xs) (hb : Below w.heap.size w W) : W.ownsRow B e z v n xs := by
  refine ⟨h.1, ?_⟩
  rcases h.2 with h2 | ⟨g, cap, cur, h1, h2, h3, h4⟩
  · exact .inl h2
  · refine .inr ⟨g, cap, cur, h1, h2, ?_, h4⟩
    have hg : g < w.heap.size := (Array.getElem?_eq_some_iff.1 h3).1
    rw [hb.block g hg]; exact h3
theorem append_attr (W : World) (B n : Nat) (v : Value) (aa : AttrL) (a : List UInt8 × List UInt8) (hown : W.ownsRow B 66 2 v n (attrCells aa)) (hl : n ≤ 1000000) (hB : B ≤ W.heap.size) :
    ∃ v' w', (Builtin.append_ #[44, 44] 44 #[v, .slice (some ⟨W.heap.size, 0, none⟩) 1 1]).run Tryz.prog (W.alloc (.cells #[.string ⟨a.1.toArray⟩, .string ⟨a.2.toArray⟩] 66)) = .ok v' w' ∧ w'.ownsRow B 66 2 v' (n + 1) (attrCells (aa ++ [a])) ∧ Below B W w' := by
  have b0 : Below W.heap.size W (W.alloc (.cells #[.string ⟨a.1.toArray⟩, .string ⟨a.2.toArray⟩] 66)) := (Below.refl _ W).alloc (Nat.le_refl _) _
  have hown2 := owns_below hown b0
  have hblk : ∀ k, v.ownBlock = some k → B ≤ k := by
    intro k hk
    rcases hown.2 with ⟨rfl, _⟩ | ⟨g, cap, cur, rfl, h2, _⟩
    · simp [Value.ownBlock] at hk
    · simp [Value.ownBlock] at hk; omega
  obtain ⟨v', w', hr, ho, hg, _⟩ := run_append_own (P := Tryz.prog) (W.alloc (.cells #[.string ⟨a.1.toArray⟩, .string ⟨a.2.toArray⟩] 66)) B 44 44 66 Tryz.t66 (.agg #[.string ⟨#[]⟩, .string ⟨#[]⟩]) 2 32 Tryz.underlying44 (by kernel_rfl) (by kernel_rfl) (by kernel_rfl) (by kernel_rfl) (by kernel_rfl) (by omega)
      v n (attrCells aa) hown2 ⟨W.heap.size, 0, none⟩ 1 1 (attrCells [a]) rfl
      (by
        intro j u hu
        have hj : j < 2 := (List.getElem?_eq_some_iff.1 hu).1
        rcases (by omega : j = 0 ∨ j = 1) with rfl | rfl
        · have : u = .string ⟨a.1.toArray⟩ := (Option.some.inj hu).symm
          subst this
          rw [addr_add, World.cell?_alloc_mark]
          rfl
        · have : u = .string ⟨a.2.toArray⟩ := (Option.some.inj hu).symm
          subst this
          rw [addr_add, World.cell?_alloc_mark]
          rfl) (attrCells_1c [a]) (by unfold maxLen; omega) (by omega) (by simp; omega)
  refine ⟨v', w', hr, ?_, ((b0.mono hB)).grown hg (by simp; omega) hblk⟩
  rw [attrCells_app]
  exact ho
def tok0 : List Value := [.int .i64 0, .string ⟨#[]⟩, .slice none 0 0, .bool false, .string ⟨#[]⟩]
theorem set_other (W : World) (a b : Addr) (v : Value) (h : a ≠ b) : (W.setCell a v).cell? b = W.cell? b := by
  apply World.cell?_setCell_other
  exact h
theorem set_same (W : World) (a : Addr) (v u : Value) (h : W.cell? a = some u) : (W.setCell a v).cell? a = some v := by
  apply World.cell?_setCell_same
  exact h
theorem owns_set {w : World} {B n : Nat} {e : TypeId} {z : Nat} {v : Value} {xs : List Value} (h : w.ownsRow B e z v n xs) (a : Addr) (u : Value) (hb : a.block < B) : (w.setCell a u).ownsRow B e z v n xs := by
  refine ⟨h.1, ?_⟩
  rcases h.2 with h2 | ⟨g, cap, cur, h1, h2, h3, h4⟩
  · exact .inl h2
  · refine .inr ⟨g, cap, cur, h1, h2, ?_, h4⟩
    rw [Below.heap_setCell w a u g (by omega)]
    exact h3
theorem owns_form {w : World} {B n : Nat} {e : TypeId} {z : Nat} {v : Value} {xs : List Value} (h : w.ownsRow B e z v n xs) : ∃ a c, v = .slice a n c := by
  rcases h.2 with ⟨h1, h2⟩ | ⟨g, cap, _, h1, _⟩
  · subst h2
    exact ⟨_, _, h1⟩
  · exact ⟨_, _, h1⟩
theorem IsA.set {w : World} {v : Value} {aa : AttrL} (h : IsA w v aa) (a : Addr) (u : Value) (hb : ∀ k, v.ownBlock = some k → k ≠ a.block) : IsA (w.setCell a u) v aa := by
  rcases h with h | ⟨b, o, cap, rfl, h2, h3⟩
  · exact .inl h
  · have hn : b ≠ a.block := hb b rfl
    refine .inr ⟨b, o, cap, rfl, h2, fun j hj => ?_⟩
    obtain ⟨c1, c2⟩ := h3 j hj
    exact ⟨by rw [set_other _ _ _ _ (fun e => hn (by rw [e]))]; exact c1, by rw [set_other _ _ _ _ (fun e => hn (by rw [e]))]; exact c2⟩
theorem IsA.alloc {w : World} {v : Value} {aa : AttrL} (h : IsA w v aa) (o : Obj) : IsA (w.alloc o) v aa := h.below (below_alloc w o)
def TokAt (w w' : World) (e : Ending) (s : ByteArray) (R : Tok × List UInt8) : Prop := ∃ sv, IsA w' sv R.1.attrs ∧ (∀ k, sv.ownBlock = some k → w.heap.size ≤ k) ∧ e = .returned (.tuple #[tokV R.1 sv, .int .i64 (s.size - R.2.length : Nat)])
def nextZ (mode : Int) (n : List UInt8) (f : Bool) (l : List UInt8) (z : Int) : Tok × List UInt8 := if 0 ≤ z ∧ z < l.length then nextR mode n f (l.drop z.toNat) else ({ kind := 0 }, [])
theorem nextZ_in (mode : Int) (n : List UInt8) (f : Bool) (l : List UInt8) (p : Nat) (h : p < l.length) : nextZ mode n f l (p : Int) = nextR mode n f (l.drop p) := by
  unfold nextZ
  rw [if_pos (by omega), show (p : Int).toNat = p by omega]
theorem nextZ_out (mode : Int) (n : List UInt8) (f : Bool) (l : List UInt8) (z : Int) (h : z < 0 ∨ (l.length : Int) ≤ z) : nextZ mode n f l z = ({ kind := 0 }, []) := by
  unfold nextZ
  rw [if_neg (by omega)]
theorem spanS_step (n : List UInt8) (s : ByteArray) (k : Nat) (h : k < s.size) : (spanS n (s.data.toList.drop k)).2 = if stopB n (s.data.toList.drop k) then s.data.toList.drop k else (spanS n (s.data.toList.drop (k + 1))).2 := by
  rw [drop_cons s k h]
  simp only [spanS]
  split <;> rfl
theorem isA_form {w : World} {v : Value} {aa : AttrL} (h : IsA w v aa) : ∃ a c, v = .slice a aa.length c := by
  rcases h with ⟨rfl, rfl⟩ | ⟨b, o, cap, rfl, _⟩
  · exact ⟨_, _, rfl⟩
  · exact ⟨_, _, rfl⟩
abbrev RowL := List (Tok × Value)
def tokC (p : Tok × Value) : List Value := [.int .i64 (p.1.kind : Int), .string ⟨p.1.name.toArray⟩, p.2, .bool p.1.closed, .string ⟨p.1.text.toArray⟩]
def tokCells : RowL → List Value
  | [] => []
  | p :: r => tokC p ++ tokCells r
theorem isA_nil {w : World} {v : Value} (W : World) (h : IsA w v []) : IsA W v [] := by
  rcases h with h | ⟨b, o, cap, h1, h2, _⟩
  · exact .inl h
  · exact .inr ⟨b, o, cap, h1, h2, fun j hj => by simp at hj⟩
theorem isA_keep {w W : World} {v : Value} {aa : AttrL} (h : IsA w v aa) (hk : aa = [] ∨ ∀ b, v.ownBlock = some b → W.heap[b]? = w.heap[b]?) : IsA W v aa := by
  rcases hk with rfl | hk
  · exact isA_nil W h
  · rcases h with h | ⟨b, o, cap, rfl, h2, h3⟩
    · exact .inl h
    · have hb := hk b rfl
      refine .inr ⟨b, o, cap, rfl, h2, fun j hj => ?_⟩
      obtain ⟨c1, c2⟩ := h3 j hj
      exact ⟨by rw [World.cell?_of_block (a := ⟨b, o + j * 2, none⟩) hb]; exact c1, by rw [World.cell?_of_block (a := ⟨b, o + j * 2 + 1, none⟩) hb]; exact c2⟩
def AttOk (wr : World) (G : Nat) (lv : Value) (p : Tok × Value) : Prop := p.2.oneCell' = true ∧ IsA wr p.2 p.1.attrs ∧ (p.1.attrs = [] ∨ ∀ b, p.2.ownBlock = some b → b < wr.heap.size ∧ b ≠ G ∧ lv.ownBlock ≠ some b)
theorem AttOk.keep {w W : World} {G : Nat} {lv lv' : Value} {p : Tok × Value} (h : AttOk w G lv p) (hk : ∀ b, b < w.heap.size → b ≠ G → lv.ownBlock ≠ some b → W.heap[b]? = w.heap[b]? ∧ b < W.heap.size ∧ lv'.ownBlock ≠ some b) : AttOk W G lv' p := by
  obtain ⟨h1, h2, h3⟩ := h
  rcases h3 with h3 | h3
  · exact ⟨h1, isA_keep h2 (.inl h3), .inl h3⟩
  · refine ⟨h1, isA_keep h2 (.inr fun b hb => ?_), .inr fun b hb => ?_⟩
    · obtain ⟨a, c, d⟩ := h3 b hb
      exact (hk b a c d).1
    · obtain ⟨a, c, d⟩ := h3 b hb
      exact ⟨(hk b a c d).2.1, c, (hk b a c d).2.2⟩
structure AllS (w wr : World) (G : Nat) (lv : Value) (ts : RowL) (t : Tok) (sv : Value) : Prop where
  bel : Below w.heap.size w wr
  lt : w.heap.size ≤ G
  lt2 : G < wr.heap.size
  cs : ∀ o, wr.cell? ⟨G, o, none⟩ = (tokC (t, sv))[o]?
  cf : ∀ o, wr.frozen? ⟨G, o, none⟩ = false
  own : wr.ownsRow w.heap.size 84 5 lv ts.length (tokCells ts)
  lvG : lv.ownBlock ≠ some G
  att : ∀ p ∈ ts, AttOk wr G lv p
  att1 : AttOk wr G lv (t, sv)
theorem AllS.call {w wr W : World} {G : Nat} {lv : Value} {ts : RowL} {t : Tok} {sv : Value} (h : AllS w wr G lv ts t sv) (hb : Below wr.heap.size wr W) : AllS w W G lv ts t sv where
  bel := h.bel.trans (hb.mono h.bel.size)
  lt := h.lt
  lt2 := Nat.lt_of_lt_of_le h.lt2 hb.size
  cs := fun o => by rw [hb.cell (p := ⟨G, o, none⟩) h.lt2]; exact h.cs o
  cf := fun o => by rw [hb.frozen (p := ⟨G, o, none⟩) h.lt2]; exact h.cf o
  own := owns_below h.own hb
  lvG := h.lvG
  att := fun p hp => (h.att p hp).keep fun b b1 b2 b3 => ⟨hb.block b b1, Nat.lt_of_lt_of_le b1 hb.size, b3⟩
  att1 := h.att1.keep fun b b1 b2 b3 => ⟨hb.block b b1, Nat.lt_of_lt_of_le b1 hb.size, b3⟩
theorem AllS.push {w wr W : World} {G : Nat} {lv lv' : Value} {ts : RowL} {t : Tok} {sv : Value} (h : AllS w wr G lv ts t sv) (hb : Below w.heap.size wr W) (ho : W.ownsRow w.heap.size 84 5 lv' (ts ++ [(t, sv)]).length (tokCells (ts ++ [(t, sv)])))
    (hk : ∀ k, k < wr.heap.size → lv.ownBlock ≠ some k → W.heap[k]? = wr.heap[k]?) (hbk : lv'.ownBlock = lv.ownBlock ∨ lv'.ownBlock = some (wr.heap.size + 1)) : AllS w W G lv' (ts ++ [(t, sv)]) t sv := by
  have key : ∀ b, b < wr.heap.size → b ≠ G → lv.ownBlock ≠ some b → W.heap[b]? = wr.heap[b]? ∧ b < W.heap.size ∧ lv'.ownBlock ≠ some b := fun b b1 b2 b3 => ⟨hk b b1 b3, Nat.lt_of_lt_of_le b1 hb.size, by
    rcases hbk with e | e
    · rw [e]; exact b3
    · rw [e]; intro hc; have := Option.some.inj hc; omega⟩
  have a1 := h.att1.keep key
  have hG := hk G h.lt2 h.lvG
  refine { bel := h.bel.trans hb, lt := h.lt, lt2 := Nat.lt_of_lt_of_le h.lt2 hb.size, cs := fun o => ?_, cf := fun o => ?_, own := ho, lvG := ?_, att := fun p hp => ?_, att1 := a1 }
  · rw [World.cell?_of_block (a := ⟨G, o, none⟩) hG]; exact h.cs o
  · rw [World.frozen?_of_block (a := ⟨G, o, none⟩) hG]; exact h.cf o
  · rcases hbk with e | e
    · rw [e]; exact h.lvG
    · rw [e]; intro hc; have := Option.some.inj hc; have := h.lt2; omega
  · rcases List.mem_append.1 hp with hp | hp
    · exact (h.att p hp).keep key
    · rw [List.mem_singleton.1 hp]; exact a1
def put5 (W : World) (G : Nat) (p : Tok × Value) : World := ((((W.setCell ⟨G, 0, none⟩ (.int .i64 (p.1.kind : Int))).setCell ⟨G, 1, none⟩ (.string ⟨p.1.name.toArray⟩)).setCell ⟨G, 2, none⟩ p.2).setCell ⟨G, 3, none⟩ (.bool p.1.closed)).setCell ⟨G, 4, none⟩ (.string ⟨p.1.text.toArray⟩)
theorem put5_heap (W : World) (G : Nat) (p : Tok × Value) (b : Nat) (h : b ≠ G) : (put5 W G p).heap[b]? = W.heap[b]? := by
  unfold put5
  rw [Below.heap_setCell _ _ _ b h, Below.heap_setCell _ _ _ b h, Below.heap_setCell _ _ _ b h, Below.heap_setCell _ _ _ b h, Below.heap_setCell _ _ _ b h]
theorem put5_size (W : World) (G : Nat) (p : Tok × Value) : (put5 W G p).heap.size = W.heap.size := by
  simp [put5, World.setCell]
theorem AllS.put5 {w wr : World} {G : Nat} {lv : Value} {ts : RowL} {t : Tok} {sv : Value} (h : AllS w wr G lv ts t sv) (t' : Tok) (sv' : Value) (ha : AttOk wr G lv (t', sv')) : AllS w (put5 wr G (t', sv')) G lv ts t' sv' := by
  have key : ∀ b, b < wr.heap.size → b ≠ G → lv.ownBlock ≠ some b → (Go.Proofs.YtpppdfjdngmaoaaGreatDoor.S4.put5 wr G (t', sv')).heap[b]? = wr.heap[b]? ∧ b < (Go.Proofs.YtpppdfjdngmaoaaGreatDoor.S4.put5 wr G (t', sv')).heap.size ∧ lv.ownBlock ≠ some b := fun b b1 b2 b3 => ⟨put5_heap _ _ _ b b2, by rw [put5_size]; exact b1, b3⟩
  have e0 : wr.cell? ⟨G, 0, none⟩ = some (.int .i64 (t.kind : Int)) := h.cs 0
  have e1 : wr.cell? ⟨G, 1, none⟩ = some (.string ⟨t.name.toArray⟩) := h.cs 1
  have e2 : wr.cell? ⟨G, 2, none⟩ = some sv := h.cs 2
  have e3 : wr.cell? ⟨G, 3, none⟩ = some (.bool t.closed) := h.cs 3
  have e4 : wr.cell? ⟨G, 4, none⟩ = some (.string ⟨t.text.toArray⟩) := h.cs 4
  have ne : ∀ (i j : Nat), i ≠ j → (⟨G, i, none⟩ : Addr) ≠ ⟨G, j, none⟩ := fun i j hij e => hij (congrArg Addr.off e)
  refine { bel := ((((h.bel.setCell h.lt _).setCell h.lt _).setCell h.lt _).setCell h.lt _).setCell h.lt _, lt := h.lt, lt2 := by rw [put5_size]; exact h.lt2, cs := fun o => ?_, cf := fun o => ?_, own := ?_, lvG := h.lvG, att := fun p hp => (h.att p hp).keep key, att1 := ha.keep key }
  · unfold Go.Proofs.YtpppdfjdngmaoaaGreatDoor.S4.put5
    rcases (by omega : o = 0 ∨ o = 1 ∨ o = 2 ∨ o = 3 ∨ o = 4 ∨ 5 ≤ o) with rfl | rfl | rfl | rfl | rfl | ho
    · rw [set_other _ _ _ _ (ne 4 0 (by decide)), set_other _ _ _ _ (ne 3 0 (by decide)), set_other _ _ _ _ (ne 2 0 (by decide)), set_other _ _ _ _ (ne 1 0 (by decide)), set_same _ _ _ _ e0]
      rfl
    · rw [set_other _ _ _ _ (ne 4 1 (by decide)), set_other _ _ _ _ (ne 3 1 (by decide)), set_other _ _ _ _ (ne 2 1 (by decide)), set_same _ _ _ _ (by rw [set_other _ _ _ _ (ne 0 1 (by decide))]; exact e1)]
      rfl
    · rw [set_other _ _ _ _ (ne 4 2 (by decide)), set_other _ _ _ _ (ne 3 2 (by decide)), set_same _ _ _ _ (by rw [set_other _ _ _ _ (ne 1 2 (by decide)), set_other _ _ _ _ (ne 0 2 (by decide))]; exact e2)]
      rfl
    · rw [set_other _ _ _ _ (ne 4 3 (by decide)), set_same _ _ _ _ (by rw [set_other _ _ _ _ (ne 2 3 (by decide)), set_other _ _ _ _ (ne 1 3 (by decide)), set_other _ _ _ _ (ne 0 3 (by decide))]; exact e3)]
      rfl
    · rw [set_same _ _ _ _ (by rw [set_other _ _ _ _ (ne 3 4 (by decide)), set_other _ _ _ _ (ne 2 4 (by decide)), set_other _ _ _ _ (ne 1 4 (by decide)), set_other _ _ _ _ (ne 0 4 (by decide))]; exact e4)]
      rfl
    · rw [set_other _ _ _ _ (ne 4 o (by omega)), set_other _ _ _ _ (ne 3 o (by omega)), set_other _ _ _ _ (ne 2 o (by omega)), set_other _ _ _ _ (ne 1 o (by omega)), set_other _ _ _ _ (ne 0 o (by omega)), h.cs o]
      rw [List.getElem?_eq_none (by simp [tokC]; omega), List.getElem?_eq_none (by simp [tokC]; omega)]
  · unfold Go.Proofs.YtpppdfjdngmaoaaGreatDoor.S4.put5
    simp only [World.frozen?_setCell]
    exact h.cf o
  · refine ⟨h.own.1, ?_⟩
    rcases h.own.2 with h2 | ⟨g, cap, cur, h1, h2, h3, h4⟩
    · exact .inl h2
    · refine .inr ⟨g, cap, cur, h1, h2, ?_, h4⟩
      rw [put5_heap _ _ _ g (fun e => h.lvG (by rw [h1, e]; rfl))]
      exact h3
theorem nextZ_le (mode : Int) (n : List UInt8) (f : Bool) (l : List UInt8) (k : Nat) (h : k ≤ l.length) : nextZ mode n f l (k : Int) = nextR mode n f (l.drop k) := by
  by_cases hk : k < l.length
  · exact nextZ_in mode n f l k hk
  · rw [nextZ_out mode n f l k (.inr (by omega)), List.drop_eq_nil_of_le (by omega), nextR_nil]
end Go.Proofs.YtpppdfjdngmaoaaGreatDoor.S4
namespace Go.Proofs.YtpppdfjdngmaoaaGreatDoor.S4
open Go.RowKit
theorem encode_str (n : Nat) (hn : n ≤ 1114111) (hs : ¬ (55296 ≤ n ∧ n ≤ 57343)) : Utf8.encode (n : Int) = ⟨(Lib.encodeRune (n : Int)).toArray⟩ := by
  have hv : Utf8.valid (n : Int) = true := by
    unfold Utf8.valid
    simp only [Bool.or_eq_true, Bool.and_eq_true, decide_eq_true_eq]
    omega
  unfold Utf8.encode Lib.encodeRune
  simp only [hv, if_true, Int.toNat_natCast]
  rcases (by omega : n < 128 ∨ (128 ≤ n ∧ n < 2048) ∨ (2048 ≤ n ∧ n < 65536) ∨ 65536 ≤ n) with h | h | h | h
  · rw [Lib.encodeRuneZ_one (r := (n : Int)) (by omega) (by omega), if_pos (by omega)]
    rfl
  · rw [Lib.encodeRuneZ_two (r := (n : Int)) (by omega) (by omega), if_neg (by omega), if_pos (by omega)]
    simp only [List.map_cons, List.map_nil]
    rw [show (192 + (n : Int) / 64).toNat = 192 + n / 64 by omega, show (128 + (n : Int) % 64).toNat = 128 + n % 64 by omega]
  · rw [Lib.encodeRuneZ_three (r := (n : Int)) (by omega), if_neg (by omega), if_neg (by omega), if_pos (by omega)]
    simp only [List.map_cons, List.map_nil]
    rw [show (224 + (n : Int) / 4096).toNat = 224 + n / 4096 by omega, show (128 + (n : Int) / 64 % 64).toNat = 128 + n / 64 % 64 by omega, show (128 + (n : Int) % 64).toNat = 128 + n % 64 by omega]
  · rw [Lib.encodeRuneZ_four (r := (n : Int)) (by omega) (by omega), if_neg (by omega), if_neg (by omega), if_neg (by omega)]
    simp only [List.map_cons, List.map_nil]
    rw [show (240 + (n : Int) / 262144).toNat = 240 + n / 262144 by omega, show (128 + (n : Int) / 4096 % 64).toNat = 128 + n / 4096 % 64 by omega, show (128 + (n : Int) / 64 % 64).toNat = 128 + n / 64 % 64 by omega, show (128 + (n : Int) % 64).toNat = 128 + n % 64 by omega]
def OldOk (w : World) : Prop := ∀ j : Nat, j < 32 → w.cell? ⟨0, j, none⟩ = some (.int .i32 (oldN.getD j 0 : Nat))
theorem OldOk.below {w W : World} (h : OldOk w) (hb : Below w.heap.size w W) : OldOk W := by
  intro j hj
  rw [hb.cell (cell_lt (h j hj))]
  exact h j hj
theorem number_same (n : Int) (w : World) (ho : OldOk w) :
    Calls Tryz.prog 196 #[.int .i64 n] w fun e w' => e = .returned (.string ⟨(numberL n).toArray⟩) ∧ w' = w := by
  rcases (by omega : n ≤ 0 ∨ 1114111 < n ∨ (55296 ≤ n ∧ n ≤ 57343) ∨ (128 ≤ n ∧ n ≤ 159) ∨ (0 < n ∧ n < 128) ∨ (159 < n ∧ n < 55296) ∨ (57343 < n ∧ n ≤ 1114111)) with h | h | h | h | h | h | h
  · have hv : numberL n = [239, 191, 189] := by unfold numberL cpN; rw [if_pos (by omega)]; decide +kernel
    rw [hv]
    have d0 : n ≤ 0 := by omega
    clear h hv ho
    go_enter Tryz.func196, Tryz.ntmps196
    go_wp2
    go_ret
    exact ⟨rfl, rfl⟩
  · have hv : numberL n = [239, 191, 189] := by unfold numberL cpN; rw [if_pos (by omega)]; decide +kernel
    rw [hv]
    have d0 : ¬ (n ≤ 0) := by omega
    have d1 : 1114111 < n := by omega
    clear h hv ho
    go_enter Tryz.func196, Tryz.ntmps196
    go_wp2
    go_ret
    exact ⟨rfl, rfl⟩
  · have hv : numberL n = [239, 191, 189] := by unfold numberL cpN; rw [if_pos (by omega)]; decide +kernel
    rw [hv]
    have d0 : ¬ (n ≤ 0) := by omega
    have d1 : ¬ (1114111 < n) := by omega
    have d2 : 55296 ≤ n := by omega
    have d3 : n ≤ 57343 := by omega
    clear h hv ho
    go_enter Tryz.func196, Tryz.ntmps196
    go_wp2
    go_ret
    exact ⟨rfl, rfl⟩
  · have hv : numberL n = Lib.encodeRune ((oldN.getD (n - 128).toNat 0 : Nat) : Int) := by
      unfold numberL cpN
      rw [if_neg (by omega), if_pos (by omega)]
    have hr := old_range (n - 128).toNat (by omega)
    have he := encode_str _ hr.1 hr.2
    have hc := ho (n - 128).toNat (by omega)
    rw [hv, ← he]
    clear hv hr he ho
    generalize oldN.getD (n - 128).toNat 0 = c at *
    have d0 : ¬ (n ≤ 0) := by omega
    have d1 : ¬ (1114111 < n) := by omega
    have d2 : ¬ (55296 ≤ n) := by omega
    have d3 : 128 ≤ n := by omega
    have d4 : n ≤ 159 := by omega
    clear h
    go_enter Tryz.func196, Tryz.ntmps196
    go_wp2
    go_ret
    exact ⟨rfl, rfl⟩
  · obtain ⟨m, rfl⟩ : ∃ m : Nat, n = (m : Int) := ⟨n.toNat, by omega⟩
    have hv : numberL (m : Int) = Lib.encodeRune (m : Int) := by
      unfold numberL cpN
      rw [if_neg (by omega), if_neg (by omega)]
    have he := encode_str m (by omega) (by omega)
    rw [hv, ← he]
    clear hv he ho
    have d0 : ¬ ((m : Int) ≤ 0) := by omega
    have d1 : ¬ (1114111 < (m : Int)) := by omega
    have d2 : ¬ (55296 ≤ (m : Int)) := by omega
    have d3 : ¬ (128 ≤ (m : Int)) := by omega
    have d9 : IntKind.i32.wrap (m : Int) = m := by rw [IntKind.wrap]; simp [IntKind.bits, IntKind.signed]; omega
    clear h
    go_enter Tryz.func196, Tryz.ntmps196
    go_wp2
    go_ret
    exact ⟨rfl, rfl⟩
  · obtain ⟨m, rfl⟩ : ∃ m : Nat, n = (m : Int) := ⟨n.toNat, by omega⟩
    have hv : numberL (m : Int) = Lib.encodeRune (m : Int) := by
      unfold numberL cpN
      rw [if_neg (by omega), if_neg (by omega)]
    have he := encode_str m (by omega) (by omega)
    rw [hv, ← he]
    clear hv he ho
    have d0 : ¬ ((m : Int) ≤ 0) := by omega
    have d1 : ¬ (1114111 < (m : Int)) := by omega
    have d2 : ¬ (55296 ≤ (m : Int)) := by omega
    have d3 : 128 ≤ (m : Int) := by omega
    have d4 : ¬ ((m : Int) ≤ 159) := by omega
    have d9 : IntKind.i32.wrap (m : Int) = m := by rw [IntKind.wrap]; simp [IntKind.bits, IntKind.signed]; omega
    clear h
    go_enter Tryz.func196, Tryz.ntmps196
    go_wp2
    go_ret
    exact ⟨rfl, rfl⟩
  · obtain ⟨m, rfl⟩ : ∃ m : Nat, n = (m : Int) := ⟨n.toNat, by omega⟩
    have hv : numberL (m : Int) = Lib.encodeRune (m : Int) := by
      unfold numberL cpN
      rw [if_neg (by omega), if_neg (by omega)]
    have he := encode_str m (by omega) (by omega)
    rw [hv, ← he]
    clear hv he ho
    have d0 : ¬ ((m : Int) ≤ 0) := by omega
    have d1 : ¬ (1114111 < (m : Int)) := by omega
    have d2 : 55296 ≤ (m : Int) := by omega
    have d3 : ¬ ((m : Int) ≤ 57343) := by omega
    have d4 : 128 ≤ (m : Int) := by omega
    have d5 : ¬ ((m : Int) ≤ 159) := by omega
    have d9 : IntKind.i32.wrap (m : Int) = m := by rw [IntKind.wrap]; simp [IntKind.bits, IntKind.signed]; omega
    clear h
    go_enter Tryz.func196, Tryz.ntmps196
    go_wp2
    go_ret
    exact ⟨rfl, rfl⟩
end Go.Proofs.YtpppdfjdngmaoaaGreatDoor.S4
