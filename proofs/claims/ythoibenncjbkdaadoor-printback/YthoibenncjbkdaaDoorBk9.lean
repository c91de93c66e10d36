/- What is escaped is decoded as it was, over lists. No function of the program in it. -/
import Derived.Test.YthoibenncjbkdaaDoorEl9
import Derived.Test.YthoibenncjbkdaaDoorS4Pieces
set_option linter.unusedVariables false
set_option linter.unusedSimpArgs false
set_option maxRecDepth 4000
namespace Go.Proofs.YthoibenncjbkdaaDoor
open S4 (entriesE codeL longL longK_eq code_all refL decL decL_nil decL_amp decL_other)

theorem amp_last : entriesE.all (fun e => (decide ((e.1 ++ [59]).length ≤ 4) || !((e.1 ++ [59]).take 4 == [97, 109, 112, 59])) && (decide (e.1.length ≤ 4) || !(e.1.take 4 == [97, 109, 112, 59]))) = true := by decide +kernel
theorem ref_amp (attr : Bool) (r : List UInt8) : refL attr ([97, 109, 112, 59] ++ r) = ([38], 5) := by
  have hl : longL ([97, 109, 112, 59] ++ r) = some (38, 4) := by
    refine longK_eq 8 _ 4 38 (by omega) (by omega) (by simp) (by show codeL [97, 109, 112, 59] = _; decide +kernel) ?_
    intro m h1 h2 h3
    cases hc : codeL (([97, 109, 112, 59] ++ r).take m) with
    | none => rfl
    | some c =>
      have := code_all (fun n => decide (n.length ≤ 4) || !(n.take 4 == [97, 109, 112, 59])) amp_last _ c hc
      simp only [Bool.or_eq_true, decide_eq_true_eq] at this
      rcases this with h | h
      · rw [List.length_take] at h; omega
      · rw [List.take_take, show min 4 m = 4 by omega] at h
        exact absurd h (by simp)
  unfold refL
  rw [if_neg (by simp), hl]
  simp only
  rw [if_neg (by simp)]
  decide +kernel
theorem dec_amp (attr : Bool) (X : List UInt8) : decL attr (ampE ++ X) = [38] ++ decL attr X := by
  show decL attr (38 :: ([97, 109, 112, 59] ++ X)) = _
  rw [decL_amp, ref_amp]
  rfl
theorem lt_last : entriesE.all (fun e => (decide ((e.1 ++ [59]).length ≤ 3) || !((e.1 ++ [59]).take 3 == [108, 116, 59])) && (decide (e.1.length ≤ 3) || !(e.1.take 3 == [108, 116, 59]))) = true := by decide +kernel
theorem ref_lt (attr : Bool) (r : List UInt8) : refL attr ([108, 116, 59] ++ r) = ([60], 4) := by
  have hl : longL ([108, 116, 59] ++ r) = some (60, 3) := by
    refine longK_eq 8 _ 3 60 (by omega) (by omega) (by simp) (by show codeL [108, 116, 59] = _; decide +kernel) ?_
    intro m h1 h2 h3
    cases hc : codeL (([108, 116, 59] ++ r).take m) with
    | none => rfl
    | some c =>
      have := code_all (fun n => decide (n.length ≤ 3) || !(n.take 3 == [108, 116, 59])) lt_last _ c hc
      simp only [Bool.or_eq_true, decide_eq_true_eq] at this
      rcases this with h | h
      · rw [List.length_take] at h; omega
      · rw [List.take_take, show min 3 m = 3 by omega] at h
        exact absurd h (by simp)
  unfold refL
  rw [if_neg (by simp), hl]
  simp only
  rw [if_neg (by simp)]
  decide +kernel
theorem dec_lt (attr : Bool) (X : List UInt8) : decL attr (ltE ++ X) = [60] ++ decL attr X := by
  show decL attr (38 :: ([108, 116, 59] ++ X)) = _
  rw [decL_amp, ref_lt]
  rfl
theorem gt_last : entriesE.all (fun e => (decide ((e.1 ++ [59]).length ≤ 3) || !((e.1 ++ [59]).take 3 == [103, 116, 59])) && (decide (e.1.length ≤ 3) || !(e.1.take 3 == [103, 116, 59]))) = true := by decide +kernel
theorem ref_gt (attr : Bool) (r : List UInt8) : refL attr ([103, 116, 59] ++ r) = ([62], 4) := by
  have hl : longL ([103, 116, 59] ++ r) = some (62, 3) := by
    refine longK_eq 8 _ 3 62 (by omega) (by omega) (by simp) (by show codeL [103, 116, 59] = _; decide +kernel) ?_
    intro m h1 h2 h3
    cases hc : codeL (([103, 116, 59] ++ r).take m) with
    | none => rfl
    | some c =>
      have := code_all (fun n => decide (n.length ≤ 3) || !(n.take 3 == [103, 116, 59])) gt_last _ c hc
      simp only [Bool.or_eq_true, decide_eq_true_eq] at this
      rcases this with h | h
      · rw [List.length_take] at h; omega
      · rw [List.take_take, show min 3 m = 3 by omega] at h
        exact absurd h (by simp)
  unfold refL
  rw [if_neg (by simp), hl]
  simp only
  rw [if_neg (by simp)]
  decide +kernel
theorem dec_gt (attr : Bool) (X : List UInt8) : decL attr (gtE ++ X) = [62] ++ decL attr X := by
  show decL attr (38 :: ([103, 116, 59] ++ X)) = _
  rw [decL_amp, ref_gt]
  rfl
theorem quot_last : entriesE.all (fun e => (decide ((e.1 ++ [59]).length ≤ 5) || !((e.1 ++ [59]).take 5 == [113, 117, 111, 116, 59])) && (decide (e.1.length ≤ 5) || !(e.1.take 5 == [113, 117, 111, 116, 59]))) = true := by decide +kernel
theorem ref_quot (attr : Bool) (r : List UInt8) : refL attr ([113, 117, 111, 116, 59] ++ r) = ([34], 6) := by
  have hl : longL ([113, 117, 111, 116, 59] ++ r) = some (34, 5) := by
    refine longK_eq 8 _ 5 34 (by omega) (by omega) (by simp) (by show codeL [113, 117, 111, 116, 59] = _; decide +kernel) ?_
    intro m h1 h2 h3
    cases hc : codeL (([113, 117, 111, 116, 59] ++ r).take m) with
    | none => rfl
    | some c =>
      have := code_all (fun n => decide (n.length ≤ 5) || !(n.take 5 == [113, 117, 111, 116, 59])) quot_last _ c hc
      simp only [Bool.or_eq_true, decide_eq_true_eq] at this
      rcases this with h | h
      · rw [List.length_take] at h; omega
      · rw [List.take_take, show min 5 m = 5 by omega] at h
        exact absurd h (by simp)
  unfold refL
  rw [if_neg (by simp), hl]
  simp only
  rw [if_neg (by simp)]
  decide +kernel
theorem dec_quot (attr : Bool) (X : List UInt8) : decL attr (quotE ++ X) = [34] ++ decL attr X := by
  show decL attr (38 :: ([113, 117, 111, 116, 59] ++ X)) = _
  rw [decL_amp, ref_quot]
  rfl
theorem nbsp_last : entriesE.all (fun e => (decide ((e.1 ++ [59]).length ≤ 5) || !((e.1 ++ [59]).take 5 == [110, 98, 115, 112, 59])) && (decide (e.1.length ≤ 5) || !(e.1.take 5 == [110, 98, 115, 112, 59]))) = true := by decide +kernel
theorem ref_nbsp (attr : Bool) (r : List UInt8) : refL attr ([110, 98, 115, 112, 59] ++ r) = ([194, 160], 6) := by
  have hl : longL ([110, 98, 115, 112, 59] ++ r) = some (160, 5) := by
    refine longK_eq 8 _ 5 160 (by omega) (by omega) (by simp) (by show codeL [110, 98, 115, 112, 59] = _; decide +kernel) ?_
    intro m h1 h2 h3
    cases hc : codeL (([110, 98, 115, 112, 59] ++ r).take m) with
    | none => rfl
    | some c =>
      have := code_all (fun n => decide (n.length ≤ 5) || !(n.take 5 == [110, 98, 115, 112, 59])) nbsp_last _ c hc
      simp only [Bool.or_eq_true, decide_eq_true_eq] at this
      rcases this with h | h
      · rw [List.length_take] at h; omega
      · rw [List.take_take, show min 5 m = 5 by omega] at h
        exact absurd h (by simp)
  unfold refL
  rw [if_neg (by simp), hl]
  simp only
  rw [if_neg (by simp)]
  decide +kernel
theorem dec_nbsp (attr : Bool) (X : List UInt8) : decL attr (nbspE ++ X) = [194, 160] ++ decL attr X := by
  show decL attr (38 :: ([110, 98, 115, 112, 59] ++ X)) = _
  rw [decL_amp, ref_nbsp]
  rfl
theorem dec_one (attr : Bool) (c : UInt8) (X : List UInt8) : decL attr (oneB attr c ++ X) = c :: decL attr X := by
  unfold oneB
  split
  · next h => rw [dec_amp, h]; rfl
  · next h0 =>
    split
    · next h => rw [dec_lt, h]; rfl
    · split
      · next h => rw [dec_gt, h]; rfl
      · split
        · next h => rw [dec_quot, h.1]; rfl
        · exact decL_other attr c X h0
theorem dec_escG (attr : Bool) : ∀ (b : Bool) (l : List UInt8), decL attr (escG attr b l) = if b then l.tail else l
  | true, [] => by rw [escG]; exact decL_nil attr
  | false, [] => by rw [escG]; exact decL_nil attr
  | true, c :: r => by
    have := dec_escG attr false r
    rw [escG, this]
    rfl
  | false, c :: r => by
    have h1 := dec_escG attr false r
    have h2 := dec_escG attr true r
    rw [escG]
    split
    · next h =>
      rw [dec_nbsp, h2]
      obtain ⟨rfl, hr⟩ := h
      cases r with
      | nil => simp at hr
      | cons d s =>
        obtain rfl : d = 160 := by simpa using hr
        rfl
    · rw [dec_one, h1]
      rfl
theorem dec_esc (attr : Bool) (l : List UInt8) : decL attr (escL attr l) = l := dec_escG attr false l
end Go.Proofs.YthoibenncjbkdaaDoor
