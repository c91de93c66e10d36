/- What the document's own longest answers, at whatever place of whatever text: the longest name there; nothing that was there is written. -/
import Derived.Test.YtlfjmgniflkapaaGreatDoorBase
set_option linter.unusedVariables false
set_option linter.unusedSimpArgs false
namespace Go.Proofs.YtlfjmgniflkapaaGreatDoor
open Go.RowKit

def textOf (st : Option (Nat × Nat)) : List UInt8 := match st with | none => [] | some p => Lib.encodeRune (p.1 : Int)
def lenOf (st : Option (Nat × Nat)) : Nat := match st with | none => 0 | some p => p.2
/-- Does the name stand at the front? -/
def frontB (l n : List UInt8) : Bool := decide (n.length ≤ l.length) && (l.take n.length == n)
/-- One name more is looked at. -/
def stepP (l : List UInt8) (st : Option (Nat × Nat)) (x : List UInt8 × Nat) : Option (Nat × Nat) := if frontB l x.1 && decide (lenOf st < x.1.length) then some (x.2, x.1.length) else st
/-- An entry's names. -/
def namesE (e : List UInt8 × Nat × Bool) : List (List UInt8 × Nat) := (e.1 ++ [59], e.2.1) :: (if e.2.2 then [(e.1, e.2.1)] else [])
def foldP (l : List UInt8) (xs : List (List UInt8 × Nat)) (st : Option (Nat × Nat)) : Option (Nat × Nat) := xs.foldl (stepP l) st
def candsE : List (List UInt8 × Nat) := entriesE.flatMap namesE

theorem foldP_inv (l : List UInt8) : ∀ (xs : List (List UInt8 × Nat)) (st : Option (Nat × Nat)),
    lenOf st ≤ lenOf (foldP l xs st) ∧ (∀ x ∈ xs, frontB l x.1 = true → x.1.length ≤ lenOf (foldP l xs st)) ∧ (foldP l xs st = st ∨ ∃ x ∈ xs, frontB l x.1 = true ∧ foldP l xs st = some (x.2, x.1.length))
  | [], st => ⟨Nat.le_refl _, by simp, .inl rfl⟩
  | x :: xs, st => by
    obtain ⟨h1, h2, h3⟩ := foldP_inv l xs (stepP l st x)
    have hs : lenOf st ≤ lenOf (stepP l st x) ∧ (frontB l x.1 = true → x.1.length ≤ lenOf (stepP l st x)) ∧ (stepP l st x = st ∨ (frontB l x.1 = true ∧ stepP l st x = some (x.2, x.1.length))) := by
      unfold stepP
      cases hf : frontB l x.1
      · simp
      · by_cases hl : lenOf st < x.1.length
        · have e1 : (if (true && decide (lenOf st < x.1.length)) = true then some (x.2, x.1.length) else st) = some (x.2, x.1.length) := by rw [if_pos (by simp [hl])]
          rw [e1]
          exact ⟨Nat.le_of_lt hl, fun _ => Nat.le_refl _, .inr ⟨rfl, rfl⟩⟩
        · have e1 : (if (true && decide (lenOf st < x.1.length)) = true then some (x.2, x.1.length) else st) = st := by rw [if_neg (by simp; omega)]
          rw [e1]
          exact ⟨Nat.le_refl _, fun _ => by omega, .inl rfl⟩
    refine ⟨Nat.le_trans hs.1 h1, ?_, ?_⟩
    · intro y hy hf
      rcases List.mem_cons.1 hy with rfl | hy
      · exact Nat.le_trans (hs.2.1 hf) h1
      · exact h2 y hy hf
    · show foldP l xs (stepP l st x) = st ∨ ∃ y ∈ x :: xs, _ ∧ foldP l xs (stepP l st x) = _
      rcases h3 with h3 | ⟨y, hy, hf, he⟩
      · rcases hs.2.2 with h4 | ⟨hf, h4⟩
        · exact .inl (by rw [h3, h4])
        · exact .inr ⟨x, by simp, hf, by rw [h3, h4]⟩
      · exact .inr ⟨y, by simp [hy], hf, he⟩

theorem cands_code : candsE.all (fun x => codeL x.1 == some x.2 && decide (1 ≤ x.1.length) && decide (x.1.length ≤ 8)) = true := by decide +kernel
theorem cand_of (n : List UInt8) (c : Nat) (h : codeL n = some c) : ∃ x ∈ candsE, x.1 = n := by
  obtain ⟨e, he, hh, _⟩ := code_mem n c h
  unfold hitE at hh
  simp at hh
  rcases hh with h1 | ⟨hb, h1⟩
  · exact ⟨(e.1 ++ [59], e.2.1), List.mem_flatMap.2 ⟨e, he, by simp [namesE]⟩, h1.symm⟩
  · exact ⟨(e.1, e.2.1), List.mem_flatMap.2 ⟨e, he, by simp [namesE, hb]⟩, h1.symm⟩
theorem foldP_long (l : List UInt8) : foldP l candsE none = longL l := by
  obtain ⟨_, h2, h3⟩ := foldP_inv l candsE none
  have hmax : ∀ m, lenOf (foldP l candsE none) < m → m ≤ l.length → codeL (l.take m) = none := by
    intro m h1 hl
    cases hc : codeL (l.take m) with
    | none => rfl
    | some c =>
      obtain ⟨x, hx, he⟩ := cand_of _ c hc
      have hxl : x.1.length = m := by rw [he, List.length_take]; omega
      have := h2 x hx (by
        unfold frontB
        rw [hxl, he]
        simp; omega)
      omega
  rcases h3 with h3 | ⟨x, hx, hf, he⟩
  · rw [h3]
    rw [h3] at hmax
    exact (longK_none 8 l (fun m h1 _ h4 => hmax m h1 h4)).symm
  · have hc := List.all_eq_true.1 cands_code x hx
    simp at hc
    unfold frontB at hf
    simp at hf
    rw [he]
    refine (longK_eq 8 l x.1.length x.2 hc.1.2 hc.2 hf.1 (by rw [hf.2]; exact hc.1.1) ?_).symm
    intro m h1 _ h4
    exact hmax m (by rw [he]; exact h1) h4

/-- Behind k entries, and of the next one j names (the bare one passed over where there is none). -/
def stateP (l : List UInt8) (k : Nat) : Option (Nat × Nat) := foldP l ((entriesE.take k).flatMap namesE) none
def state1 (l : List UInt8) (k : Nat) (e : List UInt8 × Nat × Bool) : Option (Nat × Nat) := stepP l (stateP l k) (e.1 ++ [59], e.2.1)
def state2 (l : List UInt8) (k : Nat) (e : List UInt8 × Nat × Bool) : Option (Nat × Nat) := if e.2.2 then stepP l (state1 l k e) (e.1, e.2.1) else state1 l k e
theorem state_next (l : List UInt8) (k : Nat) (hk : k < entriesE.length) : stateP l (k + 1) = state2 l k entriesE[k] := by
  unfold stateP state2 state1 stateP
  rw [List.take_add_one, List.getElem?_eq_getElem hk, List.flatMap_append]
  unfold foldP
  rw [List.foldl_append]
  show List.foldl (stepP l) _ (namesE entriesE[k] ++ []) = _
  rw [List.append_nil]
  unfold namesE
  cases (entriesE[k]).2.2 <;> rfl
theorem state_all (l : List UInt8) : stateP l 45 = longL l := by
  rw [← foldP_long]
  unfold stateP
  rw [List.take_of_length_le (by rw [entries_len]; omega)]
  rfl
theorem step_yes (l : List UInt8) (st : Option (Nat × Nat)) (n : List UInt8) (c : Nat) (h1 : frontB l n = true) (h2 : lenOf st < n.length) : stepP l st (n, c) = some (c, n.length) := by
  unfold stepP
  rw [if_pos]
  simp [h1, h2]
theorem step_no (l : List UInt8) (st : Option (Nat × Nat)) (n : List UInt8) (c : Nat) (h : frontB l n = false ∨ ¬ lenOf st < n.length) : stepP l st (n, c) = st := by
  unfold stepP
  rw [if_neg]
  rcases h with h | h <;> simp [h]

/-- A name's front, in the words of the text: its bytes fit, and are these. -/
theorem front_fits (s : ByteArray) (p : Nat) (hp : p ≤ s.size) (o : ByteArray) (h : p + o.size ≤ s.size) : frontB (s.data.toList.drop p) o.data.toList = ((s.extract p (p + o.size)).toList == o.toList) := by
  unfold frontB
  rw [Lib.toList_data, Lib.toList_data, Lib.extract_data, Nat.add_sub_cancel_left, ← size_list, List.length_drop, ← size_list]
  rw [decide_eq_true (by omega), Bool.true_and]
theorem front_not (s : ByteArray) (p : Nat) (o : ByteArray) (hp : p ≤ s.size) (h : ¬ p + o.size ≤ s.size) : frontB (s.data.toList.drop p) o.data.toList = false := by
  unfold frontB
  rw [← size_list, List.length_drop, ← size_list, decide_eq_false (by omega), Bool.false_and]
end Go.Proofs.YtlfjmgniflkapaaGreatDoor
