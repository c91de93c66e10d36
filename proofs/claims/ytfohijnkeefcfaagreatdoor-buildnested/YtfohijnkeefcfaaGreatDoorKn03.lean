import Derived.Test.YtfohijnkeefcfaaGreatDoorKn01
import Derived.Lib.Strings
set_option linter.unusedVariables false
set_option linter.unusedSimpArgs false
set_option maxRecDepth 100000
set_option maxHeartbeats 8000000
namespace Go.Proofs.YtfohijnkeefcfaaGreatDoor.S4
def opensE : List (List UInt8 × Nat × Bool) := entriesE.take 24
def closesE : List (List UInt8 × Nat × Bool) := entriesE.drop 24
def openC (m : List UInt8) : Nat := ((opensE.find? fun e => m == e.1).map fun e => e.2.1).getD 0
def closeC (n : List UInt8) : Nat := ((closesE.find? fun e => n == e.1 ++ [59]).map fun e => e.2.1).getD 0
def trimL (n : List UInt8) : List UInt8 := Lib.trimSuffix n [59]
theorem find_congr {α : Type} (p q : α -> Bool) : ∀ l : List α, (∀ e ∈ l, p e = q e) -> l.find? p = l.find? q
  | [], _ => rfl
  | a :: l, h => by
    rw [List.find?_cons, List.find?_cons, h a (List.mem_cons_self ..), find_congr p q l (fun e he => h e (List.mem_cons_of_mem _ he))]
theorem opens_facts : opensE.all (fun e => e.2.2 && !(e.1.getLast? == some 59) && decide (e.2.1 ≠ 0)) = true := by decide +kernel
theorem closes_facts : closesE.all (fun e => !e.2.2 && decide (e.2.1 ≠ 0)) = true := by decide +kernel
theorem trim_end (m : List UInt8) : trimL (m ++ [59]) = m := by
  unfold trimL Lib.trimSuffix Lib.hasSuffix
  rw [if_pos (by rw [List.isSuffixOf_iff_suffix]; exact List.suffix_append m [59])]
  simp
theorem trim_other (n : List UInt8) (h : ∀ m, n ≠ m ++ [59]) : trimL n = n := by
  unfold trimL Lib.trimSuffix Lib.hasSuffix
  rw [if_neg]
  intro hs
  rw [List.isSuffixOf_iff_suffix] at hs
  obtain ⟨m, hm⟩ := hs
  exact h m hm.symm
theorem hit_open (n : List UInt8) (e : List UInt8 × Nat × Bool) (he : e ∈ opensE) : hitE n e = (trimL n == e.1) := by
  have hf := List.all_eq_true.1 opens_facts e he
  simp only [Bool.and_eq_true] at hf
  obtain ⟨⟨h1, h2⟩, _⟩ := hf
  unfold hitE
  rw [h1, Bool.true_and]
  by_cases hn : ∃ m, n = m ++ [59]
  · obtain ⟨m, rfl⟩ := hn
    rw [trim_end]
    have hb : (m ++ [59] == e.1) = false := by
      rw [beq_eq_false_iff_ne]
      intro hc
      rw [<- hc] at h2
      simp at h2
    rw [hb, Bool.or_false, Bool.eq_iff_iff, beq_iff_eq, beq_iff_eq]
    exact ⟨fun h => List.append_cancel_right h, fun h => by rw [h]⟩
  · have hn2 : ∀ m, n ≠ m ++ [59] := fun m hm => hn ⟨m, hm⟩
    rw [trim_other n hn2]
    have hb : (n == e.1 ++ [59]) = false := beq_eq_false_iff_ne.2 (hn2 _)
    rw [hb, Bool.false_or]
theorem hit_close (n : List UInt8) (e : List UInt8 × Nat × Bool) (he : e ∈ closesE) : hitE n e = (n == e.1 ++ [59]) := by
  have hf := List.all_eq_true.1 closes_facts e he
  simp only [Bool.and_eq_true, Bool.not_eq_true'] at hf
  unfold hitE
  rw [hf.1, Bool.false_and, Bool.or_false]
theorem code_two (n : List UInt8) : codeL n = if openC (trimL n) ≠ 0 then some (openC (trimL n)) else if closeC n ≠ 0 then some (closeC n) else none := by
  have e0 : entriesE = opensE ++ closesE := (List.take_append_drop 24 entriesE).symm
  have e1 := find_congr _ _ opensE (hit_open n)
  have e2 := find_congr _ _ closesE (hit_close n)
  have hc : codeL n = ((opensE.find? (fun e => trimL n == e.1)).or (closesE.find? (fun e => n == e.1 ++ [59]))).map fun e => e.2.1 := by
    unfold codeL
    rw [e0, List.find?_append, e1, e2]
  rw [hc]
  unfold openC closeC
  cases h1 : opensE.find? (fun e => trimL n == e.1) with
  | some e =>
    have hf := List.all_eq_true.1 opens_facts e (List.mem_of_find?_eq_some h1)
    simp only [Bool.and_eq_true, decide_eq_true_eq] at hf
    simp [hf.2]
  | none =>
    cases h2 : closesE.find? (fun e => n == e.1 ++ [59]) with
    | some e =>
      have hf := List.all_eq_true.1 closes_facts e (List.mem_of_find?_eq_some h2)
      simp only [Bool.and_eq_true, decide_eq_true_eq] at hf
      simp [hf.2]
    | none => simp
def foundC (n : List UInt8) : Nat := if openC (trimL n) = 0 then closeC n else openC (trimL n)
theorem openC_le (n : List UInt8) : openC n <= 9000 := by
  unfold openC
  cases h1 : opensE.find? (fun e => n == e.1) with
  | none => simp
  | some e =>
    have h : opensE.all (fun e => decide (e.2.1 <= 9000)) = true := by decide +kernel
    simpa using List.all_eq_true.1 h e (List.mem_of_find?_eq_some h1)
theorem closeC_le (n : List UInt8) : closeC n <= 9000 := by
  unfold closeC
  cases h1 : closesE.find? (fun e => n == e.1 ++ [59]) with
  | none => simp
  | some e =>
    have h : closesE.all (fun e => decide (e.2.1 <= 9000)) = true := by decide +kernel
    simpa using List.all_eq_true.1 h e (List.mem_of_find?_eq_some h1)
theorem code_found (n : List UInt8) : codeL n = if foundC n = 0 then none else some (foundC n) := by
  unfold foundC
  rw [code_two]
  by_cases h1 : openC (trimL n) = 0
  · by_cases h2 : closeC n = 0
    · simp [h1, h2]
    · simp [h1, h2]
  · simp [h1]
theorem longK_cut (l : List UInt8) : ∀ k, l.length <= k -> longK k l = longK l.length l := by
  intro k
  induction k with
  | zero => intro h; rw [show l.length = 0 by omega]
  | succ k ih =>
    intro h
    by_cases he : l.length = k + 1
    · rw [he]
    · rw [<- ih (by omega)]
      simp only [longK]
      rw [if_neg (by omega)]
theorem longL_min (l : List UInt8) : longL l = longK (min l.length 8) l := by
  unfold longL
  by_cases h : l.length <= 8
  · rw [Nat.min_eq_left h, longK_cut l 8 h]
  · rw [Nat.min_eq_right (by omega)]
theorem longK_hit (k : Nat) (l : List UInt8) (h : k + 1 <= l.length) (hf : foundC (l.take (k + 1)) ≠ 0) : longK (k + 1) l = some (foundC (l.take (k + 1)), k + 1) := by
  simp only [longK]
  rw [if_pos h, code_found, if_neg hf]
theorem longK_miss (k : Nat) (l : List UInt8) (h : k + 1 <= l.length) (hf : foundC (l.take (k + 1)) = 0) : longK (k + 1) l = longK k l := by
  simp only [longK]
  rw [if_pos h, code_found, if_pos hf]
end Go.Proofs.YtfohijnkeefcfaaGreatDoor.S4
