/- What the program's Named answers, of whatever name; the world stays as it was. -/
import Derived.Test.YthoibenncjbkdaaDoorS4WalkPB
import Derived.Test.YthoibenncjbkdaaDoorS4WalkPD
import Derived.Test.YthoibenncjbkdaaDoorShelf
set_option linter.unusedVariables false
set_option linter.unusedSimpArgs false
set_option maxRecDepth 4000
namespace Go.Proofs.YthoibenncjbkdaaDoor.S4
open Go.RowKit

theorem trim_str (n : ByteArray) (hn : n.size ≤ 1000000) (w : World) : Calls Tryd.prog 32 #[.string n, .string ⟨#[59]⟩] w fun e w' => e = .returned (.string ⟨(trimL n.data.toList).toArray⟩) ∧ w' = w := Tryd.strings_TrimSuffix n ⟨#[59]⟩ w (by omega)

set_option maxHeartbeats 2000000 in
theorem named_found (n : ByteArray) (hn : n.size ≤ 1000000) (w : World) :
    Calls Tryd.prog 25 #[.string n] w fun e w' => e = .returned (.tuple #[.string (if foundC n.data.toList = 0 then ⟨#[]⟩ else Utf8.encode (foundC n.data.toList : Nat)), .bool (!decide (foundC n.data.toList = 0))]) ∧ w' = w := by
  have HT := hide (trim_str n hn)
  have ho := openC_le (trimL n.data.toList)
  have hc := closeC_le n.data.toList
  have h1 := open_any ⟨(trimL n.data.toList).toArray⟩
  rw [str_data] at h1
  have H1 := hide h1
  clear h1 hn
  have H2 := hide (closed_any n)
  unfold foundC
  generalize openC (trimL n.data.toList) = a at *
  generalize (⟨(trimL n.data.toList).toArray⟩ : ByteArray) = t at *
  generalize closeC n.data.toList = b at *
  by_cases ha : a = 0
  · subst ha
    rw [if_pos rfl]
    by_cases hb : b = 0
    · subst hb
      rw [if_pos rfl, decide_eq_true rfl]
      go_enter Tryd.func25, Tryd.ntmps25
      go_wp2_with fail
      refine (HT.out _).mono ?_
      rintro e w1 ⟨rfl, rfl⟩
      go_wp2_with fail
      refine (H1.out _).mono ?_
      rintro e w1 ⟨rfl, rfl⟩
      go_wp2_with fail
      refine (H2.out _).mono ?_
      rintro e w1 ⟨rfl, rfl⟩
      go_wp2
      go_ret2
      exact ⟨rfl, rfl⟩
    · have e1 := ne_lit b 0 (by omega)
      rw [if_neg hb, decide_eq_false hb]
      clear hb
      go_enter Tryd.func25, Tryd.ntmps25
      go_wp2_with fail
      refine (HT.out _).mono ?_
      rintro e w1 ⟨rfl, rfl⟩
      go_wp2_with fail
      refine (H1.out _).mono ?_
      rintro e w1 ⟨rfl, rfl⟩
      go_wp2_with fail
      refine (H2.out _).mono ?_
      rintro e w1 ⟨rfl, rfl⟩
      go_wp2
      go_ret2
      exact ⟨rfl, rfl⟩
  · have e1 := ne_lit a 0 (by omega)
    rw [if_neg ha, if_neg ha, decide_eq_false ha]
    clear ha
    go_enter Tryd.func25, Tryd.ntmps25
    go_wp2_with fail
    refine (HT.out _).mono ?_
    rintro e w1 ⟨rfl, rfl⟩
    go_wp2_with fail
    refine (H1.out _).mono ?_
    rintro e w1 ⟨rfl, rfl⟩
    go_wp2
    go_ret2
    exact ⟨rfl, rfl⟩
theorem found_le (l : List UInt8) : foundC l ≤ 9000 := by
  have ho := openC_le (trimL l)
  have hc := closeC_le l
  unfold foundC
  split <;> assumption
theorem named_any (n : ByteArray) (hn : n.size ≤ 1000000) (w : World) :
    Calls Tryd.prog 25 #[.string n] w fun e w' => e = .returned (.tuple #[.string ⟨((namedL n.data.toList).1).toArray⟩, .bool (namedL n.data.toList).2]) ∧ Below w.heap.size w w' := by
  refine (named_found n hn w).mono ?_
  rintro e w' ⟨rfl, rfl⟩
  refine ⟨?_, Below.refl _ _⟩
  rw [named_two]
  by_cases h : foundC n.data.toList = 0
  · rw [if_pos h, if_pos h, decide_eq_true h]
    rfl
  · have hl := found_le n.data.toList
    rw [if_neg h, if_neg h, decide_eq_false h, encode_str _ (by omega) (by omega)]
    rfl
end Go.Proofs.YthoibenncjbkdaaDoor.S4
