/- What the program's Text answers; nothing that was there is written. -/
import Derived.Test.YthagloigihpfdabDoorWalkG
import Derived.Test.YthagloigihpfdabDoorBytes
import Derived.Lib.Replace
set_option linter.unusedVariables false
set_option linter.unusedSimpArgs false
namespace Go.Proofs.YthagloigihpfdabDoor
open Go.RowKit

theorem replaceK_tidy : ∀ l : List UInt8, Lib.replaceK [0] [] (Lib.count l [0]) l = tidyL l
  | [] => by
    rw [Lib.count_miss (by simp [Lib.index])]; rfl
  | b :: l => by
    have ih := replaceK_tidy l
    by_cases h : b = 0
    · subst h
      have hi : Lib.index (0 :: l) [0] = (0 : Nat) := by simp [Lib.index, List.isPrefixOf]
      rw [Lib.count_hit (by simp) hi, Nat.add_comm, Lib.replaceK_hit _ _ _ _ 0 hi]
      simpa [tidyL] using ih
    · have hp : List.isPrefixOf [0] (b :: l) = false := by
        simp [List.isPrefixOf]; exact fun e => h e.symm
      have ht : tidyL (b :: l) = b :: tidyL l := by simp [tidyL, h]
      rw [Lib.count_one] at ih ⊢
      rw [List.count_cons_of_ne (by simpa using h), ht, ← ih]
      cases hc : List.count 0 l with
      | zero => rfl
      | succ k =>
        obtain ⟨i, hi⟩ := Lib.index_of_count (s := l) (old := [0]) (by rw [Lib.count_one]; omega)
        have hi2 : Lib.index (b :: l) [0] = ((i + 1 : Nat) : Int) := by
          unfold Lib.index
          rw [hp, hi]
          have : ¬ ((i : Int) == -1) = true := by simp
          simp only [Bool.false_eq_true, if_false, if_neg this]
          omega
        rw [Lib.replaceK_hit _ _ _ _ i hi, Lib.replaceK_hit _ _ _ _ (i + 1) hi2]
        simp

theorem replaceAll_tidy (l : List UInt8) : Lib.replaceAll l [0] [] = tidyL l := by
  unfold Lib.replaceAll Lib.replace Lib.replaceNum
  simp only [show ((-1 : Int) < 0) from by decide, true_or, if_true]
  exact replaceK_tidy l

/-- A number lies where the library keeps the longest length that its search takes. -/
def MaxOk (w : World) : Prop := ∃ m, w.cell? ⟨0, 0, none⟩ = some (.int .i64 m)
theorem MaxOk.below {w W : World} (h : MaxOk w) (hb : Below w.heap.size w W) : MaxOk W := by
  obtain ⟨m, hm⟩ := h
  exact ⟨m, by rw [hb.cell (cell_lt hm)]; exact hm⟩

theorem text_length (l : List UInt8) : (linesL (DecL l)).length ≤ 3 * l.length := by
  have h1 := linesL_len (DecL l)
  have h2 := decL_length (stripL l)
  have h3 : (stripL l).length ≤ l.length := by
    unfold stripL; split
    · simp
    · exact Nat.le_refl _
  unfold DecL at h1 ⊢
  omega
theorem DecL_length (l : List UInt8) : (DecL l).length ≤ 3 * l.length := by
  have h2 := decL_length (stripL l)
  have h3 : (stripL l).length ≤ l.length := by
    unfold stripL; split
    · simp
    · exact Nat.le_refl _
  unfold DecL
  omega

set_option maxHeartbeats 1000000 in
theorem text_any (l : List UInt8) (v : Value) (hl : l.length ≤ 1000000) (w : World) (hmx : MaxOk w) (hv : (convert 24 9 v).run Tryd.prog w = .ok (.string ⟨l.toArray⟩) w) :
    Calls Tryd.prog 5 #[v] w fun e w' => e = .returned (.string ⟨(TextL l).toArray⟩) ∧ Below w.heap.size w w' := by
  have hdl := DecL_length l
  have htl := text_length l
  have H1 := hide (decode_any l v hl w hv)
  have H2 := hide (lines_any ⟨(DecL l).toArray⟩ (by rw [size_list]; show (DecL l).length ≤ _; omega))
  have hr : ∀ (m : Int) (W : World), W.cell? ⟨0, 0, none⟩ = some (.int .i64 m) → Calls Tryd.prog 10 #[.string ⟨(linesL (DecL l)).toArray⟩, .string ⟨#[0]⟩, .string ⟨#[]⟩] W fun e w' => e = .returned (.string ⟨(TextL l).toArray⟩) ∧ Below W.heap.size W w' := by
    intro m W hm
    have h := Tryd.strings_ReplaceAll ⟨(linesL (DecL l)).toArray⟩ ⟨#[0]⟩ ⟨#[]⟩ m W (by rw [size_list]; show (linesL (DecL l)).length < _; omega) hm (by decide) (by
      rw [show (⟨#[]⟩ : ByteArray).size = 0 from rfl, Nat.mul_zero, Nat.add_zero, size_list]
      show (linesL (DecL l)).length ≤ _
      omega)
    have e : Lib.replaceAll (⟨(linesL (DecL l)).toArray⟩ : ByteArray).data.toList (⟨#[0]⟩ : ByteArray).data.toList (⟨#[]⟩ : ByteArray).data.toList = TextL l := replaceAll_tidy _
    rw [e] at h
    exact h
  have H3 := hide hr
  have HM := hide hmx
  have H2b : Hid (∀ W, Calls Tryd.prog 6 #[.string ⟨(DecL l).toArray⟩] W fun e w' => e = .returned (.string ⟨(linesL (DecL l)).toArray⟩) ∧ Below W.heap.size W w') := H2
  clear hr H2 hmx hv hdl htl
  generalize DecL l = D at *
  generalize linesL D = L at *
  generalize TextL l = T at *
  go_enter Tryd.func5, Tryd.ntmps5
  go_wp2_with fail
  refine H1.out.mono ?_
  rintro e w1 ⟨rfl, b1⟩
  go_wp2_with fail
  refine (H2b.out _).mono ?_
  rintro e w2 ⟨rfl, b2⟩
  have c2 := b1.trans (b2.mono b1.size)
  obtain ⟨m, hm⟩ := HM.out.below c2
  have HMM := hide hm
  clear hm
  go_wp2_with fail
  refine (H3.out m _ HMM.out).mono ?_
  rintro e w3 ⟨rfl, b3⟩
  go_wp2
  go_ret
  exact ⟨rfl, c2.trans (b3.mono c2.size)⟩

end Go.Proofs.YthagloigihpfdabDoor
