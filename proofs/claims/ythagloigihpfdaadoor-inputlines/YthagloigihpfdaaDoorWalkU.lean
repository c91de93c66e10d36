/- What the document's own Text answers; nothing that was there is written. -/
import Derived.Test.YthagloigihpfdaaDoorWalkT
set_option linter.unusedVariables false
set_option linter.unusedSimpArgs false
namespace Go.Proofs.YthagloigihpfdaaDoor
open Go.RowKit

theorem tidy_zero (r : List UInt8) : tidyL (0 :: r) = tidyL r := by simp [tidyL]
theorem tidy_keep (c : UInt8) (r : List UInt8) (h : c ≠ 0) : tidyL (c :: r) = c :: tidyL r := by simp [tidyL, h]

set_option maxHeartbeats 1000000 in
theorem rtext_core (s : ByteArray) (hs : s.size ≤ 100000) (w : World) :
    Calls Tryd.prog 10 #[.string s] w fun e w' => (∃ x : ByteArray, e = .returned (.string x) ∧ x.data.toList = TextL s.data.toList) ∧ Below w.heap.size w w' := by
  have hdl := DecL_length s.data.toList
  have htl := text_length s.data.toList
  rw [← size_list'] at hdl htl
  have H1 := hide (rdecode_any s (by omega))
  have H2 := hide (rlines_any ⟨(DecL s.data.toList).toArray⟩ (by rw [size_list']; show (DecL s.data.toList).length ≤ _; omega))
  generalize hR : TextL s.data.toList = R
  have HR : Hid (tidyL (linesL (DecL s.data.toList)) = R) := hR
  have H2b : Hid (∀ W, Calls Tryd.prog 8 #[.string ⟨(DecL s.data.toList).toArray⟩] W fun e w' => (∃ x : ByteArray, e = .returned (.string x) ∧ x.data.toList = linesL (DecL s.data.toList)) ∧ w' = W) := H2
  clear hR H2 hdl
  generalize DecL s.data.toList = D at *
  go_enter Tryd.func10, Tryd.ntmps10
  go_wp2_with fail
  refine (H1.out _).mono ?_
  rintro e w1 ⟨rfl, b1⟩
  go_wp2_with fail
  refine (H2b.out _).mono ?_
  rintro e w2 ⟨⟨l, rfl, hl⟩, rfl⟩
  rw [← hl] at HR htl
  rw [← size_list'] at htl
  clear hl
  go_wp2
  go_loop [4, 5] (fun tx ta => ∃ (acc : ByteArray) (k : Nat), tx = .string acc ∧ ta = .int .i64 k ∧ k ≤ l.size ∧ acc.size ≤ k ∧ Hid (acc.data.toList ++ tidyL (l.data.toList.drop k) = R)) (fun _ ta => l.size - (intOf ta).toNat)
  case atStart => exact ⟨_, 0, rfl, rfl, by omega, by decide, hide (by rw [← HR.out]; rfl)⟩
  case round =>
    obtain ⟨acc, k, rfl, rfl, hk, hal, HN⟩ := hrel
    by_cases hp : k < l.size
    · have hd := drop_cons l k hp
      have hlt := l[k].toNat_lt
      by_cases c0 : l[k].toNat = 0
      · have e0 : l[k] = 0 := byte_eq c0 0 rfl
        have b0 : ((l[k].toNat : Int) != 0) = false := by rw [bne_eq_false_iff_eq]; omega
        have HN2 : Hid (acc.data.toList ++ tidyL (l.data.toList.drop (k + 1)) = R) := by
          refine hide ?_
          rw [← HN.out, hd, e0, tidy_zero]
        clear HN hd e0 c0
        go_wp2
        go_round
        case rel => exact ⟨_, k + 1, rfl, by go_num, by omega, by omega, HN2⟩
        case measure => simp [intOf]; omega
      · have e0 : l[k] ≠ 0 := byte_ne c0 0 rfl
        have b0 : ((l[k].toNat : Int) != 0) = true := by rw [bne_iff_ne]; omega
        have hob := one_byte l k hp
        have HN2 : Hid ((acc ++ l.extract k (k + 1)).data.toList ++ tidyL (l.data.toList.drop (k + 1)) = R) := by
          refine hide ?_
          rw [← HN.out, hd, tidy_keep _ _ e0, str_app acc _ _ _ rfl hob, List.append_assoc]
          rfl
        have hal2 : (acc ++ l.extract k (k + 1)).size ≤ k + 1 := by
          rw [ByteArray.size_append, size_list' (l.extract k (k + 1)), hob]
          simp; omega
        have hxz : (l.extract k (k + 1)).size ≤ 1 := by rw [size_list', hob]; simp
        have HAL := hide hal2
        clear HN hd e0 c0 hal2 hob
        go_wp2
        go_round
        case rel => exact ⟨_, k + 1, rfl, by go_num, by omega, HAL.out, HN2⟩
        case measure => simp [intOf]; omega
    · have HE : Hid (acc.data.toList = R) := by
        refine hide ?_
        rw [← HN.out, List.drop_eq_nil_of_le (by rw [← size_list']; omega)]
        simp [tidyL]
      clear HN
      go_wp2
      go_ret
      exact ⟨⟨_, rfl, HE.out⟩, b1⟩

theorem rtext_any (s : ByteArray) (hs : s.size ≤ 100000) (w : World) :
    Calls Tryd.prog 10 #[.string s] w fun e w' => e = .returned (.string ⟨(TextL s.data.toList).toArray⟩) ∧ Below w.heap.size w w' := by
  refine (rtext_core s hs w).mono ?_
  rintro e w' ⟨⟨x, rfl, hx⟩, hb⟩
  refine ⟨?_, hb⟩
  have : x = ⟨(TextL s.data.toList).toArray⟩ := str_eq hx
  rw [this]
theorem rlines_str (s : ByteArray) (hs : s.size ≤ 1000000) (w : World) :
    Calls Tryd.prog 8 #[.string s] w fun e w' => e = .returned (.string ⟨(linesL s.data.toList).toArray⟩) ∧ w' = w := by
  refine (rlines_any s hs w).mono ?_
  rintro e w' ⟨⟨x, rfl, hx⟩, hb⟩
  refine ⟨?_, hb⟩
  have : x = ⟨(linesL s.data.toList).toArray⟩ := str_eq hx
  rw [this]
end Go.Proofs.YthagloigihpfdaaDoor
