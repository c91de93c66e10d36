/- What the program's Text, and the document's own Lines and Text, answer; nothing that was there is written. -/
import Derived.Test.YthagloigihpfdaaDoorWalkK
import Derived.Test.YthagloigihpfdaaDoorBytes
import Derived.Lib.Replace
set_option linter.unusedVariables false
set_option linter.unusedSimpArgs false
namespace Go.Proofs.YthagloigihpfdaaDoor
open Go.RowKit

theorem replaceK_tidy : ∀ l : List UInt8, Lib.replaceK [0] [] (Lib.count l [0]) l = tidyL l
  | [] => by
    rw [Lib.count_miss (by simp [Lib.index])]; rfl
  | b :: l => by
    have ih := replaceK_tidy l
    by_cases h : b = 0
    · subst h
      have hi : Lib.index (0 :: l) [0] = (0 : Nat) := by simp [Lib.index, List.isPrefixOf]
      rw [Lib.count_hit (by simp) hi, Nat.add_comm, Lib.replaceK_hit _ _ _ _ 0 hi]
      simpa [tidyL] using ih
    · have hp : List.isPrefixOf [0] (b :: l) = false := by
        simp [List.isPrefixOf]; exact fun e => h e.symm
      have ht : tidyL (b :: l) = b :: tidyL l := by simp [tidyL, h]
      rw [Lib.count_one] at ih ⊢
      rw [List.count_cons_of_ne (by simpa using h), ht, ← ih]
      cases hc : List.count 0 l with
      | zero => rfl
      | succ k =>
        obtain ⟨i, hi⟩ := Lib.index_of_count (s := l) (old := [0]) (by rw [Lib.count_one]; omega)
        have hi2 : Lib.index (b :: l) [0] = ((i + 1 : Nat) : Int) := by
          unfold Lib.index
          rw [hp, hi]
          have : ¬ ((i : Int) == -1) = true := by simp
          simp only [Bool.false_eq_true, if_false, if_neg this]
          omega
        rw [Lib.replaceK_hit _ _ _ _ i hi, Lib.replaceK_hit _ _ _ _ (i + 1) hi2]
        simp

theorem replaceAll_tidy (l : List UInt8) : Lib.replaceAll l [0] [] = tidyL l := by
  unfold Lib.replaceAll Lib.replace Lib.replaceNum
  simp only [show ((-1 : Int) < 0) from by decide, true_or, if_true]
  exact replaceK_tidy l

/-- A number lies where the library keeps the longest length that its search takes. -/
def MaxOk (w : World) : Prop := ∃ m, w.cell? ⟨0, 0, none⟩ = some (.int .i64 m)
theorem MaxOk.below {w W : World} (h : MaxOk w) (hb : Below w.heap.size w W) : MaxOk W := by
  obtain ⟨m, hm⟩ := h
  exact ⟨m, by rw [hb.cell (cell_lt hm)]; exact hm⟩

theorem text_length (l : List UInt8) : (linesL (DecL l)).length ≤ 3 * l.length := by
  have h1 := linesL_len (DecL l)
  have h2 := decL_length (stripL l)
  have h3 : (stripL l).length ≤ l.length := by
    unfold stripL; split
    · simp
    · exact Nat.le_refl _
  unfold DecL at h1 ⊢
  omega
theorem DecL_length (l : List UInt8) : (DecL l).length ≤ 3 * l.length := by
  have h2 := decL_length (stripL l)
  have h3 : (stripL l).length ≤ l.length := by
    unfold stripL; split
    · simp
    · exact Nat.le_refl _
  unfold DecL
  omega

set_option maxHeartbeats 1000000 in
theorem text_any (l : List UInt8) (v : Value) (hl : l.length ≤ 1000000) (w : World) (hmx : MaxOk w) (hv : (convert 25 9 v).run Tryd.prog w = .ok (.string ⟨l.toArray⟩) w) :
    Calls Tryd.prog 9 #[v] w fun e w' => e = .returned (.string ⟨(TextL l).toArray⟩) ∧ Below w.heap.size w w' := by
  have hdl := DecL_length l
  have htl := text_length l
  have H1 := hide (decode_any l v hl w hv)
  have H2 := hide (lines_any ⟨(DecL l).toArray⟩ (by rw [size_list]; show (DecL l).length ≤ _; omega))
  have hr : ∀ (m : Int) (W : World), W.cell? ⟨0, 0, none⟩ = some (.int .i64 m) → Calls Tryd.prog 19 #[.string ⟨(linesL (DecL l)).toArray⟩, .string ⟨#[0]⟩, .string ⟨#[]⟩] W fun e w' => e = .returned (.string ⟨(TextL l).toArray⟩) ∧ Below W.heap.size W w' := by
    intro m W hm
    have h := Tryd.strings_ReplaceAll ⟨(linesL (DecL l)).toArray⟩ ⟨#[0]⟩ ⟨#[]⟩ m W (by rw [size_list]; show (linesL (DecL l)).length < _; omega) hm (by decide) (by
      rw [show (⟨#[]⟩ : ByteArray).size = 0 from rfl, Nat.mul_zero, Nat.add_zero, size_list]
      show (linesL (DecL l)).length ≤ _
      omega)
    have e : Lib.replaceAll (⟨(linesL (DecL l)).toArray⟩ : ByteArray).data.toList (⟨#[0]⟩ : ByteArray).data.toList (⟨#[]⟩ : ByteArray).data.toList = TextL l := replaceAll_tidy _
    rw [e] at h
    exact h
  have H3 := hide hr
  have HM := hide hmx
  have H2b : Hid (∀ W, Calls Tryd.prog 7 #[.string ⟨(DecL l).toArray⟩] W fun e w' => e = .returned (.string ⟨(linesL (DecL l)).toArray⟩) ∧ Below W.heap.size W w') := H2
  clear hr H2 hmx hv hdl htl
  generalize DecL l = D at *
  generalize linesL D = L at *
  generalize TextL l = T at *
  go_enter Tryd.func9, Tryd.ntmps9
  go_wp2_with fail
  refine H1.out.mono ?_
  rintro e w1 ⟨rfl, b1⟩
  go_wp2_with fail
  refine (H2b.out _).mono ?_
  rintro e w2 ⟨rfl, b2⟩
  have c2 := b1.trans (b2.mono b1.size)
  obtain ⟨m, hm⟩ := HM.out.below c2
  have HMM := hide hm
  clear hm
  go_wp2_with fail
  refine (H3.out m _ HMM.out).mono ?_
  rintro e w3 ⟨rfl, b3⟩
  go_wp2
  go_ret
  exact ⟨rfl, c2.trans (b3.mono c2.size)⟩

theorem one_byte (s : ByteArray) (k : Nat) (h : k < s.size) : (s.extract k (k + 1)).data.toList = [s[k]] := by
  rw [Lib.extract_data, Nat.add_sub_cancel_left, drop_cons s k h]; rfl
theorem lines_not (c : UInt8) (r : List UInt8) (h : c ≠ 13) : linesL (c :: r) = c :: linesL r := by simp only [linesL, if_neg h]
theorem lines_gone (r : List UInt8) (h : r.head? = some 10) : linesL (13 :: r) = linesL r := by simp only [linesL, if_true, if_pos h]
theorem lines_kept (r : List UInt8) (h : ¬ r.head? = some 10) : linesL (13 :: r) = 10 :: linesL r := by simp only [linesL, if_true, if_neg h]
theorem byte_ne {c : UInt8} {n : Nat} (h : c.toNat ≠ n) (d : UInt8) (hd : d.toNat = n) : c ≠ d := fun e => h (by rw [e, hd])
theorem byte_eq {c : UInt8} {n : Nat} (h : c.toNat = n) (d : UInt8) (hd : d.toNat = n) : c = d := UInt8.toNat_inj.1 (by rw [h, hd])

set_option maxHeartbeats 1000000 in
theorem rlines_any (s : ByteArray) (hs : s.size ≤ 1000000) (w : World) :
    Calls Tryd.prog 8 #[.string s] w fun e w' => (∃ x : ByteArray, e = .returned (.string x) ∧ x.data.toList = linesL s.data.toList) ∧ w' = w := by
  generalize hR : linesL s.data.toList = R
  have HR := hide hR
  clear hR
  go_enter Tryd.func8, Tryd.ntmps8
  go_wp2
  go_loop [3, 4] (fun tx ta => ∃ (acc : ByteArray) (k : Nat), tx = .string acc ∧ ta = .int .i64 k ∧ k ≤ s.size ∧ acc.size ≤ k ∧ Hid (acc.data.toList ++ linesL (s.data.toList.drop k) = R)) (fun _ ta => s.size - (intOf ta).toNat)
  case atStart => exact ⟨_, 0, rfl, rfl, by omega, by decide, hide (by rw [← HR.out]; rfl)⟩
  case round =>
    obtain ⟨acc, k, rfl, rfl, hk, hal, HN⟩ := hrel
    by_cases hp : k < s.size
    · have hd := drop_cons s k hp
      have hlt := s[k].toNat_lt
      by_cases c13 : s[k].toNat = 13
      · have e13 : s[k] = 13 := byte_eq c13 13 rfl
        have b13 : ((s[k].toNat : Int) != 13) = false := by rw [bne_eq_false_iff_eq]; omega
        by_cases hend : k + 1 = s.size
        · have HN2 : Hid ((acc ++ (⟨#[10]⟩ : ByteArray)).data.toList ++ linesL (s.data.toList.drop (k + 1)) = R) := by
            refine hide ?_
            have hz : s.data.toList.drop (k + 1) = [] := List.drop_eq_nil_of_le (by rw [← size_list']; omega)
            rw [← HN.out, hd, e13, str_app acc ⟨#[10]⟩ _ [10] rfl rfl, hz, lines_kept [] (by simp), List.append_assoc]
            rfl
          have hal2 : (acc ++ (⟨#[10]⟩ : ByteArray)).size ≤ k + 1 := by
            rw [ByteArray.size_append]
            have : (⟨#[10]⟩ : ByteArray).size = 1 := rfl
            omega
          have hbe : (((k : Int) + 1) == (s.size : Int)) = true := beq_iff_eq.2 (by omega)
          have HAL := hide hal2
          clear HN hd e13 hal2 c13
          have hend2 : k + 1 ≤ s.size := by omega
          clear hend
          go_wp2
          go_round
          case rel => exact ⟨_, k + 1, rfl, by go_num, by omega, HAL.out, HN2⟩
          case measure => simp [intOf]; omega
        · have hp1 : k + 1 < s.size := by omega
          have hd1 := drop_cons s (k + 1) hp1
          have hlt1 := s[k + 1].toNat_lt
          have hbe : (((k : Int) + 1) == (s.size : Int)) = false := beq_eq_false_iff_ne.2 (by omega)
          by_cases c10 : s[k + 1].toNat = 10
          · have e10 : s[k + 1] = 10 := byte_eq c10 10 rfl
            have b10 : ((s[k + 1].toNat : Int) != 10) = false := by rw [bne_eq_false_iff_eq]; omega
            have HN2 : Hid (acc.data.toList ++ linesL (s.data.toList.drop (k + 1)) = R) := by
              refine hide ?_
              rw [← HN.out, hd, e13, lines_gone _ (by rw [hd1, e10]; rfl)]
            clear HN hd hd1 e13 e10 c13 c10
            go_wp2
            go_round
            case rel => exact ⟨_, k + 1, rfl, by go_num, by omega, by omega, HN2⟩
            case measure => simp [intOf]; omega
          · have e10 : s[k + 1] ≠ 10 := byte_ne c10 10 rfl
            have b10 : ((s[k + 1].toNat : Int) != 10) = true := by rw [bne_iff_ne]; omega
            have HN2 : Hid ((acc ++ (⟨#[10]⟩ : ByteArray)).data.toList ++ linesL (s.data.toList.drop (k + 1)) = R) := by
              refine hide ?_
              rw [← HN.out, hd, e13, str_app acc ⟨#[10]⟩ _ [10] rfl rfl, lines_kept _ (by rw [hd1]; simpa using e10), List.append_assoc]
              rfl
            have hal2 : (acc ++ (⟨#[10]⟩ : ByteArray)).size ≤ k + 1 := by
              rw [ByteArray.size_append]
              have : (⟨#[10]⟩ : ByteArray).size = 1 := rfl
              omega
            have HAL := hide hal2
            clear HN hd hd1 e13 e10 c13 c10 hal2
            go_wp2
            go_round
            case rel => exact ⟨_, k + 1, rfl, by go_num, by omega, HAL.out, HN2⟩
            case measure => simp [intOf]; omega
      · have e13 : s[k] ≠ 13 := byte_ne c13 13 rfl
        have b13 : ((s[k].toNat : Int) != 13) = true := by rw [bne_iff_ne]; omega
        have hob := one_byte s k hp
        have HN2 : Hid ((acc ++ s.extract k (k + 1)).data.toList ++ linesL (s.data.toList.drop (k + 1)) = R) := by
          refine hide ?_
          rw [← HN.out, hd, lines_not _ _ e13, str_app acc _ _ _ rfl hob, List.append_assoc]
          rfl
        have hal2 : (acc ++ s.extract k (k + 1)).size ≤ k + 1 := by
          rw [ByteArray.size_append, size_list' (s.extract k (k + 1)), hob]
          simp; omega
        have hxz : (s.extract k (k + 1)).size ≤ 1 := by rw [size_list', hob]; simp
        have HAL := hide hal2
        clear HN hd e13 c13 hal2 hob
        go_wp2
        go_round
        case rel => exact ⟨_, k + 1, rfl, by go_num, by omega, HAL.out, HN2⟩
        case measure => simp [intOf]; omega
    · have HE : Hid (acc.data.toList = R) := by
        refine hide ?_
        rw [← HN.out, List.drop_eq_nil_of_le (by rw [← size_list']; omega)]
        simp [linesL]
      clear HN
      go_wp2
      go_ret
      exact ⟨⟨_, rfl, HE.out⟩, rfl⟩
end Go.Proofs.YthagloigihpfdaaDoor
