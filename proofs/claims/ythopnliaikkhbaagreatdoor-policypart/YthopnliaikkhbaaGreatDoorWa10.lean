/- What hidden, fits and tidy answer, the program's and the document's own; nothing that was there is written. -/
import Derived.Test.YthopnliaikkhbaaGreatDoorIw10
set_option linter.unusedVariables false
set_option linter.unusedSimpArgs false
set_option maxRecDepth 4000
namespace Go.Proofs.YthopnliaikkhbaaGreatDoor
open Go.RowKit

set_option maxHeartbeats 1000000 in
theorem hidden_any (n : Nat) (w : World) :
    Calls Tryz.prog 99 #[.int .u8 (n : Int)] w fun e w' => e = .returned (.bool (hidN n)) ∧ w' = w := by
  by_cases h1 : n = 9
  · subst h1; go_enter Tryz.func99, Tryz.ntmps99; go_wp2; go_ret; exact ⟨rfl, rfl⟩
  by_cases h2 : n = 10
  · subst h2; go_enter Tryz.func99, Tryz.ntmps99; go_wp2; go_ret; exact ⟨rfl, rfl⟩
  by_cases h4 : n = 13
  · subst h4; go_enter Tryz.func99, Tryz.ntmps99; go_wp2; go_ret; exact ⟨rfl, rfl⟩
  have e1 := ne_lit n 9 (by omega)
  have e2 := ne_lit n 10 (by omega)
  have e4 := ne_lit n 13 (by omega)
  have hv : hidN n = false := by simp [hidN, h1, h2, h4]
  rw [hv]
  clear hv h1 h2 h4
  go_enter Tryz.func99, Tryz.ntmps99
  go_wp2
  go_ret
  exact ⟨rfl, rfl⟩

set_option maxHeartbeats 1000000 in
theorem fits_any (n i : Nat) (w : World) :
    Calls Tryz.prog 88 #[.int .u8 (n : Int), .int .i64 (i : Int)] w fun e w' => e = .returned (.bool (fitN n i)) ∧ w' = w := by
  have H1 := hide (letter_any n)
  have H2 := hide (figure_any n)
  unfold fitN
  generalize letterN n = L at *
  generalize figureN n = F at *
  cases L
  · by_cases hi : 0 < i
    · have hi2 : (0 : Int) < i := by omega
      rw [decide_eq_true hi]
      clear hi
      cases F
      · by_cases h1 : n = 43
        · subst h1
          go_enter Tryz.func88, Tryz.ntmps88
          go_wp2_with fail
          refine (H1.out _).mono ?_
          rintro e w1 ⟨rfl, rfl⟩
          go_wp2_with fail
          refine (H2.out _).mono ?_
          rintro e w1 ⟨rfl, rfl⟩
          go_wp2
          go_ret
          exact ⟨rfl, rfl⟩
        by_cases h2 : n = 45
        · subst h2
          go_enter Tryz.func88, Tryz.ntmps88
          go_wp2_with fail
          refine (H1.out _).mono ?_
          rintro e w1 ⟨rfl, rfl⟩
          go_wp2_with fail
          refine (H2.out _).mono ?_
          rintro e w1 ⟨rfl, rfl⟩
          go_wp2
          go_ret
          exact ⟨rfl, rfl⟩
        by_cases h3 : n = 46
        · subst h3
          go_enter Tryz.func88, Tryz.ntmps88
          go_wp2_with fail
          refine (H1.out _).mono ?_
          rintro e w1 ⟨rfl, rfl⟩
          go_wp2_with fail
          refine (H2.out _).mono ?_
          rintro e w1 ⟨rfl, rfl⟩
          go_wp2
          go_ret
          exact ⟨rfl, rfl⟩
        have e1 := ne_lit n 43 (by omega)
        have e2 := ne_lit n 45 (by omega)
        have e3 := ne_lit n 46 (by omega)
        have hv : markN n = false := by simp [markN, h1, h2, h3]
        rw [hv]
        clear hv h1 h2 h3
        go_enter Tryz.func88, Tryz.ntmps88
        go_wp2_with fail
        refine (H1.out _).mono ?_
        rintro e w1 ⟨rfl, rfl⟩
        go_wp2_with fail
        refine (H2.out _).mono ?_
        rintro e w1 ⟨rfl, rfl⟩
        go_wp2
        go_ret
        exact ⟨rfl, rfl⟩
      · go_enter Tryz.func88, Tryz.ntmps88
        go_wp2_with fail
        refine (H1.out _).mono ?_
        rintro e w1 ⟨rfl, rfl⟩
        go_wp2_with fail
        refine (H2.out _).mono ?_
        rintro e w1 ⟨rfl, rfl⟩
        go_wp2
        go_ret
        exact ⟨rfl, rfl⟩
    · have hi2 : ¬ (0 : Int) < i := by omega
      rw [decide_eq_false hi]
      clear hi
      go_enter Tryz.func88, Tryz.ntmps88
      go_wp2_with fail
      refine (H1.out _).mono ?_
      rintro e w1 ⟨rfl, rfl⟩
      go_wp2
      go_ret
      exact ⟨rfl, rfl⟩
  · go_enter Tryz.func88, Tryz.ntmps88
    go_wp2_with fail
    refine (H1.out _).mono ?_
    rintro e w1 ⟨rfl, rfl⟩
    go_wp2
    go_ret
    exact ⟨rfl, rfl⟩

theorem owns_form {w : World} {B n : Nat} {v : Value} {l : List Value} (h : w.ownsRow B 5 1 v n l) : ∃ a cap, v = .slice a n cap := by
  have h1 := h.1
  rcases h.2 with ⟨rfl, h2⟩ | ⟨g, cap, cur, rfl, _⟩
  · subst h2
    exact ⟨none, 0, rfl⟩
  · exact ⟨_, _, rfl⟩
theorem take_step (l : List UInt8) (k : Nat) (h : k < l.length) : l.take (k + 1) = l.take k ++ [l[k]] := by
  rw [List.take_add_one, List.getElem?_eq_getElem h]; rfl

set_option maxHeartbeats 1000000 in
theorem tidy_any (s : ByteArray) (hs : s.size ≤ 1000000) (w : World) :
    Calls Tryz.prog 86 #[.string s] w fun e w' => e = .returned (.string ⟨(tidyL s.data.toList).toArray⟩) ∧ Below w.heap.size w w' := by
  generalize hR : tidyL s.data.toList = R
  have HRR := hide hR
  have HSL := hide (size_list s)
  have HH := hide hidden_any
  clear hR
  go_enter Tryz.func86, Tryz.ntmps86
  go_wp2
  go_loopw [3, 7] (fun tb i wr => ∃ (k n : Nat), k ≤ s.size ∧ n ≤ k ∧ i = .int .i64 k ∧ Below w.heap.size w wr ∧ Hid (n = (tidyL (s.data.toList.take k)).length) ∧ Hid (wr.ownsRow w.heap.size 5 1 tb n (Lib.byteCells (tidyL (s.data.toList.take k))))) (fun _ i _ => s.size - (intOf i).toNat)
  case atStart => exact ⟨0, 0, Nat.zero_le _, Nat.zero_le _, rfl, Below.refl _ w, hide rfl, hide ⟨rfl, .inl ⟨rfl, rfl⟩⟩⟩
  case round =>
    obtain ⟨k, n, hk, hn, rfl, bw, HN, HO⟩ := hrel
    have hsz := bw.size
    by_cases hlt : k < s.size
    · have hlt2 : (k : Int) < s.size := by omega
      have hkl : k < s.data.toList.length := by rw [← HSL.out]; exact hlt
      have hst := tidy_step (s.data.toList.take k) s.data.toList[k]
      rw [← take_step _ k hkl] at hst
      obtain ⟨v', w', hr, ho, hb⟩ := append_byte wr w.heap.size n _ _ (s.data.toList[k]) HO.out (by omega) hsz
      obtain ⟨a, cap, rfl⟩ := owns_form HO.out
      have hidx : s[k] = s.data.toList[k] := rfl
      rw [← hidx] at hr ho hst
      have HQ := hide (HH.out s[k].toNat)
      have HRUN := hide hr
      have b2 := bw.trans hb
      clear hr hb hidx
      have hem : (tidyL (s.data.toList.take k)).isEmpty = decide (n = 0) := by
        rw [HN.out]; cases tidyL (s.data.toList.take k) <;> simp
      rw [hem] at hst
      clear hem
      cases hh : hidN s[k].toNat
      · rw [hh] at HQ
        have hh2 : hidC s[k] = false := hh
        rw [hh2, Bool.false_or] at hst
        by_cases hc : n = 0 ∧ s[k].toNat ≤ 32
        · obtain ⟨h0, h32⟩ := hc
          have hb2 : blankC s[k] = true := by simp [blankC]; exact h32
          rw [decide_eq_true h0, hb2, Bool.true_and, if_pos rfl] at hst
          have HN2 : Hid (n = (tidyL (s.data.toList.take (k + 1))).length) := hide (by rw [hst]; exact HN.out)
          have HO2 : Hid (wr.ownsRow w.heap.size 5 1 (.slice a n cap) n (Lib.byteCells (tidyL (s.data.toList.take (k + 1))))) := hide (by rw [hst]; exact HO.out)
          clear hst HN HO ho hh hh2 hb2 HRUN
          subst h0
          have h32i : (s[k].toNat : Int) ≤ 32 := by omega
          go_wp2_with fail
          refine (HQ.out _).mono ?_
          rintro e w1 ⟨rfl, rfl⟩
          go_wp2
          go_roundw
          case rel => exact ⟨k + 1, 0, by omega, by omega, by go_num, bw, HN2, HO2⟩
          case measure => simp [intOf]; omega
        · rw [if_neg (by rw [Bool.and_eq_true, decide_eq_true_eq, blankC, decide_eq_true_eq]; exact hc)] at hst
          have HN2 : Hid (n + 1 = (tidyL (s.data.toList.take (k + 1))).length) := hide (by rw [hst, List.length_append, ← HN.out]; rfl)
          have HO2 : Hid (w'.ownsRow w.heap.size 5 1 v' (n + 1) (Lib.byteCells (tidyL (s.data.toList.take (k + 1))))) := hide (by rw [hst]; exact ho)
          clear hst HN HO ho hh hh2
          by_cases h0 : n = 0
          · have h32i : ¬ (s[k].toNat : Int) ≤ 32 := by omega
            subst h0
            clear hc
            go_wp2_with fail
            refine (HQ.out _).mono ?_
            rintro e w1 ⟨rfl, rfl⟩
            go_wp2_with (at_builtin; refine wpList_append_run rfl _ _ 104 rfl _ _ _ _ rfl rfl HRUN.out ?_)
            go_roundw
            case rel => exact ⟨k + 1, 0 + 1, by omega, by omega, by go_num, b2, HN2, HO2⟩
            case measure => simp [intOf]; omega
          · have h0i : ((n : Int) == 0) = false := by rw [beq_eq_false_iff_ne]; omega
            clear hc h0
            go_wp2_with fail
            refine (HQ.out _).mono ?_
            rintro e w1 ⟨rfl, rfl⟩
            go_wp2_with (at_builtin; refine wpList_append_run rfl _ _ 104 rfl _ _ _ _ rfl rfl HRUN.out ?_)
            go_roundw
            case rel => exact ⟨k + 1, n + 1, by omega, by omega, by go_num, b2, HN2, HO2⟩
            case measure => simp [intOf]; omega
      · rw [hh] at HQ
        have hh2 : hidC s[k] = true := hh
        rw [hh2, Bool.true_or, if_pos rfl] at hst
        have HN2 : Hid (n = (tidyL (s.data.toList.take (k + 1))).length) := hide (by rw [hst]; exact HN.out)
        have HO2 : Hid (wr.ownsRow w.heap.size 5 1 (.slice a n cap) n (Lib.byteCells (tidyL (s.data.toList.take (k + 1))))) := hide (by rw [hst]; exact HO.out)
        clear hst HN HO ho hh hh2 HRUN
        go_wp2_with fail
        refine (HQ.out _).mono ?_
        rintro e w1 ⟨rfl, rfl⟩
        go_wp2
        go_roundw
        case rel => exact ⟨k + 1, n, by omega, by omega, by go_num, bw, HN2, HO2⟩
        case measure => simp [intOf]; omega
    · have hlt2 : ¬ (k : Int) < s.size := by omega
      have hq := HO.out
      rw [List.take_of_length_le (by rw [← HSL.out]; omega), HRR.out] at hq
      have hcv := (owns_isB hq).conv
      clear HO HN hlt hq
      go_wp2
      go_ret
      exact ⟨rfl, bw⟩

/-- The document's tidying, from a place on. -/
def hideL (l : List UInt8) : List UInt8 := l.filter fun c => !hidC c
theorem hide_step (l : List UInt8) (k : Nat) (h : k < l.length) : hideL (l.take (k + 1)) = if hidC l[k] then hideL (l.take k) else hideL (l.take k) ++ [l[k]] := by
  unfold hideL
  rw [take_step l k h, List.filter_append]
  cases hc : hidC l[k]
  · simp [hc]
  · simp [hc]
theorem str_app (x y : ByteArray) (a b : List UInt8) (hx : x.data.toList = a) (hy : y.data.toList = b) : (x ++ y).data.toList = a ++ b := by
  rw [ByteArray.data_append, Array.toList_append, hx, hy]
theorem one_cut (s : ByteArray) (k : Nat) (h : k < s.size) : (s.extract k (k + 1)).data.toList = [s[k]] := by
  rw [Lib.extract_data, Nat.add_sub_cancel_left, drop_cons s k h]
  rfl
theorem drop_blank (s : ByteArray) (h : 0 < s.size) (hb : s[0].toNat ≤ 32) : tidyL (s.extract 1 s.size).data.toList = tidyL s.data.toList ∧ (s.extract 1 s.size).size = s.size - 1 := by
  have e : s.data.toList = s[0] :: s.data.toList.drop 1 := by
    have := drop_cons s 0 h
    rw [List.drop_zero] at this
    exact this
  have e2 : (s.extract 1 s.size).data.toList = s.data.toList.drop 1 := by
    rw [Lib.extract_data]
    apply List.take_of_length_le
    rw [List.length_drop, ← size_list]
    omega
  refine ⟨?_, ?_⟩
  · rw [e2]
    conv => rhs; rw [e]
    rw [tidy_cons_blank _ _ (by simp [blankC]; exact hb)]
  · rw [size_list, e2, List.length_drop, ← size_list]
theorem tidy_first (s : ByteArray) (h : s.size = 0 ∨ ∃ h : 0 < s.size, ¬ s[0].toNat ≤ 32) : tidyL s.data.toList = hideL s.data.toList := by
  unfold tidyL hideL
  rcases h with h | ⟨h, hb⟩
  · have : s.data.toList = [] := List.eq_nil_of_length_eq_zero (by rw [← size_list]; exact h)
    rw [this]; rfl
  · have e := drop_cons s 0 h
    rw [List.drop_zero] at e
    rw [e, List.dropWhile_cons, if_neg (by simp [blankC]; omega)]
theorem ret_string {y : ByteArray} {R : List UInt8} (h : y.data.toList = R) : Ending.returned (.string y) = .returned (.string ⟨R.toArray⟩) := by
  subst h
  cases y
  simp
theorem bne_lit (n : Nat) (k : Int) (h : (n : Int) ≠ k) : ((n : Int) != k) = true := bne_iff_ne.2 h
theorem empty_eq (s : ByteArray) : (s.toList == []) = decide (s.size = 0) := by
  rw [Lib.toList_data, size_list]
  cases s.data.toList <;> simp
set_option maxHeartbeats 1000000 in
theorem rtidy_any (s : ByteArray) (hs : s.size ≤ 1000000) (w : World) :
    Calls Tryz.prog 95 #[.string s] w fun e w' => e = .returned (.string ⟨(tidyL s.data.toList).toArray⟩) ∧ w' = w := by
  generalize hR : tidyL s.data.toList = R
  have HRR := hide hR
  clear hR
  go_enter Tryz.func95, Tryz.ntmps95
  go_wp2
  go_loop [0] (fun vs => ∃ x : ByteArray, vs = .string x ∧ x.size ≤ s.size ∧ Hid (tidyL x.data.toList = R)) (fun vs => match vs with | .string x => x.size | _ => 0)
  case atStart => exact ⟨s, rfl, Nat.le_refl _, HRR⟩
  case round =>
    obtain ⟨x, rfl, hx, HR⟩ := hrel
    have he := empty_eq x
    by_cases h0 : x.size = 0
    · rw [decide_eq_true h0] at he
      have HF := tidy_first x (.inl h0)
      rw [HR.out] at HF
      have HF2 := hide HF
      clear h0 HF HR HRR
      go_wp2
      go_loop [3, 4] (fun vo vi => ∃ (k : Nat) (y : ByteArray), k ≤ x.size ∧ y.size ≤ k ∧ vo = .string y ∧ vi = .int .i64 k ∧ Hid (y.data.toList = hideL (x.data.toList.take k))) (fun _ vi => x.size - (intOf vi).toNat)
      case atStart => exact ⟨0, ⟨#[]⟩, Nat.zero_le _, Nat.zero_le _, rfl, rfl, hide rfl⟩
      case round =>
        obtain ⟨k, y, hk, hy, rfl, rfl, HY⟩ := hrel
        by_cases hlt : k < x.size
        · have hlt2 : (k : Int) < x.size := by omega
          have hlt3 : (k : Int) + 1 ≤ x.size := by omega
          have hkl : k < x.data.toList.length := by rw [← size_list]; exact hlt
          have hst := hide_step x.data.toList k hkl
          rw [show x.data.toList[k] = x[k] from rfl] at hst
          have hoc := one_cut x k hlt
          have hoz : (x.extract k (k + 1)).size = 1 := by rw [size_list, hoc]; rfl
          cases hh : hidC x[k]
          · rw [hh, if_neg (by decide), ← HY.out] at hst
            have HY2 : Hid ((y ++ x.extract k (k + 1)).data.toList = hideL (x.data.toList.take (k + 1))) := hide (by rw [hst]; exact str_app y _ _ _ rfl hoc)
            have hz : (y ++ x.extract k (k + 1)).size ≤ k + 1 := by rw [ByteArray.size_append, hoz]; omega
            have HZ := hide hz
            simp [hidC, hidN] at hh
            obtain ⟨⟨g1, g2⟩, g3⟩ := hh
            have e1 := bne_lit x[k].toNat 9 (by omega)
            have e2 := bne_lit x[k].toNat 10 (by omega)
            have e3 := bne_lit x[k].toNat 13 (by omega)
            clear hst HY hoc hz g1 g2 g3
            go_wp2
            go_round
            case rel => exact ⟨k + 1, _, by omega, HZ.out, rfl, by go_num, HY2⟩
            case measure => simp [intOf]; omega
          · rw [hh, if_pos rfl, ← HY.out] at hst
            have HY2 := hide hst.symm
            simp [hidC, hidN] at hh
            clear hst HY hoc hoz
            rcases hh with (hh | hh) | hh
            · have e1 : ((x[k].toNat : Int) != 9) = false := by rw [hh]; rfl
              clear hh
              go_wp2
              go_round
              case rel => exact ⟨k + 1, y, by omega, by omega, rfl, by go_num, HY2⟩
              case measure => simp [intOf]; omega
            · have e1 : ((x[k].toNat : Int) != 9) = true := by rw [hh]; rfl
              have e2 : ((x[k].toNat : Int) != 10) = false := by rw [hh]; rfl
              clear hh
              go_wp2
              go_round
              case rel => exact ⟨k + 1, y, by omega, by omega, rfl, by go_num, HY2⟩
              case measure => simp [intOf]; omega
            · have e1 : ((x[k].toNat : Int) != 9) = true := by rw [hh]; rfl
              have e2 : ((x[k].toNat : Int) != 10) = true := by rw [hh]; rfl
              have e3 : ((x[k].toNat : Int) != 13) = false := by rw [hh]; rfl
              clear hh
              go_wp2
              go_round
              case rel => exact ⟨k + 1, y, by omega, by omega, rfl, by go_num, HY2⟩
              case measure => simp [intOf]; omega
        · have hlt2 : ¬ (k : Int) < x.size := by omega
          have hq := HY.out
          rw [List.take_of_length_le (by rw [← size_list]; omega), ← HF2.out] at hq
          have HQ := hide hq
          clear hq HY HF2 hlt
          go_wp2
          go_ret
          exact ⟨ret_string HQ.out, rfl⟩
    · rw [decide_eq_false h0] at he
      have hpos : 0 < x.size := by omega
      have hpi : (0 : Int) < x.size := by omega
      have hpi1 : (1 : Int) ≤ x.size := by omega
      clear h0
      by_cases hb : x[0].toNat ≤ 32
      · have hbi : (x[0].toNat : Int) ≤ 32 := by omega
        obtain ⟨d1, d2⟩ := drop_blank x hpos hb
        rw [HR.out] at d1
        have D1 := hide d1
        clear d1 HR hb
        go_wp2
        go_round
        case rel => exact ⟨_, rfl, by omega, D1⟩
        case measure => simp; omega
      · have hbi : ¬ (x[0].toNat : Int) ≤ 32 := by omega
        have HF := tidy_first x (.inr ⟨hpos, hb⟩)
        rw [HR.out] at HF
        have HF2 := hide HF
        clear hb HF HR HRR
        go_wp2
        go_loop [3, 4] (fun vo vi => ∃ (k : Nat) (y : ByteArray), k ≤ x.size ∧ y.size ≤ k ∧ vo = .string y ∧ vi = .int .i64 k ∧ Hid (y.data.toList = hideL (x.data.toList.take k))) (fun _ vi => x.size - (intOf vi).toNat)
        case atStart => exact ⟨0, ⟨#[]⟩, Nat.zero_le _, Nat.zero_le _, rfl, rfl, hide rfl⟩
        case round =>
          obtain ⟨k, y, hk, hy, rfl, rfl, HY⟩ := hrel
          by_cases hlt : k < x.size
          · have hlt2 : (k : Int) < x.size := by omega
            have hlt3 : (k : Int) + 1 ≤ x.size := by omega
            have hkl : k < x.data.toList.length := by rw [← size_list]; exact hlt
            have hst := hide_step x.data.toList k hkl
            rw [show x.data.toList[k] = x[k] from rfl] at hst
            have hoc := one_cut x k hlt
            have hoz : (x.extract k (k + 1)).size = 1 := by rw [size_list, hoc]; rfl
            cases hh : hidC x[k]
            · rw [hh, if_neg (by decide), ← HY.out] at hst
              have HY2 : Hid ((y ++ x.extract k (k + 1)).data.toList = hideL (x.data.toList.take (k + 1))) := hide (by rw [hst]; exact str_app y _ _ _ rfl hoc)
              have hz : (y ++ x.extract k (k + 1)).size ≤ k + 1 := by rw [ByteArray.size_append, hoz]; omega
              have HZ := hide hz
              simp [hidC, hidN] at hh
              obtain ⟨⟨g1, g2⟩, g3⟩ := hh
              have e1 := bne_lit x[k].toNat 9 (by omega)
              have e2 := bne_lit x[k].toNat 10 (by omega)
              have e3 := bne_lit x[k].toNat 13 (by omega)
              clear hst HY hoc hz g1 g2 g3
              go_wp2
              go_round
              case rel => exact ⟨k + 1, _, by omega, HZ.out, rfl, by go_num, HY2⟩
              case measure => simp [intOf]; omega
            · rw [hh, if_pos rfl, ← HY.out] at hst
              have HY2 := hide hst.symm
              simp [hidC, hidN] at hh
              clear hst HY hoc hoz
              rcases hh with (hh | hh) | hh
              · have e1 : ((x[k].toNat : Int) != 9) = false := by rw [hh]; rfl
                clear hh
                go_wp2
                go_round
                case rel => exact ⟨k + 1, y, by omega, by omega, rfl, by go_num, HY2⟩
                case measure => simp [intOf]; omega
              · have e1 : ((x[k].toNat : Int) != 9) = true := by rw [hh]; rfl
                have e2 : ((x[k].toNat : Int) != 10) = false := by rw [hh]; rfl
                clear hh
                go_wp2
                go_round
                case rel => exact ⟨k + 1, y, by omega, by omega, rfl, by go_num, HY2⟩
                case measure => simp [intOf]; omega
              · have e1 : ((x[k].toNat : Int) != 9) = true := by rw [hh]; rfl
                have e2 : ((x[k].toNat : Int) != 10) = true := by rw [hh]; rfl
                have e3 : ((x[k].toNat : Int) != 13) = false := by rw [hh]; rfl
                clear hh
                go_wp2
                go_round
                case rel => exact ⟨k + 1, y, by omega, by omega, rfl, by go_num, HY2⟩
                case measure => simp [intOf]; omega
          · have hlt2 : ¬ (k : Int) < x.size := by omega
            have hq := HY.out
            rw [List.take_of_length_le (by rw [← size_list]; omega), ← HF2.out] at hq
            have HQ := hide hq
            clear hq HY HF2 hlt
            go_wp2
            go_ret
            exact ⟨ret_string HQ.out, rfl⟩
end Go.Proofs.YthopnliaikkhbaaGreatDoor
