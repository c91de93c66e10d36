/- What the program's byNumber answers, of whatever text that begins with & and the number sign, where the table stands as it was laid; the world stays as it was. -/
import Derived.Test.YthoibenncjbkdaaDoorS4WalkPD
set_option linter.unusedVariables false
set_option linter.unusedSimpArgs false
set_option maxRecDepth 4000
namespace Go.Proofs.YthoibenncjbkdaaDoor.S4
open Go.RowKit

theorem ret_pair {a : ByteArray} {x y : Int} (h : x = y) : Ending.returned (.tuple #[.string a, .int .i64 x]) = .returned (.tuple #[.string a, .int .i64 y]) := by rw [h]
theorem capv_min (v β d : Nat) (hβ : 1 ≤ β) : (capv (v * β + d) : Int) = if (1114112 : Int) < (capv v : Int) * β + d then 1114112 else (capv v : Int) * β + d := by
  have hc : ((capv v : Nat) : Int) * β + d = ((capv v * β + d : Nat) : Int) := by simp
  rw [hc]
  by_cases h : 1114111 < capv v * β + d
  · rw [capv_over v β d hβ h]
    split <;> omega
  · rw [capv_under v β d hβ h, if_neg (by omega)]
/-- What stands behind the digits: the text's number and its length, from the first digit on. -/
def digsAt (β q : Nat) (L : List UInt8) : List UInt8 × Nat := if (digsL β L).2 = 0 then (([] : List UInt8), 0) else ((digsL β L).1, (digsL β L).2 + q)
theorem digsAt_in (β q : Nat) (s : ByteArray) (k v : Nat) (hlt : q + k < s.size) (h1 : digsN β (s.data.toList.drop q) = k) (h2 : valN β 0 (s.data.toList.drop q) = v) :
    digsAt β q (s.data.toList.drop q) = if k = 0 then (([] : List UInt8), 0) else (numberL (v : Nat), k + (if (s[q + k]).toNat = 59 then 1 else 0) + q) := by
  have hsm : semiN ((s.data.toList.drop q).drop k) = if (s[q + k]).toNat = 59 then 1 else 0 := by
    rw [List.drop_drop, drop_cons s (q + k) hlt]
    unfold semiN
    simp only [List.head?_cons, Option.some.injEq]
    by_cases h59 : s[q + k] = 59
    · rw [if_pos h59, if_pos (by rw [h59]; rfl)]
    · rw [if_neg h59, if_neg (fun (e : (s[q + k]).toNat = 59) => h59 (UInt8.toNat_inj.1 e))]
  unfold digsAt digsL
  rw [h1, h2, hsm]
  by_cases hk0 : k = 0
  · rw [if_pos hk0, if_pos rfl, if_pos hk0]
  · rw [if_neg hk0, if_neg (by show ¬ k + _ = 0; omega), if_neg hk0]
theorem digsAt_end (β q : Nat) (s : ByteArray) (k v : Nat) (hlt : q + k = s.size) (h1 : digsN β (s.data.toList.drop q) = k) (h2 : valN β 0 (s.data.toList.drop q) = v) :
    digsAt β q (s.data.toList.drop q) = if k = 0 then (([] : List UInt8), 0) else (numberL (v : Nat), k + q) := by
  have hsm : semiN ((s.data.toList.drop q).drop k) = 0 := by
    rw [List.drop_drop, drop_end s (q + k) (by omega)]
    rfl
  unfold digsAt digsL
  rw [h1, h2, hsm]
  by_cases hk0 : k = 0
  · rw [if_pos hk0, if_pos rfl, if_pos hk0]
  · rw [if_neg hk0, if_neg (by show ¬ k + 0 = 0; omega), if_neg hk0] <;> rfl

set_option maxHeartbeats 1500000 in
theorem num_10 (s : ByteArray) (hs : s.size ≤ 1000000) (hp : 2 < s.size) (hx : (s[2]).toNat ≠ 120) (hX : (s[2]).toNat ≠ 88) (w : World) (ho : OldOk w) :
    Calls Tryd.prog 17 #[.string s] w fun e w' => e = .returned (.tuple #[.string ⟨(digsAt 10 2 (s.data.toList.drop 2)).1.toArray⟩, .int .i64 ((digsAt 10 2 (s.data.toList.drop 2)).2 : Nat)]) ∧ w' = w := by
  have HDG := hide (fun (c : UInt8) => digit_any c.toNat)
  have HNM := hide (fun (n : Int) => number_same n w ho)
  have HI := hide (digsAt_in 10 2 s)
  have HE := hide (digsAt_end 10 2 s)
  clear ho
  generalize digsAt 10 2 (s.data.toList.drop 2) = R at *
  generalize hL : s.data.toList.drop 2 = L at *
  have HL := hide hL
  clear hL
  have e1 := ne_lit _ 120 (by omega : ((s[2]).toNat : Int) ≠ 120)
  have e2 := ne_lit _ 88 (by omega : ((s[2]).toNat : Int) ≠ 88)
  have e3 : (2 : Int) < s.size := by omega
  clear hx hX
  go_enter Tryd.func17, Tryd.ntmps17
  go_wp2
  go_loop [6, 7] (fun tn te => ∃ k v : Nat, tn = .int .i64 (capv v : Nat) ∧ te = .int .i64 ((2 + k : Nat) : Int) ∧ 2 + k ≤ s.size ∧ Hid (NumSt 10 L (s.data.toList.drop (2 + k)) k v)) (fun _ te => s.size - (intOf te).toNat)
  case atStart => exact ⟨0, 0, rfl, by go_num, by omega, hide ⟨by rw [← HL.out] <;> simp, by rw [← HL.out] <;> rfl⟩⟩
  case round =>
    obtain ⟨k, v, rfl, rfl, hk, HN⟩ := hrel
    have hcl := capv_le v
    by_cases hlt : 2 + k < s.size
    · have hlt2 : (((2 + k : Nat) : Int)) < s.size := by omega
      cases hd : digitB 10 s[2 + k] with
      | some d =>
        have hz := digitP_some 10 s[2 + k] d hd
        have hdl := digit_lt 10 _ d hd
        have hq := digs_yes 10 s[2 + k] (s.data.toList.drop (2 + k + 1)) d hd
        rw [← drop_cons s (2 + k) hlt] at hq
        have hN2 : NumSt 10 L (s.data.toList.drop (2 + (k + 1))) (k + 1) (v * 10 + d) := by
          obtain ⟨n1, n2⟩ := HN.out
          rw [hq.1] at n1
          rw [hq.2] at n2
          exact ⟨by rw [show 2 + (k + 1) = 2 + k + 1 by omega]; omega, n2⟩
        have HN2 := hide hN2
        have HD := hide (HDG.out s[2 + k])
        rw [hz] at HD
        have HCM := hide (capv_min v 10 d (by omega))
        have hdb : ¬ (10 : Int) ≤ d := by omega
        clear hz hq hN2 HN hd HI HE
        generalize hnx : 2 + k = x at *
        go_wp2_with fail
        refine (HD.out _).mono ?_
        rintro e w1 ⟨rfl, rfl⟩
        by_cases hc : (1114112 : Int) < (capv v : Int) * 10 + d
        · have HCV : Hid ((capv (v * 10 + d) : Int) = 1114112) := hide (by rw [HCM.out]; exact if_pos hc)
          clear HCM
          go_wp2
          go_round
          case rel => exact ⟨k + 1, v * 10 + d, by rw [HCV.out], by (refine congrArg _ ?_; omega), by omega, HN2⟩
          case measure => simp [intOf]; omega
        · have HCV : Hid ((capv (v * 10 + d) : Int) = (capv v : Int) * 10 + d) := hide (by rw [HCM.out]; exact if_neg hc)
          clear HCM
          go_wp2
          go_round
          case rel => exact ⟨k + 1, v * 10 + d, by rw [HCV.out], by (refine congrArg _ ?_; omega), by omega, HN2⟩
          case measure => simp [intOf]; omega
      | none =>
        have hz := digitP_none 10 (by omega) s[2 + k] hd
        have hq := digs_no 10 s[2 + k] (s.data.toList.drop (2 + k + 1)) hd
        rw [← drop_cons s (2 + k) hlt] at hq
        obtain ⟨n1, n2⟩ := HN.out
        rw [hq.1, Nat.add_zero] at n1
        rw [hq.2] at n2
        have hRR := HI.out k v hlt n1 n2
        have HD := hide (HDG.out s[2 + k])
        generalize digitP (s[2 + k]).toNat = dz at *
        have HNU := hide (HNM.out (capv v : Nat))
        rw [capv_number] at HNU
        clear hq hd n1 n2 HN HI HE
        generalize numberL (v : Nat) = T at *
        by_cases hk0 : k = 0
        · subst hk0
          have HRR : Hid (R = ([], 0)) := hide hRR
          clear hRR
          go_wp2_with fail
          refine (HD.out _).mono ?_
          rintro e w1 ⟨rfl, rfl⟩
          go_wp2
          go_ret2
          rw [HRR.out]
          exact ⟨rfl, rfl⟩
        · have hk1 : (((2 + k : Nat) : Int) == 2) = false := beq_eq_false_iff_ne.2 (by omega)
          rw [if_neg hk0] at hRR
          by_cases h59 : (s[2 + k]).toNat = 59
          · have h592 := eq_lit _ 59 (by omega : ((s[2 + k]).toNat : Int) = 59)
            rw [if_pos h59] at hRR
            have HRR := hide hRR
            clear h59 hRR
            generalize hnx : 2 + k = x at *
            go_wp2_with fail
            refine (HD.out _).mono ?_
            rintro e w1 ⟨rfl, rfl⟩
            go_wp2_with fail
            refine HNU.out.mono ?_
            rintro e w2 ⟨rfl, rfl⟩
            go_wp2
            go_ret2
            refine ⟨?_, rfl⟩
            rw [HRR.out]
            exact ret_pair (show (x : Int) + 1 = ((k + 1 + 2 : Nat) : Int) by omega)
          · have h592 := ne_lit _ 59 (by omega : ((s[2 + k]).toNat : Int) ≠ 59)
            rw [if_neg h59] at hRR
            have HRR := hide hRR
            clear h59 hRR
            generalize hnx : 2 + k = x at *
            go_wp2_with fail
            refine (HD.out _).mono ?_
            rintro e w1 ⟨rfl, rfl⟩
            go_wp2_with fail
            refine HNU.out.mono ?_
            rintro e w2 ⟨rfl, rfl⟩
            go_wp2
            go_ret2
            refine ⟨?_, rfl⟩
            rw [HRR.out]
            exact ret_pair (show (x : Int) = ((k + 0 + 2 : Nat) : Int) by omega)
    · have hend : 2 + k = s.size := by omega
      obtain ⟨n1, n2⟩ := HN.out
      rw [drop_end s (2 + k) (by omega)] at n1 n2
      have n1 : digsN 10 L = k := n1
      have n2 : valN 10 0 L = v := n2
      have hRR := HE.out k v hend n1 n2
      have HNU := hide (HNM.out (capv v : Nat))
      rw [capv_number] at HNU
      clear n1 n2 HN HI HE
      generalize numberL (v : Nat) = T at *
      have hlt2 : ¬ (((2 + k : Nat) : Int)) < s.size := by omega
      clear hend
      by_cases hk0 : k = 0
      · subst hk0
        have HRR : Hid (R = ([], 0)) := hide hRR
        clear hRR
        go_wp2
        all_goals go_ret2
        all_goals rw [HRR.out]
        all_goals exact ⟨rfl, rfl⟩
      · have hk1 : (((2 + k : Nat) : Int) == 2) = false := beq_eq_false_iff_ne.2 (by omega)
        rw [if_neg hk0] at hRR
        have HRR := hide hRR
        clear hRR
        generalize hnx : 2 + k = x at *
        go_wp2_with fail
        refine HNU.out.mono ?_
        rintro e w2 ⟨rfl, rfl⟩
        go_wp2
        go_ret2
        refine ⟨?_, rfl⟩
        rw [HRR.out]
        exact ret_pair (show (x : Int) = ((k + 2 : Nat) : Int) by omega)

set_option maxHeartbeats 1500000 in
theorem num_none (s : ByteArray) (hs : s.size ≤ 1000000) (hp : s.size = 2) (w : World) (ho : OldOk w) :
    Calls Tryd.prog 17 #[.string s] w fun e w' => e = .returned (.tuple #[.string ⟨(digsAt 10 2 (s.data.toList.drop 2)).1.toArray⟩, .int .i64 ((digsAt 10 2 (s.data.toList.drop 2)).2 : Nat)]) ∧ w' = w := by
  have HDG := hide (fun (c : UInt8) => digit_any c.toNat)
  have HNM := hide (fun (n : Int) => number_same n w ho)
  have HI := hide (digsAt_in 10 2 s)
  have HE := hide (digsAt_end 10 2 s)
  clear ho
  generalize digsAt 10 2 (s.data.toList.drop 2) = R at *
  generalize hL : s.data.toList.drop 2 = L at *
  have HL := hide hL
  clear hL
  have e3 : ¬ (2 : Int) < s.size := by omega
  go_enter Tryd.func17, Tryd.ntmps17
  go_wp2
  go_loop [6, 7] (fun tn te => ∃ k v : Nat, tn = .int .i64 (capv v : Nat) ∧ te = .int .i64 ((2 + k : Nat) : Int) ∧ 2 + k ≤ s.size ∧ Hid (NumSt 10 L (s.data.toList.drop (2 + k)) k v)) (fun _ te => s.size - (intOf te).toNat)
  case atStart => exact ⟨0, 0, rfl, by go_num, by omega, hide ⟨by rw [← HL.out] <;> simp, by rw [← HL.out] <;> rfl⟩⟩
  case round =>
    obtain ⟨k, v, rfl, rfl, hk, HN⟩ := hrel
    have hcl := capv_le v
    by_cases hlt : 2 + k < s.size
    · exact absurd hlt (by omega)
    · have hend : 2 + k = s.size := by omega
      obtain ⟨n1, n2⟩ := HN.out
      rw [drop_end s (2 + k) (by omega)] at n1 n2
      have n1 : digsN 10 L = k := n1
      have n2 : valN 10 0 L = v := n2
      have hRR := HE.out k v hend n1 n2
      have HNU := hide (HNM.out (capv v : Nat))
      rw [capv_number] at HNU
      clear n1 n2 HN HI HE
      generalize numberL (v : Nat) = T at *
      have hlt2 : ¬ (((2 + k : Nat) : Int)) < s.size := by omega
      clear hend
      obtain rfl : k = 0 := by omega
      have HRR : Hid (R = ([], 0)) := hide hRR
      clear hRR hp
      go_wp2
      all_goals go_ret2
      all_goals rw [HRR.out]
      all_goals exact ⟨rfl, rfl⟩

set_option maxHeartbeats 1500000 in
theorem num_x (s : ByteArray) (hs : s.size ≤ 1000000) (hp : 2 < s.size) (hx : (s[2]).toNat = 120) (w : World) (ho : OldOk w) :
    Calls Tryd.prog 17 #[.string s] w fun e w' => e = .returned (.tuple #[.string ⟨(digsAt 16 3 (s.data.toList.drop 3)).1.toArray⟩, .int .i64 ((digsAt 16 3 (s.data.toList.drop 3)).2 : Nat)]) ∧ w' = w := by
  have HDG := hide (fun (c : UInt8) => digit_any c.toNat)
  have HNM := hide (fun (n : Int) => number_same n w ho)
  have HI := hide (digsAt_in 16 3 s)
  have HE := hide (digsAt_end 16 3 s)
  clear ho
  generalize digsAt 16 3 (s.data.toList.drop 3) = R at *
  generalize hL : s.data.toList.drop 3 = L at *
  have HL := hide hL
  clear hL
  have e1 := eq_lit _ 120 (by omega : ((s[2]).toNat : Int) = 120)
  have e3 : (2 : Int) < s.size := by omega
  clear hx
  go_enter Tryd.func17, Tryd.ntmps17
  go_wp2
  go_loop [6, 7] (fun tn te => ∃ k v : Nat, tn = .int .i64 (capv v : Nat) ∧ te = .int .i64 ((3 + k : Nat) : Int) ∧ 3 + k ≤ s.size ∧ Hid (NumSt 16 L (s.data.toList.drop (3 + k)) k v)) (fun _ te => s.size - (intOf te).toNat)
  case atStart => exact ⟨0, 0, rfl, by go_num, by omega, hide ⟨by rw [← HL.out] <;> simp, by rw [← HL.out] <;> rfl⟩⟩
  case round =>
    obtain ⟨k, v, rfl, rfl, hk, HN⟩ := hrel
    have hcl := capv_le v
    by_cases hlt : 3 + k < s.size
    · have hlt2 : (((3 + k : Nat) : Int)) < s.size := by omega
      cases hd : digitB 16 s[3 + k] with
      | some d =>
        have hz := digitP_some 16 s[3 + k] d hd
        have hdl := digit_lt 16 _ d hd
        have hq := digs_yes 16 s[3 + k] (s.data.toList.drop (3 + k + 1)) d hd
        rw [← drop_cons s (3 + k) hlt] at hq
        have hN2 : NumSt 16 L (s.data.toList.drop (3 + (k + 1))) (k + 1) (v * 16 + d) := by
          obtain ⟨n1, n2⟩ := HN.out
          rw [hq.1] at n1
          rw [hq.2] at n2
          exact ⟨by rw [show 3 + (k + 1) = 3 + k + 1 by omega]; omega, n2⟩
        have HN2 := hide hN2
        have HD := hide (HDG.out s[3 + k])
        rw [hz] at HD
        have HCM := hide (capv_min v 16 d (by omega))
        have hdb : ¬ (16 : Int) ≤ d := by omega
        clear hz hq hN2 HN hd HI HE
        generalize hnx : 3 + k = x at *
        go_wp2_with fail
        refine (HD.out _).mono ?_
        rintro e w1 ⟨rfl, rfl⟩
        by_cases hc : (1114112 : Int) < (capv v : Int) * 16 + d
        · have HCV : Hid ((capv (v * 16 + d) : Int) = 1114112) := hide (by rw [HCM.out]; exact if_pos hc)
          clear HCM
          go_wp2
          go_round
          case rel => exact ⟨k + 1, v * 16 + d, by rw [HCV.out], by (refine congrArg _ ?_; omega), by omega, HN2⟩
          case measure => simp [intOf]; omega
        · have HCV : Hid ((capv (v * 16 + d) : Int) = (capv v : Int) * 16 + d) := hide (by rw [HCM.out]; exact if_neg hc)
          clear HCM
          go_wp2
          go_round
          case rel => exact ⟨k + 1, v * 16 + d, by rw [HCV.out], by (refine congrArg _ ?_; omega), by omega, HN2⟩
          case measure => simp [intOf]; omega
      | none =>
        have hz := digitP_none 16 (by omega) s[3 + k] hd
        have hq := digs_no 16 s[3 + k] (s.data.toList.drop (3 + k + 1)) hd
        rw [← drop_cons s (3 + k) hlt] at hq
        obtain ⟨n1, n2⟩ := HN.out
        rw [hq.1, Nat.add_zero] at n1
        rw [hq.2] at n2
        have hRR := HI.out k v hlt n1 n2
        have HD := hide (HDG.out s[3 + k])
        generalize digitP (s[3 + k]).toNat = dz at *
        have HNU := hide (HNM.out (capv v : Nat))
        rw [capv_number] at HNU
        clear hq hd n1 n2 HN HI HE
        generalize numberL (v : Nat) = T at *
        by_cases hk0 : k = 0
        · subst hk0
          have HRR : Hid (R = ([], 0)) := hide hRR
          clear hRR
          go_wp2_with fail
          refine (HD.out _).mono ?_
          rintro e w1 ⟨rfl, rfl⟩
          go_wp2
          go_ret2
          rw [HRR.out]
          exact ⟨rfl, rfl⟩
        · have hk1 : (((3 + k : Nat) : Int) == 3) = false := beq_eq_false_iff_ne.2 (by omega)
          rw [if_neg hk0] at hRR
          by_cases h59 : (s[3 + k]).toNat = 59
          · have h592 := eq_lit _ 59 (by omega : ((s[3 + k]).toNat : Int) = 59)
            rw [if_pos h59] at hRR
            have HRR := hide hRR
            clear h59 hRR
            generalize hnx : 3 + k = x at *
            go_wp2_with fail
            refine (HD.out _).mono ?_
            rintro e w1 ⟨rfl, rfl⟩
            go_wp2_with fail
            refine HNU.out.mono ?_
            rintro e w2 ⟨rfl, rfl⟩
            go_wp2
            go_ret2
            refine ⟨?_, rfl⟩
            rw [HRR.out]
            exact ret_pair (show (x : Int) + 1 = ((k + 1 + 3 : Nat) : Int) by omega)
          · have h592 := ne_lit _ 59 (by omega : ((s[3 + k]).toNat : Int) ≠ 59)
            rw [if_neg h59] at hRR
            have HRR := hide hRR
            clear h59 hRR
            generalize hnx : 3 + k = x at *
            go_wp2_with fail
            refine (HD.out _).mono ?_
            rintro e w1 ⟨rfl, rfl⟩
            go_wp2_with fail
            refine HNU.out.mono ?_
            rintro e w2 ⟨rfl, rfl⟩
            go_wp2
            go_ret2
            refine ⟨?_, rfl⟩
            rw [HRR.out]
            exact ret_pair (show (x : Int) = ((k + 0 + 3 : Nat) : Int) by omega)
    · have hend : 3 + k = s.size := by omega
      obtain ⟨n1, n2⟩ := HN.out
      rw [drop_end s (3 + k) (by omega)] at n1 n2
      have n1 : digsN 16 L = k := n1
      have n2 : valN 16 0 L = v := n2
      have hRR := HE.out k v hend n1 n2
      have HNU := hide (HNM.out (capv v : Nat))
      rw [capv_number] at HNU
      clear n1 n2 HN HI HE
      generalize numberL (v : Nat) = T at *
      have hlt2 : ¬ (((3 + k : Nat) : Int)) < s.size := by omega
      clear hend
      by_cases hk0 : k = 0
      · subst hk0
        have HRR : Hid (R = ([], 0)) := hide hRR
        clear hRR
        go_wp2
        all_goals go_ret2
        all_goals rw [HRR.out]
        all_goals exact ⟨rfl, rfl⟩
      · have hk1 : (((3 + k : Nat) : Int) == 3) = false := beq_eq_false_iff_ne.2 (by omega)
        rw [if_neg hk0] at hRR
        have HRR := hide hRR
        clear hRR
        generalize hnx : 3 + k = x at *
        go_wp2_with fail
        refine HNU.out.mono ?_
        rintro e w2 ⟨rfl, rfl⟩
        go_wp2
        go_ret2
        refine ⟨?_, rfl⟩
        rw [HRR.out]
        exact ret_pair (show (x : Int) = ((k + 3 : Nat) : Int) by omega)

set_option maxHeartbeats 1500000 in
theorem num_X (s : ByteArray) (hs : s.size ≤ 1000000) (hp : 2 < s.size) (hx : (s[2]).toNat = 88) (w : World) (ho : OldOk w) :
    Calls Tryd.prog 17 #[.string s] w fun e w' => e = .returned (.tuple #[.string ⟨(digsAt 16 3 (s.data.toList.drop 3)).1.toArray⟩, .int .i64 ((digsAt 16 3 (s.data.toList.drop 3)).2 : Nat)]) ∧ w' = w := by
  have HDG := hide (fun (c : UInt8) => digit_any c.toNat)
  have HNM := hide (fun (n : Int) => number_same n w ho)
  have HI := hide (digsAt_in 16 3 s)
  have HE := hide (digsAt_end 16 3 s)
  clear ho
  generalize digsAt 16 3 (s.data.toList.drop 3) = R at *
  generalize hL : s.data.toList.drop 3 = L at *
  have HL := hide hL
  clear hL
  have e1 := ne_lit _ 120 (by omega : ((s[2]).toNat : Int) ≠ 120)
  have e2 := eq_lit _ 88 (by omega : ((s[2]).toNat : Int) = 88)
  have e3 : (2 : Int) < s.size := by omega
  clear hx
  go_enter Tryd.func17, Tryd.ntmps17
  go_wp2
  go_loop [6, 7] (fun tn te => ∃ k v : Nat, tn = .int .i64 (capv v : Nat) ∧ te = .int .i64 ((3 + k : Nat) : Int) ∧ 3 + k ≤ s.size ∧ Hid (NumSt 16 L (s.data.toList.drop (3 + k)) k v)) (fun _ te => s.size - (intOf te).toNat)
  case atStart => exact ⟨0, 0, rfl, by go_num, by omega, hide ⟨by rw [← HL.out] <;> simp, by rw [← HL.out] <;> rfl⟩⟩
  case round =>
    obtain ⟨k, v, rfl, rfl, hk, HN⟩ := hrel
    have hcl := capv_le v
    by_cases hlt : 3 + k < s.size
    · have hlt2 : (((3 + k : Nat) : Int)) < s.size := by omega
      cases hd : digitB 16 s[3 + k] with
      | some d =>
        have hz := digitP_some 16 s[3 + k] d hd
        have hdl := digit_lt 16 _ d hd
        have hq := digs_yes 16 s[3 + k] (s.data.toList.drop (3 + k + 1)) d hd
        rw [← drop_cons s (3 + k) hlt] at hq
        have hN2 : NumSt 16 L (s.data.toList.drop (3 + (k + 1))) (k + 1) (v * 16 + d) := by
          obtain ⟨n1, n2⟩ := HN.out
          rw [hq.1] at n1
          rw [hq.2] at n2
          exact ⟨by rw [show 3 + (k + 1) = 3 + k + 1 by omega]; omega, n2⟩
        have HN2 := hide hN2
        have HD := hide (HDG.out s[3 + k])
        rw [hz] at HD
        have HCM := hide (capv_min v 16 d (by omega))
        have hdb : ¬ (16 : Int) ≤ d := by omega
        clear hz hq hN2 HN hd HI HE
        generalize hnx : 3 + k = x at *
        go_wp2_with fail
        refine (HD.out _).mono ?_
        rintro e w1 ⟨rfl, rfl⟩
        by_cases hc : (1114112 : Int) < (capv v : Int) * 16 + d
        · have HCV : Hid ((capv (v * 16 + d) : Int) = 1114112) := hide (by rw [HCM.out]; exact if_pos hc)
          clear HCM
          go_wp2
          go_round
          case rel => exact ⟨k + 1, v * 16 + d, by rw [HCV.out], by (refine congrArg _ ?_; omega), by omega, HN2⟩
          case measure => simp [intOf]; omega
        · have HCV : Hid ((capv (v * 16 + d) : Int) = (capv v : Int) * 16 + d) := hide (by rw [HCM.out]; exact if_neg hc)
          clear HCM
          go_wp2
          go_round
          case rel => exact ⟨k + 1, v * 16 + d, by rw [HCV.out], by (refine congrArg _ ?_; omega), by omega, HN2⟩
          case measure => simp [intOf]; omega
      | none =>
        have hz := digitP_none 16 (by omega) s[3 + k] hd
        have hq := digs_no 16 s[3 + k] (s.data.toList.drop (3 + k + 1)) hd
        rw [← drop_cons s (3 + k) hlt] at hq
        obtain ⟨n1, n2⟩ := HN.out
        rw [hq.1, Nat.add_zero] at n1
        rw [hq.2] at n2
        have hRR := HI.out k v hlt n1 n2
        have HD := hide (HDG.out s[3 + k])
        generalize digitP (s[3 + k]).toNat = dz at *
        have HNU := hide (HNM.out (capv v : Nat))
        rw [capv_number] at HNU
        clear hq hd n1 n2 HN HI HE
        generalize numberL (v : Nat) = T at *
        by_cases hk0 : k = 0
        · subst hk0
          have HRR : Hid (R = ([], 0)) := hide hRR
          clear hRR
          go_wp2_with fail
          refine (HD.out _).mono ?_
          rintro e w1 ⟨rfl, rfl⟩
          go_wp2
          go_ret2
          rw [HRR.out]
          exact ⟨rfl, rfl⟩
        · have hk1 : (((3 + k : Nat) : Int) == 3) = false := beq_eq_false_iff_ne.2 (by omega)
          rw [if_neg hk0] at hRR
          by_cases h59 : (s[3 + k]).toNat = 59
          · have h592 := eq_lit _ 59 (by omega : ((s[3 + k]).toNat : Int) = 59)
            rw [if_pos h59] at hRR
            have HRR := hide hRR
            clear h59 hRR
            generalize hnx : 3 + k = x at *
            go_wp2_with fail
            refine (HD.out _).mono ?_
            rintro e w1 ⟨rfl, rfl⟩
            go_wp2_with fail
            refine HNU.out.mono ?_
            rintro e w2 ⟨rfl, rfl⟩
            go_wp2
            go_ret2
            refine ⟨?_, rfl⟩
            rw [HRR.out]
            exact ret_pair (show (x : Int) + 1 = ((k + 1 + 3 : Nat) : Int) by omega)
          · have h592 := ne_lit _ 59 (by omega : ((s[3 + k]).toNat : Int) ≠ 59)
            rw [if_neg h59] at hRR
            have HRR := hide hRR
            clear h59 hRR
            generalize hnx : 3 + k = x at *
            go_wp2_with fail
            refine (HD.out _).mono ?_
            rintro e w1 ⟨rfl, rfl⟩
            go_wp2_with fail
            refine HNU.out.mono ?_
            rintro e w2 ⟨rfl, rfl⟩
            go_wp2
            go_ret2
            refine ⟨?_, rfl⟩
            rw [HRR.out]
            exact ret_pair (show (x : Int) = ((k + 0 + 3 : Nat) : Int) by omega)
    · have hend : 3 + k = s.size := by omega
      obtain ⟨n1, n2⟩ := HN.out
      rw [drop_end s (3 + k) (by omega)] at n1 n2
      have n1 : digsN 16 L = k := n1
      have n2 : valN 16 0 L = v := n2
      have hRR := HE.out k v hend n1 n2
      have HNU := hide (HNM.out (capv v : Nat))
      rw [capv_number] at HNU
      clear n1 n2 HN HI HE
      generalize numberL (v : Nat) = T at *
      have hlt2 : ¬ (((3 + k : Nat) : Int)) < s.size := by omega
      clear hend
      by_cases hk0 : k = 0
      · subst hk0
        have HRR : Hid (R = ([], 0)) := hide hRR
        clear hRR
        go_wp2
        all_goals go_ret2
        all_goals rw [HRR.out]
        all_goals exact ⟨rfl, rfl⟩
      · have hk1 : (((3 + k : Nat) : Int) == 3) = false := beq_eq_false_iff_ne.2 (by omega)
        rw [if_neg hk0] at hRR
        have HRR := hide hRR
        clear hRR
        generalize hnx : 3 + k = x at *
        go_wp2_with fail
        refine HNU.out.mono ?_
        rintro e w2 ⟨rfl, rfl⟩
        go_wp2
        go_ret2
        refine ⟨?_, rfl⟩
        rw [HRR.out]
        exact ret_pair (show (x : Int) = ((k + 3 : Nat) : Int) by omega)

theorem num_any (s : ByteArray) (hs : s.size ≤ 1000000) (h2 : 2 ≤ s.size) (w : World) (ho : OldOk w) :
    Calls Tryd.prog 17 #[.string s] w fun e w' => e = .returned (.tuple #[.string ⟨(numL (s.data.toList.drop 2)).1.toArray⟩, .int .i64 ((numL (s.data.toList.drop 2)).2 : Nat)]) ∧ w' = w := by
  by_cases hp : 2 < s.size
  · have hc := drop_cons s 2 hp
    by_cases hx : (s[2]).toNat = 120
    · have e : numL (s.data.toList.drop 2) = digsAt 16 3 (s.data.toList.drop 3) := by
        rw [hc]
        unfold numL digsAt
        simp only
        rw [if_pos (.inl (UInt8.toNat_inj.1 hx))]
      rw [e]
      exact num_x s hs hp hx w ho
    · by_cases hX : (s[2]).toNat = 88
      · have e : numL (s.data.toList.drop 2) = digsAt 16 3 (s.data.toList.drop 3) := by
          rw [hc]
          unfold numL digsAt
          simp only
          rw [if_pos (.inr (UInt8.toNat_inj.1 hX))]
        rw [e]
        exact num_X s hs hp hX w ho
      · have e : numL (s.data.toList.drop 2) = digsAt 10 2 (s.data.toList.drop 2) := by
          rw [hc]
          unfold numL digsAt
          simp only
          rw [if_neg (fun h => h.elim (fun h => hx (by rw [h]; rfl)) (fun h => hX (by rw [h]; rfl)))]
        rw [e]
        exact num_10 s hs hp hx hX w ho
  · have e : numL (s.data.toList.drop 2) = digsAt 10 2 (s.data.toList.drop 2) := by
      rw [drop_end s 2 (by omega)]
      rfl
    rw [e]
    exact num_none s hs (by omega) w ho
end Go.Proofs.YthoibenncjbkdaaDoor.S4
