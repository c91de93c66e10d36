import Derived.Test.YtfohijnkeefcfaaGreatDoorKn01
import Derived.Test.YtfohijnkeefcfaaGreatDoorKn04
set_option linter.unusedVariables false
set_option linter.unusedSimpArgs false
set_option maxRecDepth 100000
set_option maxHeartbeats 8000000
namespace Go.Proofs.YtfohijnkeefcfaaGreatDoor.S4
open Go.RowKit
theorem ret_pair {a : ByteArray} {x y : Int} (h : x = y) : Ending.returned (.tuple #[.string a, .int .i64 x]) = .returned (.tuple #[.string a, .int .i64 y]) := by rw [h]
theorem capv_min (v β d : Nat) (hβ : 1 <= β) : (capv (v * β + d) : Int) = if (1114112 : Int) < (capv v : Int) * β + d then 1114112 else (capv v : Int) * β + d := by
  have hc : ((capv v : Nat) : Int) * β + d = ((capv v * β + d : Nat) : Int) := by simp
  rw [hc]
  by_cases h : 1114111 < capv v * β + d
  · rw [capv_over v β d hβ h]
    split <;> omega
  · rw [capv_under v β d hβ h, if_neg (by omega)]
def digsAt (β q : Nat) (L : List UInt8) : List UInt8 × Nat := if (digsL β L).2 = 0 then (([] : List UInt8), 0) else ((digsL β L).1, (digsL β L).2 + q)
theorem digsAt_in (β q : Nat) (s : ByteArray) (k v : Nat) (hlt : q + k < s.size) (h1 : digsN β (s.data.toList.drop q) = k) (h2 : valN β 0 (s.data.toList.drop q) = v) :
    digsAt β q (s.data.toList.drop q) = if k = 0 then (([] : List UInt8), 0) else (numberL (v : Nat), k + (if (s[q + k]).toNat = 59 then 1 else 0) + q) := by
  have hsm : semiN ((s.data.toList.drop q).drop k) = if (s[q + k]).toNat = 59 then 1 else 0 := by
    rw [List.drop_drop, drop_cons s (q + k) hlt]
    unfold semiN
    simp only [List.head?_cons, Option.some.injEq]
    by_cases h59 : s[q + k] = 59
    · rw [if_pos h59, if_pos (by rw [h59]; rfl)]
    · rw [if_neg h59, if_neg (fun (e : (s[q + k]).toNat = 59) => h59 (UInt8.toNat_inj.1 e))]
  unfold digsAt digsL
  rw [h1, h2, hsm]
  by_cases hk0 : k = 0
  · rw [if_pos hk0, if_pos rfl, if_pos hk0]
  · rw [if_neg hk0, if_neg (by show ¬ k + _ = 0; omega), if_neg hk0]
theorem digsAt_end (β q : Nat) (s : ByteArray) (k v : Nat) (hlt : q + k = s.size) (h1 : digsN β (s.data.toList.drop q) = k) (h2 : valN β 0 (s.data.toList.drop q) = v) :
    digsAt β q (s.data.toList.drop q) = if k = 0 then (([] : List UInt8), 0) else (numberL (v : Nat), k + q) := by
  have hsm : semiN ((s.data.toList.drop q).drop k) = 0 := by
    rw [List.drop_drop, drop_end s (q + k) (by omega)]
    rfl
  unfold digsAt digsL
  rw [h1, h2, hsm]
  by_cases hk0 : k = 0
  · rw [if_pos hk0, if_pos rfl, if_pos hk0]
  · rw [if_neg hk0, if_neg (by show ¬ k + 0 = 0; omega), if_neg hk0] <;> rfl
theorem num_10 (s : ByteArray) (hs : s.size <= 1000000) (hp : 2 < s.size) (hx : (s[2]).toNat ≠ 120) (hX : (s[2]).toNat ≠ 88) (w : World) (ho : OldOk w) :
    Calls Tryz.prog 146 #[.string s] w fun e w' => e = .returned (.tuple #[.string ⟨(digsAt 10 2 (s.data.toList.drop 2)).1.toArray⟩, .int .i64 ((digsAt 10 2 (s.data.toList.drop 2)).2 : Nat)]) /\ w' = w := by
  have HDG := hide (fun (c : UInt8) => digit_any c.toNat)
  have HNM := hide (fun (n : Int) => number_same n w ho)
  have HI := hide (digsAt_in 10 2 s)
  have HE := hide (digsAt_end 10 2 s)
  clear ho
  generalize digsAt 10 2 (s.data.toList.drop 2) = R at *
  generalize hL : s.data.toList.drop 2 = L at *
  have HL := hide hL
  clear hL
  have e1 := ne_lit _ 120 (by omega : ((s[2]).toNat : Int) ≠ 120)
  have e2 := ne_lit _ 88 (by omega : ((s[2]).toNat : Int) ≠ 88)
  have e3 : (2 : Int) < s.size := by omega
  clear hx hX
  go_enter Tryz.func146, Tryz.ntmps146
  go_wp2
  go_loop [6, 7] (fun tn te => ∃ k v : Nat, tn = .int .i64 (capv v : Nat) /\ te = .int .i64 ((2 + k : Nat) : Int) /\ 2 + k <= s.size /\ Hid (NumSt 10 L (s.data.toList.drop (2 + k)) k v)) (fun _ te => s.size - (intOf te).toNat)
  case atStart => exact ⟨0, 0, rfl, by go_num, by omega, hide ⟨by rw [<- HL.out] <;> simp, by rw [<- HL.out] <;> rfl⟩⟩
  case round =>
    obtain ⟨k, v, rfl, rfl, hk, HN⟩ := hrel
    have hcl := capv_le v
    by_cases hlt : 2 + k < s.size
    · have hlt2 : (((2 + k : Nat) : Int)) < s.size := by omega
      cases hd : digitB 10 s[2 + k] with
      | some d =>
        have hz := digitP_some 10 s[2 + k] d hd
        have hdl := digit_lt 10 _ d hd
        have hq := digs_yes 10 s[2 + k] (s.data.toList.drop (2 + k + 1)) d hd
        rw [<- drop_cons s (2 + k) hlt] at hq
        have hN2 : NumSt 10 L (s.data.toList.drop (2 + (k + 1))) (k + 1) (v * 10 + d) := by
          obtain ⟨n1, n2⟩ := HN.out
          rw [hq.1] at n1
          rw [hq.2] at n2
          exact ⟨by rw [show 2 + (k + 1) = 2 + k + 1 by omega]; omega, n2⟩
        have HN2 := hide hN2
        have HD := hide (HDG.out s[2 + k])
        rw [hz] at HD
        have HCM := hide (capv_min v 10 d (by omega))
        have hdb : ¬ (10 : Int) <= d := by omega
        clear hz hq hN2 HN hd HI HE
        generalize hnx : 2 + k = x at *
        go_wp2_with fail
        refine (HD.out _).mono ?_
        rintro e w1 ⟨rfl, rfl⟩
        by_cases hc : (1114112 : Int) < (capv v : Int) * 10 + d
        · have HCV : Hid ((capv (v * 10 + d) : Int) = 1114112) := hide (by rw [HCM.out]; exact if_pos hc)
          clear HCM
          go_wp2
          go_round
          case rel => exact ⟨k + 1, v * 10 + d, by rw [HCV.out], by (refine congrArg _ ?_; omega), by omega, HN2⟩
          case measure => simp [intOf]; omega
        · have HCV : Hid ((capv (v * 10 + d) : Int) = (capv v : Int) * 10 + d) := hide (by rw [HCM.out]; exact if_neg hc)
          clear HCM
          go_wp2
          go_round
          case rel => exact ⟨k + 1, v * 10 + d, by rw [HCV.out], by (refine congrArg _ ?_; omega), by omega, HN2⟩
          case measure => simp [intOf]; omega
      | none =>
        have hz := digitP_none 10 (by omega) s[2 + k] hd
        have hq := digs_no 10 s[2 + k] (s.data.toList.drop (2 + k + 1)) hd
        rw [<- drop_cons s (2 + k) hlt] at hq
        obtain ⟨n1, n2⟩ := HN.out
        rw [hq.1, Nat.add_zero] at n1
        rw [hq.2] at n2
        have hRR := HI.out k v hlt n1 n2
        have HD := hide (HDG.out s[2 + k])
        generalize digitP (s[2 + k]).toNat = dz at *
        have HNU := hide (HNM.out (capv v : Nat))
        rw [capv_number] at HNU
        clear hq hd n1 n2 HN HI HE
        generalize numberL (v : Nat) = T at *
        by_cases hk0 : k = 0
        · subst hk0
          have HRR : Hid (R = ([], 0)) := hide hRR
          clear hRR
          go_wp2_with fail
          refine (HD.out _).mono ?_
          rintro e w1 ⟨rfl, rfl⟩
          go_wp2
          go_ret2
          rw [HRR.out]
          exact ⟨rfl, rfl⟩
        · have hk1 : (((2 + k : Nat) : Int) == 2) = false := beq_eq_false_iff_ne.2 (by omega)
          rw [if_neg hk0] at hRR
          by_cases h59 : (s[2 + k]).toNat = 59
          · have h592 := eq_lit _ 59 (by omega : ((s[2 + k]).toNat : Int) = 59)
            rw [if_pos h59] at hRR
            have HRR := hide hRR
            clear h59 hRR
            generalize hnx : 2 + k = x at *
            go_wp2_with fail
            refine (HD.out _).mono ?_
            rintro e w1 ⟨rfl, rfl⟩
            go_wp2_with fail
            refine HNU.out.mono ?_
            rintro e w2 ⟨rfl, rfl⟩
            go_wp2
            go_ret2
            refine ⟨?_, rfl⟩
            rw [HRR.out]
            exact ret_pair (show (x : Int) + 1 = ((k + 1 + 2 : Nat) : Int) by omega)
          · have h592 := ne_lit _ 59 (by omega : ((s[2 + k]).toNat : Int) ≠ 59)
            rw [if_neg h59] at hRR
            have HRR := hide hRR
            clear h59 hRR
            generalize hnx : 2 + k = x at *
            go_wp2_with fail
            refine (HD.out _).mono ?_
            rintro e w1 ⟨rfl, rfl⟩
            go_wp2_with fail
            refine HNU.out.mono ?_
            rintro e w2 ⟨rfl, rfl⟩
            go_wp2
            go_ret2
            refine ⟨?_, rfl⟩
            rw [HRR.out]
            exact ret_pair (show (x : Int) = ((k + 0 + 2 : Nat) : Int) by omega)
    · have hend : 2 + k = s.size := by omega
      obtain ⟨n1, n2⟩ := HN.out
      rw [drop_end s (2 + k) (by omega)] at n1 n2
      have n1 : digsN 10 L = k := n1
      have n2 : valN 10 0 L = v := n2
      have hRR := HE.out k v hend n1 n2
      have HNU := hide (HNM.out (capv v : Nat))
      rw [capv_number] at HNU
      clear n1 n2 HN HI HE
      generalize numberL (v : Nat) = T at *
      have hlt2 : ¬ (((2 + k : Nat) : Int)) < s.size := by omega
      clear hend
      by_cases hk0 : k = 0
      · subst hk0
        have HRR : Hid (R = ([], 0)) := hide hRR
        clear hRR
        go_wp2
        all_goals go_ret2
        all_goals rw [HRR.out]
        all_goals exact ⟨rfl, rfl⟩
      · have hk1 : (((2 + k : Nat) : Int) == 2) = false := beq_eq_false_iff_ne.2 (by omega)
        rw [if_neg hk0] at hRR
        have HRR := hide hRR
        clear hRR
        generalize hnx : 2 + k = x at *
        go_wp2_with fail
        refine HNU.out.mono ?_
        rintro e w2 ⟨rfl, rfl⟩
        go_wp2
        go_ret2
        refine ⟨?_, rfl⟩
        rw [HRR.out]
        exact ret_pair (show (x : Int) = ((k + 2 : Nat) : Int) by omega)
theorem num_none (s : ByteArray) (hs : s.size <= 1000000) (hp : s.size = 2) (w : World) (ho : OldOk w) :
    Calls Tryz.prog 146 #[.string s] w fun e w' => e = .returned (.tuple #[.string ⟨(digsAt 10 2 (s.data.toList.drop 2)).1.toArray⟩, .int .i64 ((digsAt 10 2 (s.data.toList.drop 2)).2 : Nat)]) /\ w' = w := by
  have HDG := hide (fun (c : UInt8) => digit_any c.toNat)
  have HNM := hide (fun (n : Int) => number_same n w ho)
  have HI := hide (digsAt_in 10 2 s)
  have HE := hide (digsAt_end 10 2 s)
  clear ho
  generalize digsAt 10 2 (s.data.toList.drop 2) = R at *
  generalize hL : s.data.toList.drop 2 = L at *
  have HL := hide hL
  clear hL
  have e3 : ¬ (2 : Int) < s.size := by omega
  go_enter Tryz.func146, Tryz.ntmps146
  go_wp2
  go_loop [6, 7] (fun tn te => ∃ k v : Nat, tn = .int .i64 (capv v : Nat) /\ te = .int .i64 ((2 + k : Nat) : Int) /\ 2 + k <= s.size /\ Hid (NumSt 10 L (s.data.toList.drop (2 + k)) k v)) (fun _ te => s.size - (intOf te).toNat)
  case atStart => exact ⟨0, 0, rfl, by go_num, by omega, hide ⟨by rw [<- HL.out] <;> simp, by rw [<- HL.out] <;> rfl⟩⟩
  case round =>
    obtain ⟨k, v, rfl, rfl, hk, HN⟩ := hrel
    have hcl := capv_le v
    by_cases hlt : 2 + k < s.size
    · exact absurd hlt (by omega)
    · have hend : 2 + k = s.size := by omega
      obtain ⟨n1, n2⟩ := HN.out
      rw [drop_end s (2 + k) (by omega)] at n1 n2
      have n1 : digsN 10 L = k := n1
      have n2 : valN 10 0 L = v := n2
      have hRR := HE.out k v hend n1 n2
      have HNU := hide (HNM.out (capv v : Nat))
      rw [capv_number] at HNU
      clear n1 n2 HN HI HE
      generalize numberL (v : Nat) = T at *
      have hlt2 : ¬ (((2 + k : Nat) : Int)) < s.size := by omega
      clear hend
      obtain rfl : k = 0 := by omega
      have HRR : Hid (R = ([], 0)) := hide hRR
      clear hRR hp
      go_wp2
      all_goals go_ret2
      all_goals rw [HRR.out]
      all_goals exact ⟨rfl, rfl⟩
theorem num_x (s : ByteArray) (hs : s.size <= 1000000) (hp : 2 < s.size) (hx : (s[2]).toNat = 120) (w : World) (ho : OldOk w) :
    Calls Tryz.prog 146 #[.string s] w fun e w' => e = .returned (.tuple #[.string ⟨(digsAt 16 3 (s.data.toList.drop 3)).1.toArray⟩, .int .i64 ((digsAt 16 3 (s.data.toList.drop 3)).2 : Nat)]) /\ w' = w := by
  have HDG := hide (fun (c : UInt8) => digit_any c.toNat)
  have HNM := hide (fun (n : Int) => number_same n w ho)
  have HI := hide (digsAt_in 16 3 s)
  have HE := hide (digsAt_end 16 3 s)
  clear ho
  generalize digsAt 16 3 (s.data.toList.drop 3) = R at *
  generalize hL : s.data.toList.drop 3 = L at *
  have HL := hide hL
  clear hL
  have e1 := eq_lit _ 120 (by omega : ((s[2]).toNat : Int) = 120)
  have e3 : (2 : Int) < s.size := by omega
  clear hx
  go_enter Tryz.func146, Tryz.ntmps146
  go_wp2
  go_loop [6, 7] (fun tn te => ∃ k v : Nat, tn = .int .i64 (capv v : Nat) /\ te = .int .i64 ((3 + k : Nat) : Int) /\ 3 + k <= s.size /\ Hid (NumSt 16 L (s.data.toList.drop (3 + k)) k v)) (fun _ te => s.size - (intOf te).toNat)
  case atStart => exact ⟨0, 0, rfl, by go_num, by omega, hide ⟨by rw [<- HL.out] <;> simp, by rw [<- HL.out] <;> rfl⟩⟩
  case round =>
    obtain ⟨k, v, rfl, rfl, hk, HN⟩ := hrel
    have hcl := capv_le v
    by_cases hlt : 3 + k < s.size
    · have hlt2 : (((3 + k : Nat) : Int)) < s.size := by omega
      cases hd : digitB 16 s[3 + k] with
      | some d =>
        have hz := digitP_some 16 s[3 + k] d hd
        have hdl := digit_lt 16 _ d hd
        have hq := digs_yes 16 s[3 + k] (s.data.toList.drop (3 + k + 1)) d hd
        rw [<- drop_cons s (3 + k) hlt] at hq
        have hN2 : NumSt 16 L (s.data.toList.drop (3 + (k + 1))) (k + 1) (v * 16 + d) := by
          obtain ⟨n1, n2⟩ := HN.out
          rw [hq.1] at n1
          rw [hq.2] at n2
          exact ⟨by rw [show 3 + (k + 1) = 3 + k + 1 by omega]; omega, n2⟩
        have HN2 := hide hN2
        have HD := hide (HDG.out s[3 + k])
        rw [hz] at HD
        have HCM := hide (capv_min v 16 d (by omega))
        have hdb : ¬ (16 : Int) <= d := by omega
        clear hz hq hN2 HN hd HI HE
        generalize hnx : 3 + k = x at *
        go_wp2_with fail
        refine (HD.out _).mono ?_
        rintro e w1 ⟨rfl, rfl⟩
        by_cases hc : (1114112 : Int) < (capv v : Int) * 16 + d
        · have HCV : Hid ((capv (v * 16 + d) : Int) = 1114112) := hide (by rw [HCM.out]; exact if_pos hc)
          clear HCM
          go_wp2
          go_round
          case rel => exact ⟨k + 1, v * 16 + d, by rw [HCV.out], by (refine congrArg _ ?_; omega), by omega, HN2⟩
          case measure => simp [intOf]; omega
        · have HCV : Hid ((capv (v * 16 + d) : Int) = (capv v : Int) * 16 + d) := hide (by rw [HCM.out]; exact if_neg hc)
          clear HCM
          go_wp2
          go_round
          case rel => exact ⟨k + 1, v * 16 + d, by rw [HCV.out], by (refine congrArg _ ?_; omega), by omega, HN2⟩
          case measure => simp [intOf]; omega
      | none =>
        have hz := digitP_none 16 (by omega) s[3 + k] hd
        have hq := digs_no 16 s[3 + k] (s.data.toList.drop (3 + k + 1)) hd
        rw [<- drop_cons s (3 + k) hlt] at hq
        obtain ⟨n1, n2⟩ := HN.out
        rw [hq.1, Nat.add_zero] at n1
        rw [hq.2] at n2
        have hRR := HI.out k v hlt n1 n2
        have HD := hide (HDG.out s[3 + k])
        generalize digitP (s[3 + k]).toNat = dz at *
        have HNU := hide (HNM.out (capv v : Nat))
        rw [capv_number] at HNU
        clear hq hd n1 n2 HN HI HE
        generalize numberL (v : Nat) = T at *
        by_cases hk0 : k = 0
        · subst hk0
          have HRR : Hid (R = ([], 0)) := hide hRR
          clear hRR
          go_wp2_with fail
          refine (HD.out _).mono ?_
          rintro e w1 ⟨rfl, rfl⟩
          go_wp2
          go_ret2
          rw [HRR.out]
          exact ⟨rfl, rfl⟩
        · have hk1 : (((3 + k : Nat) : Int) == 3) = false := beq_eq_false_iff_ne.2 (by omega)
          rw [if_neg hk0] at hRR
          by_cases h59 : (s[3 + k]).toNat = 59
          · have h592 := eq_lit _ 59 (by omega : ((s[3 + k]).toNat : Int) = 59)
            rw [if_pos h59] at hRR
            have HRR := hide hRR
            clear h59 hRR
            generalize hnx : 3 + k = x at *
            go_wp2_with fail
            refine (HD.out _).mono ?_
            rintro e w1 ⟨rfl, rfl⟩
            go_wp2_with fail
            refine HNU.out.mono ?_
            rintro e w2 ⟨rfl, rfl⟩
            go_wp2
            go_ret2
            refine ⟨?_, rfl⟩
            rw [HRR.out]
            exact ret_pair (show (x : Int) + 1 = ((k + 1 + 3 : Nat) : Int) by omega)
          · have h592 := ne_lit _ 59 (by omega : ((s[3 + k]).toNat : Int) ≠ 59)
            rw [if_neg h59] at hRR
            have HRR := hide hRR
            clear h59 hRR
            generalize hnx : 3 + k = x at *
            go_wp2_with fail
            refine (HD.out _).mono ?_
            rintro e w1 ⟨rfl, rfl⟩
            go_wp2_with fail
            refine HNU.out.mono ?_
            rintro e w2 ⟨rfl, rfl⟩
            go_wp2
            go_ret2
            refine ⟨?_, rfl⟩
            rw [HRR.out]
            exact ret_pair (show (x : Int) = ((k + 0 + 3 : Nat) : Int) by omega)
    · have hend : 3 + k = s.size := by omega
      obtain ⟨n1, n2⟩ := HN.out
      rw [drop_end s (3 + k) (by omega)] at n1 n2
      have n1 : digsN 16 L = k := n1
      have n2 : valN 16 0 L = v := n2
      have hRR := HE.out k v hend n1 n2
      have HNU := hide (HNM.out (capv v : Nat))
      rw [capv_number] at HNU
      clear n1 n2 HN HI HE
      generalize numberL (v : Nat) = T at *
      have hlt2 : ¬ (((3 + k : Nat) : Int)) < s.size := by omega
      clear hend
      by_cases hk0 : k = 0
      · subst hk0
        have HRR : Hid (R = ([], 0)) := hide hRR
        clear hRR
        go_wp2
        all_goals go_ret2
        all_goals rw [HRR.out]
        all_goals exact ⟨rfl, rfl⟩
      · have hk1 : (((3 + k : Nat) : Int) == 3) = false := beq_eq_false_iff_ne.2 (by omega)
        rw [if_neg hk0] at hRR
        have HRR := hide hRR
        clear hRR
        generalize hnx : 3 + k = x at *
        go_wp2_with fail
        refine HNU.out.mono ?_
        rintro e w2 ⟨rfl, rfl⟩
        go_wp2
        go_ret2
        refine ⟨?_, rfl⟩
        rw [HRR.out]
        exact ret_pair (show (x : Int) = ((k + 3 : Nat) : Int) by omega)
theorem num_X (s : ByteArray) (hs : s.size <= 1000000) (hp : 2 < s.size) (hx : (s[2]).toNat = 88) (w : World) (ho : OldOk w) :
    Calls Tryz.prog 146 #[.string s] w fun e w' => e = .returned (.tuple #[.string ⟨(digsAt 16 3 (s.data.toList.drop 3)).1.toArray⟩, .int .i64 ((digsAt 16 3 (s.data.toList.drop 3)).2 : Nat)]) /\ w' = w := by
  have HDG := hide (fun (c : UInt8) => digit_any c.toNat)
  have HNM := hide (fun (n : Int) => number_same n w ho)
  have HI := hide (digsAt_in 16 3 s)
  have HE := hide (digsAt_end 16 3 s)
  clear ho
  generalize digsAt 16 3 (s.data.toList.drop 3) = R at *
  generalize hL : s.data.toList.drop 3 = L at *
  have HL := hide hL
  clear hL
  have e1 := ne_lit _ 120 (by omega : ((s[2]).toNat : Int) ≠ 120)
  have e2 := eq_lit _ 88 (by omega : ((s[2]).toNat : Int) = 88)
  have e3 : (2 : Int) < s.size := by omega
  clear hx
  go_enter Tryz.func146, Tryz.ntmps146
  go_wp2
  go_loop [6, 7] (fun tn te => ∃ k v : Nat, tn = .int .i64 (capv v : Nat) /\ te = .int .i64 ((3 + k : Nat) : Int) /\ 3 + k <= s.size /\ Hid (NumSt 16 L (s.data.toList.drop (3 + k)) k v)) (fun _ te => s.size - (intOf te).toNat)
  case atStart => exact ⟨0, 0, rfl, by go_num, by omega, hide ⟨by rw [<- HL.out] <;> simp, by rw [<- HL.out] <;> rfl⟩⟩
  case round =>
    obtain ⟨k, v, rfl, rfl, hk, HN⟩ := hrel
    have hcl := capv_le v
    by_cases hlt : 3 + k < s.size
    · have hlt2 : (((3 + k : Nat) : Int)) < s.size := by omega
      cases hd : digitB 16 s[3 + k] with
      | some d =>
        have hz := digitP_some 16 s[3 + k] d hd
        have hdl := digit_lt 16 _ d hd
        have hq := digs_yes 16 s[3 + k] (s.data.toList.drop (3 + k + 1)) d hd
        rw [<- drop_cons s (3 + k) hlt] at hq
        have hN2 : NumSt 16 L (s.data.toList.drop (3 + (k + 1))) (k + 1) (v * 16 + d) := by
          obtain ⟨n1, n2⟩ := HN.out
          rw [hq.1] at n1
          rw [hq.2] at n2
          exact ⟨by rw [show 3 + (k + 1) = 3 + k + 1 by omega]; omega, n2⟩
        have HN2 := hide hN2
        have HD := hide (HDG.out s[3 + k])
        rw [hz] at HD
        have HCM := hide (capv_min v 16 d (by omega))
        have hdb : ¬ (16 : Int) <= d := by omega
        clear hz hq hN2 HN hd HI HE
        generalize hnx : 3 + k = x at *
        go_wp2_with fail
        refine (HD.out _).mono ?_
        rintro e w1 ⟨rfl, rfl⟩
        by_cases hc : (1114112 : Int) < (capv v : Int) * 16 + d
        · have HCV : Hid ((capv (v * 16 + d) : Int) = 1114112) := hide (by rw [HCM.out]; exact if_pos hc)
          clear HCM
          go_wp2
          go_round
          case rel => exact ⟨k + 1, v * 16 + d, by rw [HCV.out], by (refine congrArg _ ?_; omega), by omega, HN2⟩
          case measure => simp [intOf]; omega
        · have HCV : Hid ((capv (v * 16 + d) : Int) = (capv v : Int) * 16 + d) := hide (by rw [HCM.out]; exact if_neg hc)
          clear HCM
          go_wp2
          go_round
          case rel => exact ⟨k + 1, v * 16 + d, by rw [HCV.out], by (refine congrArg _ ?_; omega), by omega, HN2⟩
          case measure => simp [intOf]; omega
      | none =>
        have hz := digitP_none 16 (by omega) s[3 + k] hd
        have hq := digs_no 16 s[3 + k] (s.data.toList.drop (3 + k + 1)) hd
        rw [<- drop_cons s (3 + k) hlt] at hq
        obtain ⟨n1, n2⟩ := HN.out
        rw [hq.1, Nat.add_zero] at n1
        rw [hq.2] at n2
        have hRR := HI.out k v hlt n1 n2
        have HD := hide (HDG.out s[3 + k])
        generalize digitP (s[3 + k]).toNat = dz at *
        have HNU := hide (HNM.out (capv v : Nat))
        rw [capv_number] at HNU
        clear hq hd n1 n2 HN HI HE
        generalize numberL (v : Nat) = T at *
        by_cases hk0 : k = 0
        · subst hk0
          have HRR : Hid (R = ([], 0)) := hide hRR
          clear hRR
          go_wp2_with fail
          refine (HD.out _).mono ?_
          rintro e w1 ⟨rfl, rfl⟩
          go_wp2
          go_ret2
          rw [HRR.out]
          exact ⟨rfl, rfl⟩
        · have hk1 : (((3 + k : Nat) : Int) == 3) = false := beq_eq_false_iff_ne.2 (by omega)
          rw [if_neg hk0] at hRR
          by_cases h59 : (s[3 + k]).toNat = 59
          · have h592 := eq_lit _ 59 (by omega : ((s[3 + k]).toNat : Int) = 59)
            rw [if_pos h59] at hRR
            have HRR := hide hRR
            clear h59 hRR
            generalize hnx : 3 + k = x at *
            go_wp2_with fail
            refine (HD.out _).mono ?_
            rintro e w1 ⟨rfl, rfl⟩
            go_wp2_with fail
            refine HNU.out.mono ?_
            rintro e w2 ⟨rfl, rfl⟩
            go_wp2
            go_ret2
            refine ⟨?_, rfl⟩
            rw [HRR.out]
            exact ret_pair (show (x : Int) + 1 = ((k + 1 + 3 : Nat) : Int) by omega)
          · have h592 := ne_lit _ 59 (by omega : ((s[3 + k]).toNat : Int) ≠ 59)
            rw [if_neg h59] at hRR
            have HRR := hide hRR
            clear h59 hRR
            generalize hnx : 3 + k = x at *
            go_wp2_with fail
            refine (HD.out _).mono ?_
            rintro e w1 ⟨rfl, rfl⟩
            go_wp2_with fail
            refine HNU.out.mono ?_
            rintro e w2 ⟨rfl, rfl⟩
            go_wp2
            go_ret2
            refine ⟨?_, rfl⟩
            rw [HRR.out]
            exact ret_pair (show (x : Int) = ((k + 0 + 3 : Nat) : Int) by omega)
    · have hend : 3 + k = s.size := by omega
      obtain ⟨n1, n2⟩ := HN.out
      rw [drop_end s (3 + k) (by omega)] at n1 n2
      have n1 : digsN 16 L = k := n1
      have n2 : valN 16 0 L = v := n2
      have hRR := HE.out k v hend n1 n2
      have HNU := hide (HNM.out (capv v : Nat))
      rw [capv_number] at HNU
      clear n1 n2 HN HI HE
      generalize numberL (v : Nat) = T at *
      have hlt2 : ¬ (((3 + k : Nat) : Int)) < s.size := by omega
      clear hend
      by_cases hk0 : k = 0
      · subst hk0
        have HRR : Hid (R = ([], 0)) := hide hRR
        clear hRR
        go_wp2
        all_goals go_ret2
        all_goals rw [HRR.out]
        all_goals exact ⟨rfl, rfl⟩
      · have hk1 : (((3 + k : Nat) : Int) == 3) = false := beq_eq_false_iff_ne.2 (by omega)
        rw [if_neg hk0] at hRR
        have HRR := hide hRR
        clear hRR
        generalize hnx : 3 + k = x at *
        go_wp2_with fail
        refine HNU.out.mono ?_
        rintro e w2 ⟨rfl, rfl⟩
        go_wp2
        go_ret2
        refine ⟨?_, rfl⟩
        rw [HRR.out]
        exact ret_pair (show (x : Int) = ((k + 3 : Nat) : Int) by omega)
theorem num_any (s : ByteArray) (hs : s.size <= 1000000) (h2 : 2 <= s.size) (w : World) (ho : OldOk w) :
    Calls Tryz.prog 146 #[.string s] w fun e w' => e = .returned (.tuple #[.string ⟨(numL (s.data.toList.drop 2)).1.toArray⟩, .int .i64 ((numL (s.data.toList.drop 2)).2 : Nat)]) /\ w' = w := by
  by_cases hp : 2 < s.size
  · have hc := drop_cons s 2 hp
    by_cases hx : (s[2]).toNat = 120
    · have e : numL (s.data.toList.drop 2) = digsAt 16 3 (s.data.toList.drop 3) := by
        rw [hc]
        unfold numL digsAt
        simp only
        rw [if_pos (.inl (UInt8.toNat_inj.1 hx))]
      rw [e]
      exact num_x s hs hp hx w ho
    · by_cases hX : (s[2]).toNat = 88
      · have e : numL (s.data.toList.drop 2) = digsAt 16 3 (s.data.toList.drop 3) := by
          rw [hc]
          unfold numL digsAt
          simp only
          rw [if_pos (.inr (UInt8.toNat_inj.1 hX))]
        rw [e]
        exact num_X s hs hp hX w ho
      · have e : numL (s.data.toList.drop 2) = digsAt 10 2 (s.data.toList.drop 2) := by
          rw [hc]
          unfold numL digsAt
          simp only
          rw [if_neg (fun h => h.elim (fun h => hx (by rw [h]; rfl)) (fun h => hX (by rw [h]; rfl)))]
        rw [e]
        exact num_10 s hs hp hx hX w ho
  · have e : numL (s.data.toList.drop 2) = digsAt 10 2 (s.data.toList.drop 2) := by
      rw [drop_end s 2 (by omega)]
      rfl
    rw [e]
    exact num_none s hs (by omega) w ho
end Go.Proofs.YtfohijnkeefcfaaGreatDoor.S4
namespace Go.Proofs.YtfohijnkeefcfaaGreatDoor.S4
open Go.RowKit
theorem eq_str (n : ByteArray) (o : List UInt8) (h : n.data.toList = o) : (n.toList == o) = true := by rw [Lib.toList_data, h]; simp
theorem ne_str (n : ByteArray) (o : List UInt8) (h : ¬ n.data.toList = o) : (n.toList == o) = false := by rw [Lib.toList_data]; simpa using h
theorem open_any (n : ByteArray) (w : World) :
    Calls Tryz.prog 231 #[.string n] w fun e w' => e = .returned (.int .i32 (openC n.data.toList : Nat)) /\ w' = w := by
  by_cases h : n.data.toList = [65, 77, 80]
  · have hv : openC n.data.toList = 38 := by rw [h]; decide +kernel
    have e0 := eq_str n [65, 77, 80] h
    rw [hv]
    clear h hv
    go_enter Tryz.func231, Tryz.ntmps231
    go_wp2
    go_ret
    exact ⟨rfl, rfl⟩
  have e0 := ne_str n [65, 77, 80] h
  clear h
  by_cases h : n.data.toList = [97, 109, 112]
  · have hv : openC n.data.toList = 38 := by rw [h]; decide +kernel
    have e1 := eq_str n [97, 109, 112] h
    rw [hv]
    clear h hv
    go_enter Tryz.func231, Tryz.ntmps231
    go_wp2
    go_ret
    exact ⟨rfl, rfl⟩
  have e1 := ne_str n [97, 109, 112] h
  clear h
  by_cases h : n.data.toList = [76, 84]
  · have hv : openC n.data.toList = 60 := by rw [h]; decide +kernel
    have e2 := eq_str n [76, 84] h
    rw [hv]
    clear h hv
    go_enter Tryz.func231, Tryz.ntmps231
    go_wp2
    go_ret
    exact ⟨rfl, rfl⟩
  have e2 := ne_str n [76, 84] h
  clear h
  by_cases h : n.data.toList = [108, 116]
  · have hv : openC n.data.toList = 60 := by rw [h]; decide +kernel
    have e3 := eq_str n [108, 116] h
    rw [hv]
    clear h hv
    go_enter Tryz.func231, Tryz.ntmps231
    go_wp2
    go_ret
    exact ⟨rfl, rfl⟩
  have e3 := ne_str n [108, 116] h
  clear h
  by_cases h : n.data.toList = [71, 84]
  · have hv : openC n.data.toList = 62 := by rw [h]; decide +kernel
    have e4 := eq_str n [71, 84] h
    rw [hv]
    clear h hv
    go_enter Tryz.func231, Tryz.ntmps231
    go_wp2
    go_ret
    exact ⟨rfl, rfl⟩
  have e4 := ne_str n [71, 84] h
  clear h
  by_cases h : n.data.toList = [103, 116]
  · have hv : openC n.data.toList = 62 := by rw [h]; decide +kernel
    have e5 := eq_str n [103, 116] h
    rw [hv]
    clear h hv
    go_enter Tryz.func231, Tryz.ntmps231
    go_wp2
    go_ret
    exact ⟨rfl, rfl⟩
  have e5 := ne_str n [103, 116] h
  clear h
  by_cases h : n.data.toList = [81, 85, 79, 84]
  · have hv : openC n.data.toList = 34 := by rw [h]; decide +kernel
    have e6 := eq_str n [81, 85, 79, 84] h
    rw [hv]
    clear h hv
    go_enter Tryz.func231, Tryz.ntmps231
    go_wp2
    go_ret
    exact ⟨rfl, rfl⟩
  have e6 := ne_str n [81, 85, 79, 84] h
  clear h
  by_cases h : n.data.toList = [113, 117, 111, 116]
  · have hv : openC n.data.toList = 34 := by rw [h]; decide +kernel
    have e7 := eq_str n [113, 117, 111, 116] h
    rw [hv]
    clear h hv
    go_enter Tryz.func231, Tryz.ntmps231
    go_wp2
    go_ret
    exact ⟨rfl, rfl⟩
  have e7 := ne_str n [113, 117, 111, 116] h
  clear h
  by_cases h : n.data.toList = [110, 98, 115, 112]
  · have hv : openC n.data.toList = 160 := by rw [h]; decide +kernel
    have e8 := eq_str n [110, 98, 115, 112] h
    rw [hv]
    clear h hv
    go_enter Tryz.func231, Tryz.ntmps231
    go_wp2
    go_ret
    exact ⟨rfl, rfl⟩
  have e8 := ne_str n [110, 98, 115, 112] h
  clear h
  by_cases h : n.data.toList = [99, 111, 112, 121]
  · have hv : openC n.data.toList = 169 := by rw [h]; decide +kernel
    have e9 := eq_str n [99, 111, 112, 121] h
    rw [hv]
    clear h hv
    go_enter Tryz.func231, Tryz.ntmps231
    go_wp2
    go_ret
    exact ⟨rfl, rfl⟩
  have e9 := ne_str n [99, 111, 112, 121] h
  clear h
  by_cases h : n.data.toList = [108, 97, 113, 117, 111]
  · have hv : openC n.data.toList = 171 := by rw [h]; decide +kernel
    have e10 := eq_str n [108, 97, 113, 117, 111] h
    rw [hv]
    clear h hv
    go_enter Tryz.func231, Tryz.ntmps231
    go_wp2
    go_ret
    exact ⟨rfl, rfl⟩
  have e10 := ne_str n [108, 97, 113, 117, 111] h
  clear h
  by_cases h : n.data.toList = [110, 111, 116]
  · have hv : openC n.data.toList = 172 := by rw [h]; decide +kernel
    have e11 := eq_str n [110, 111, 116] h
    rw [hv]
    clear h hv
    go_enter Tryz.func231, Tryz.ntmps231
    go_wp2
    go_ret
    exact ⟨rfl, rfl⟩
  have e11 := ne_str n [110, 111, 116] h
  clear h
  by_cases h : n.data.toList = [115, 104, 121]
  · have hv : openC n.data.toList = 173 := by rw [h]; decide +kernel
    have e12 := eq_str n [115, 104, 121] h
    rw [hv]
    clear h hv
    go_enter Tryz.func231, Tryz.ntmps231
    go_wp2
    go_ret
    exact ⟨rfl, rfl⟩
  have e12 := ne_str n [115, 104, 121] h
  clear h
  by_cases h : n.data.toList = [114, 101, 103]
  · have hv : openC n.data.toList = 174 := by rw [h]; decide +kernel
    have e13 := eq_str n [114, 101, 103] h
    rw [hv]
    clear h hv
    go_enter Tryz.func231, Tryz.ntmps231
    go_wp2
    go_ret
    exact ⟨rfl, rfl⟩
  have e13 := ne_str n [114, 101, 103] h
  clear h
  by_cases h : n.data.toList = [100, 101, 103]
  · have hv : openC n.data.toList = 176 := by rw [h]; decide +kernel
    have e14 := eq_str n [100, 101, 103] h
    rw [hv]
    clear h hv
    go_enter Tryz.func231, Tryz.ntmps231
    go_wp2
    go_ret
    exact ⟨rfl, rfl⟩
  have e14 := ne_str n [100, 101, 103] h
  clear h
  by_cases h : n.data.toList = [112, 97, 114, 97]
  · have hv : openC n.data.toList = 182 := by rw [h]; decide +kernel
    have e15 := eq_str n [112, 97, 114, 97] h
    rw [hv]
    clear h hv
    go_enter Tryz.func231, Tryz.ntmps231
    go_wp2
    go_ret
    exact ⟨rfl, rfl⟩
  have e15 := ne_str n [112, 97, 114, 97] h
  clear h
  by_cases h : n.data.toList = [109, 105, 100, 100, 111, 116]
  · have hv : openC n.data.toList = 183 := by rw [h]; decide +kernel
    have e16 := eq_str n [109, 105, 100, 100, 111, 116] h
    rw [hv]
    clear h hv
    go_enter Tryz.func231, Tryz.ntmps231
    go_wp2
    go_ret
    exact ⟨rfl, rfl⟩
  have e16 := ne_str n [109, 105, 100, 100, 111, 116] h
  clear h
  by_cases h : n.data.toList = [114, 97, 113, 117, 111]
  · have hv : openC n.data.toList = 187 := by rw [h]; decide +kernel
    have e17 := eq_str n [114, 97, 113, 117, 111] h
    rw [hv]
    clear h hv
    go_enter Tryz.func231, Tryz.ntmps231
    go_wp2
    go_ret
    exact ⟨rfl, rfl⟩
  have e17 := ne_str n [114, 97, 113, 117, 111] h
  clear h
  by_cases h : n.data.toList = [69, 97, 99, 117, 116, 101]
  · have hv : openC n.data.toList = 201 := by rw [h]; decide +kernel
    have e18 := eq_str n [69, 97, 99, 117, 116, 101] h
    rw [hv]
    clear h hv
    go_enter Tryz.func231, Tryz.ntmps231
    go_wp2
    go_ret
    exact ⟨rfl, rfl⟩
  have e18 := ne_str n [69, 97, 99, 117, 116, 101] h
  clear h
  by_cases h : n.data.toList = [116, 105, 109, 101, 115]
  · have hv : openC n.data.toList = 215 := by rw [h]; decide +kernel
    have e19 := eq_str n [116, 105, 109, 101, 115] h
    rw [hv]
    clear h hv
    go_enter Tryz.func231, Tryz.ntmps231
    go_wp2
    go_ret
    exact ⟨rfl, rfl⟩
  have e19 := ne_str n [116, 105, 109, 101, 115] h
  clear h
  by_cases h : n.data.toList = [115, 122, 108, 105, 103]
  · have hv : openC n.data.toList = 223 := by rw [h]; decide +kernel
    have e20 := eq_str n [115, 122, 108, 105, 103] h
    rw [hv]
    clear h hv
    go_enter Tryz.func231, Tryz.ntmps231
    go_wp2
    go_ret
    exact ⟨rfl, rfl⟩
  have e20 := ne_str n [115, 122, 108, 105, 103] h
  clear h
  by_cases h : n.data.toList = [101, 97, 99, 117, 116, 101]
  · have hv : openC n.data.toList = 233 := by rw [h]; decide +kernel
    have e21 := eq_str n [101, 97, 99, 117, 116, 101] h
    rw [hv]
    clear h hv
    go_enter Tryz.func231, Tryz.ntmps231
    go_wp2
    go_ret
    exact ⟨rfl, rfl⟩
  have e21 := ne_str n [101, 97, 99, 117, 116, 101] h
  clear h
  by_cases h : n.data.toList = [100, 105, 118, 105, 100, 101]
  · have hv : openC n.data.toList = 247 := by rw [h]; decide +kernel
    have e22 := eq_str n [100, 105, 118, 105, 100, 101] h
    rw [hv]
    clear h hv
    go_enter Tryz.func231, Tryz.ntmps231
    go_wp2
    go_ret
    exact ⟨rfl, rfl⟩
  have e22 := ne_str n [100, 105, 118, 105, 100, 101] h
  clear h
  by_cases h : n.data.toList = [117, 117, 109, 108]
  · have hv : openC n.data.toList = 252 := by rw [h]; decide +kernel
    have e23 := eq_str n [117, 117, 109, 108] h
    rw [hv]
    clear h hv
    go_enter Tryz.func231, Tryz.ntmps231
    go_wp2
    go_ret
    exact ⟨rfl, rfl⟩
  have e23 := ne_str n [117, 117, 109, 108] h
  clear h
  have hv : openC n.data.toList = 0 := by
    rw [<- Lib.toList_data]
    unfold openC
    rw [show opensE = [([65, 77, 80], 38, true), ([97, 109, 112], 38, true), ([76, 84], 60, true), ([108, 116], 60, true), ([71, 84], 62, true), ([103, 116], 62, true), ([81, 85, 79, 84], 34, true), ([113, 117, 111, 116], 34, true), ([110, 98, 115, 112], 160, true), ([99, 111, 112, 121], 169, true), ([108, 97, 113, 117, 111], 171, true), ([110, 111, 116], 172, true), ([115, 104, 121], 173, true), ([114, 101, 103], 174, true), ([100, 101, 103], 176, true), ([112, 97, 114, 97], 182, true), ([109, 105, 100, 100, 111, 116], 183, true), ([114, 97, 113, 117, 111], 187, true), ([69, 97, 99, 117, 116, 101], 201, true), ([116, 105, 109, 101, 115], 215, true), ([115, 122, 108, 105, 103], 223, true), ([101, 97, 99, 117, 116, 101], 233, true), ([100, 105, 118, 105, 100, 101], 247, true), ([117, 117, 109, 108], 252, true)] from rfl]
    simp only [List.find?_cons, List.find?_nil, e0, e1, e2, e3, e4, e5, e6, e7, e8, e9, e10, e11, e12, e13, e14, e15, e16, e17, e18, e19, e20, e21, e22, e23, Option.map_none, Option.getD_none]
  rw [hv]
  clear hv
  go_enter Tryz.func231, Tryz.ntmps231
  go_wp2
  go_ret
  exact ⟨rfl, rfl⟩
theorem closed_any (n : ByteArray) (w : World) :
    Calls Tryz.prog 233 #[.string n] w fun e w' => e = .returned (.int .i32 (closeC n.data.toList : Nat)) /\ w' = w := by
  by_cases h : n.data.toList = [84, 97, 98, 59]
  · have hv : closeC n.data.toList = 9 := by rw [h]; decide +kernel
    have e0 := eq_str n [84, 97, 98, 59] h
    rw [hv]
    clear h hv
    go_enter Tryz.func233, Tryz.ntmps233
    go_wp2
    go_ret
    exact ⟨rfl, rfl⟩
  have e0 := ne_str n [84, 97, 98, 59] h
  clear h
  by_cases h : n.data.toList = [78, 101, 119, 76, 105, 110, 101, 59]
  · have hv : closeC n.data.toList = 10 := by rw [h]; decide +kernel
    have e1 := eq_str n [78, 101, 119, 76, 105, 110, 101, 59] h
    rw [hv]
    clear h hv
    go_enter Tryz.func233, Tryz.ntmps233
    go_wp2
    go_ret
    exact ⟨rfl, rfl⟩
  have e1 := ne_str n [78, 101, 119, 76, 105, 110, 101, 59] h
  clear h
  by_cases h : n.data.toList = [101, 120, 99, 108, 59]
  · have hv : closeC n.data.toList = 33 := by rw [h]; decide +kernel
    have e2 := eq_str n [101, 120, 99, 108, 59] h
    rw [hv]
    clear h hv
    go_enter Tryz.func233, Tryz.ntmps233
    go_wp2
    go_ret
    exact ⟨rfl, rfl⟩
  have e2 := ne_str n [101, 120, 99, 108, 59] h
  clear h
  by_cases h : n.data.toList = [110, 117, 109, 59]
  · have hv : closeC n.data.toList = 35 := by rw [h]; decide +kernel
    have e3 := eq_str n [110, 117, 109, 59] h
    rw [hv]
    clear h hv
    go_enter Tryz.func233, Tryz.ntmps233
    go_wp2
    go_ret
    exact ⟨rfl, rfl⟩
  have e3 := ne_str n [110, 117, 109, 59] h
  clear h
  by_cases h : n.data.toList = [97, 112, 111, 115, 59]
  · have hv : closeC n.data.toList = 39 := by rw [h]; decide +kernel
    have e4 := eq_str n [97, 112, 111, 115, 59] h
    rw [hv]
    clear h hv
    go_enter Tryz.func233, Tryz.ntmps233
    go_wp2
    go_ret
    exact ⟨rfl, rfl⟩
  have e4 := ne_str n [97, 112, 111, 115, 59] h
  clear h
  by_cases h : n.data.toList = [108, 112, 97, 114, 59]
  · have hv : closeC n.data.toList = 40 := by rw [h]; decide +kernel
    have e5 := eq_str n [108, 112, 97, 114, 59] h
    rw [hv]
    clear h hv
    go_enter Tryz.func233, Tryz.ntmps233
    go_wp2
    go_ret
    exact ⟨rfl, rfl⟩
  have e5 := ne_str n [108, 112, 97, 114, 59] h
  clear h
  by_cases h : n.data.toList = [114, 112, 97, 114, 59]
  · have hv : closeC n.data.toList = 41 := by rw [h]; decide +kernel
    have e6 := eq_str n [114, 112, 97, 114, 59] h
    rw [hv]
    clear h hv
    go_enter Tryz.func233, Tryz.ntmps233
    go_wp2
    go_ret
    exact ⟨rfl, rfl⟩
  have e6 := ne_str n [114, 112, 97, 114, 59] h
  clear h
  by_cases h : n.data.toList = [115, 111, 108, 59]
  · have hv : closeC n.data.toList = 47 := by rw [h]; decide +kernel
    have e7 := eq_str n [115, 111, 108, 59] h
    rw [hv]
    clear h hv
    go_enter Tryz.func233, Tryz.ntmps233
    go_wp2
    go_ret
    exact ⟨rfl, rfl⟩
  have e7 := ne_str n [115, 111, 108, 59] h
  clear h
  by_cases h : n.data.toList = [99, 111, 108, 111, 110, 59]
  · have hv : closeC n.data.toList = 58 := by rw [h]; decide +kernel
    have e8 := eq_str n [99, 111, 108, 111, 110, 59] h
    rw [hv]
    clear h hv
    go_enter Tryz.func233, Tryz.ntmps233
    go_wp2
    go_ret
    exact ⟨rfl, rfl⟩
  have e8 := ne_str n [99, 111, 108, 111, 110, 59] h
  clear h
  by_cases h : n.data.toList = [98, 115, 111, 108, 59]
  · have hv : closeC n.data.toList = 92 := by rw [h]; decide +kernel
    have e9 := eq_str n [98, 115, 111, 108, 59] h
    rw [hv]
    clear h hv
    go_enter Tryz.func233, Tryz.ntmps233
    go_wp2
    go_ret
    exact ⟨rfl, rfl⟩
  have e9 := ne_str n [98, 115, 111, 108, 59] h
  clear h
  by_cases h : n.data.toList = [110, 100, 97, 115, 104, 59]
  · have hv : closeC n.data.toList = 8211 := by rw [h]; decide +kernel
    have e10 := eq_str n [110, 100, 97, 115, 104, 59] h
    rw [hv]
    clear h hv
    go_enter Tryz.func233, Tryz.ntmps233
    go_wp2
    go_ret
    exact ⟨rfl, rfl⟩
  have e10 := ne_str n [110, 100, 97, 115, 104, 59] h
  clear h
  by_cases h : n.data.toList = [109, 100, 97, 115, 104, 59]
  · have hv : closeC n.data.toList = 8212 := by rw [h]; decide +kernel
    have e11 := eq_str n [109, 100, 97, 115, 104, 59] h
    rw [hv]
    clear h hv
    go_enter Tryz.func233, Tryz.ntmps233
    go_wp2
    go_ret
    exact ⟨rfl, rfl⟩
  have e11 := ne_str n [109, 100, 97, 115, 104, 59] h
  clear h
  by_cases h : n.data.toList = [108, 115, 113, 117, 111, 59]
  · have hv : closeC n.data.toList = 8216 := by rw [h]; decide +kernel
    have e12 := eq_str n [108, 115, 113, 117, 111, 59] h
    rw [hv]
    clear h hv
    go_enter Tryz.func233, Tryz.ntmps233
    go_wp2
    go_ret
    exact ⟨rfl, rfl⟩
  have e12 := ne_str n [108, 115, 113, 117, 111, 59] h
  clear h
  by_cases h : n.data.toList = [114, 115, 113, 117, 111, 59]
  · have hv : closeC n.data.toList = 8217 := by rw [h]; decide +kernel
    have e13 := eq_str n [114, 115, 113, 117, 111, 59] h
    rw [hv]
    clear h hv
    go_enter Tryz.func233, Tryz.ntmps233
    go_wp2
    go_ret
    exact ⟨rfl, rfl⟩
  have e13 := ne_str n [114, 115, 113, 117, 111, 59] h
  clear h
  by_cases h : n.data.toList = [108, 100, 113, 117, 111, 59]
  · have hv : closeC n.data.toList = 8220 := by rw [h]; decide +kernel
    have e14 := eq_str n [108, 100, 113, 117, 111, 59] h
    rw [hv]
    clear h hv
    go_enter Tryz.func233, Tryz.ntmps233
    go_wp2
    go_ret
    exact ⟨rfl, rfl⟩
  have e14 := ne_str n [108, 100, 113, 117, 111, 59] h
  clear h
  by_cases h : n.data.toList = [114, 100, 113, 117, 111, 59]
  · have hv : closeC n.data.toList = 8221 := by rw [h]; decide +kernel
    have e15 := eq_str n [114, 100, 113, 117, 111, 59] h
    rw [hv]
    clear h hv
    go_enter Tryz.func233, Tryz.ntmps233
    go_wp2
    go_ret
    exact ⟨rfl, rfl⟩
  have e15 := ne_str n [114, 100, 113, 117, 111, 59] h
  clear h
  by_cases h : n.data.toList = [104, 101, 108, 108, 105, 112, 59]
  · have hv : closeC n.data.toList = 8230 := by rw [h]; decide +kernel
    have e16 := eq_str n [104, 101, 108, 108, 105, 112, 59] h
    rw [hv]
    clear h hv
    go_enter Tryz.func233, Tryz.ntmps233
    go_wp2
    go_ret
    exact ⟨rfl, rfl⟩
  have e16 := ne_str n [104, 101, 108, 108, 105, 112, 59] h
  clear h
  by_cases h : n.data.toList = [101, 117, 114, 111, 59]
  · have hv : closeC n.data.toList = 8364 := by rw [h]; decide +kernel
    have e17 := eq_str n [101, 117, 114, 111, 59] h
    rw [hv]
    clear h hv
    go_enter Tryz.func233, Tryz.ntmps233
    go_wp2
    go_ret
    exact ⟨rfl, rfl⟩
  have e17 := ne_str n [101, 117, 114, 111, 59] h
  clear h
  by_cases h : n.data.toList = [116, 114, 97, 100, 101, 59]
  · have hv : closeC n.data.toList = 8482 := by rw [h]; decide +kernel
    have e18 := eq_str n [116, 114, 97, 100, 101, 59] h
    rw [hv]
    clear h hv
    go_enter Tryz.func233, Tryz.ntmps233
    go_wp2
    go_ret
    exact ⟨rfl, rfl⟩
  have e18 := ne_str n [116, 114, 97, 100, 101, 59] h
  clear h
  by_cases h : n.data.toList = [110, 111, 116, 105, 110, 59]
  · have hv : closeC n.data.toList = 8713 := by rw [h]; decide +kernel
    have e19 := eq_str n [110, 111, 116, 105, 110, 59] h
    rw [hv]
    clear h hv
    go_enter Tryz.func233, Tryz.ntmps233
    go_wp2
    go_ret
    exact ⟨rfl, rfl⟩
  have e19 := ne_str n [110, 111, 116, 105, 110, 59] h
  clear h
  by_cases h : n.data.toList = [116, 105, 109, 101, 115, 98, 59]
  · have hv : closeC n.data.toList = 8864 := by rw [h]; decide +kernel
    have e20 := eq_str n [116, 105, 109, 101, 115, 98, 59] h
    rw [hv]
    clear h hv
    go_enter Tryz.func233, Tryz.ntmps233
    go_wp2
    go_ret
    exact ⟨rfl, rfl⟩
  have e20 := ne_str n [116, 105, 109, 101, 115, 98, 59] h
  clear h
  have hv : closeC n.data.toList = 0 := by
    rw [<- Lib.toList_data]
    unfold closeC
    rw [show closesE = [([84, 97, 98], 9, false), ([78, 101, 119, 76, 105, 110, 101], 10, false), ([101, 120, 99, 108], 33, false), ([110, 117, 109], 35, false), ([97, 112, 111, 115], 39, false), ([108, 112, 97, 114], 40, false), ([114, 112, 97, 114], 41, false), ([115, 111, 108], 47, false), ([99, 111, 108, 111, 110], 58, false), ([98, 115, 111, 108], 92, false), ([110, 100, 97, 115, 104], 8211, false), ([109, 100, 97, 115, 104], 8212, false), ([108, 115, 113, 117, 111], 8216, false), ([114, 115, 113, 117, 111], 8217, false), ([108, 100, 113, 117, 111], 8220, false), ([114, 100, 113, 117, 111], 8221, false), ([104, 101, 108, 108, 105, 112], 8230, false), ([101, 117, 114, 111], 8364, false), ([116, 114, 97, 100, 101], 8482, false), ([110, 111, 116, 105, 110], 8713, false), ([116, 105, 109, 101, 115, 98], 8864, false)] from rfl]
    simp only [List.cons_append, List.nil_append, List.find?_cons, List.find?_nil, e0, e1, e2, e3, e4, e5, e6, e7, e8, e9, e10, e11, e12, e13, e14, e15, e16, e17, e18, e19, e20, Option.map_none, Option.getD_none]
  rw [hv]
  clear hv
  go_enter Tryz.func233, Tryz.ntmps233
  go_wp2
  go_ret
  exact ⟨rfl, rfl⟩
end Go.Proofs.YtfohijnkeefcfaaGreatDoor.S4
namespace Go.Proofs.YtfohijnkeefcfaaGreatDoor.S4
def likeB (t r : List UInt8) : Bool := decide (t.length <= r.length) && (lowerL (r.take t.length) == t)
def oddR (r : List UInt8) : List UInt8 := if [60, 33].isPrefixOf r then r.drop 2 else if [60, 47].isPrefixOf r then r.drop 2 else if [60].isPrefixOf r then r.drop 1 else r
def doctypeF : List UInt8 := [60, 33, 100, 111, 99, 116, 121, 112, 101]
def cdataT (r : List UInt8) : Tok × List UInt8 := (if (findR [93, 93, 62] r).1 = [] then { kind := 0 } else { kind := 1, text := (findR [93, 93, 62] r).1 }, (findR [93, 93, 62] r).2.drop 3)
def dataP (f : Bool) (r : List UInt8) : Tok × List UInt8 :=
  if beginsB r = false then ({ kind := 1, text := decL false (spanT r).1 }, (spanT r).2)
  else if letterN (r.getD 1 0).toNat then endedL (r.drop 1) false
  else if r.getD 1 0 == 47 && letterN (r.getD 2 0).toNat then endedL (r.drop 2) true
  else if [60, 47, 62].isPrefixOf r then ({ kind := 0 }, r.drop 3)
  else if [60, 33, 45, 45].isPrefixOf r then commentL (r.drop 4)
  else if likeB doctypeF r then ({ kind := 5 }, (findR [62] r).2.drop 1)
  else if f && cdataM.isPrefixOf r then cdataT (r.drop 9)
  else otherL (oddR r)
theorem ended_fix (f : Bool) (r : List UInt8) (stop : Bool) : (if (endedL r stop).1.kind = 0 then dataL f (endedL r stop).2 else endedL r stop) = endedL r stop := by
  unfold endedL
  cases h : tagL r with
  | none => rfl
  | some x =>
    obtain ⟨t, q⟩ := x
    obtain ⟨hk, _⟩ := tagL_what r t q h
    cases stop
    · simp only [Bool.false_eq_true, if_false]
      rw [if_neg (by rw [hk]; decide)]
    · rfl
theorem comment_fix (f : Bool) (r : List UInt8) : (if (commentL r).1.kind = 0 then dataL f (commentL r).2 else commentL r) = commentL r := by
  have : (commentL r).1.kind = 4 := by
    unfold commentL
    split
    · rfl
    · split
      · rfl
      · split <;> rfl
  rw [if_neg (by rw [this]; decide)]
theorem findR_pass (x : UInt8) : ∀ a r : List UInt8, x ∉ a -> (findR [x] (a ++ r)).2 = (findR [x] r).2
  | [], r, _ => rfl
  | c :: a, r, h => by
    have hc : ¬ x = c := fun e => h (by rw [e]; exact List.mem_cons_self)
    have ih := findR_pass x a r (fun hm => h (List.mem_cons_of_mem c hm))
    simp only [List.cons_append, findR]
    rw [if_neg (by simp [List.isPrefixOf, hc])]
    exact ih
theorem like_doctype (q : List UInt8) : likeB doctypeF (60 :: 33 :: q) = true ↔ (9 <= (60 :: 33 :: q).length /\ lowerL (((60 :: 33 :: q : List UInt8).drop 2).take 7) = doctypeM) := by
  unfold likeB doctypeF doctypeM
  have e1 : lowerL ((60 :: 33 :: q : List UInt8).take 9) = 60 :: 33 :: lowerL (q.take 7) := rfl
  simp only [List.length_cons, List.length_nil, Nat.zero_add, List.drop_succ_cons, List.drop_zero]
  rw [show (0 + 1 + 1 + 1 + 1 + 1 + 1 + 1 + 1 + 1 : Nat) = 9 from rfl] at *
  rw [e1, Bool.and_eq_true, decide_eq_true_eq, beq_iff_eq, List.cons.injEq, List.cons.injEq]
  simp
theorem doctype_rest (q : List UInt8) (h : likeB doctypeF (60 :: 33 :: q) = true) : (findR [62] (60 :: 33 :: q)).2 = (findR [62] ((60 :: 33 :: q : List UInt8).drop 9)).2 := by
  have hl : lowerL ((60 :: 33 :: q : List UInt8).take 9) = doctypeF := by
    unfold likeB at h
    rw [Bool.and_eq_true] at h
    exact beq_iff_eq.1 h.2
  have hn : (62 : UInt8) ∉ (60 :: 33 :: q : List UInt8).take 9 := by
    intro hm
    have h2 : (62 : UInt8) ∈ lowerL ((60 :: 33 :: q : List UInt8).take 9) := List.mem_map.2 ⟨62, hm, rfl⟩
    rw [hl] at h2
    exact absurd h2 (by decide)
  have h3 := findR_pass 62 ((60 :: 33 :: q : List UInt8).take 9) ((60 :: 33 :: q : List UInt8).drop 9) hn
  rw [List.take_append_drop] at h3
  exact h3
theorem like_no (c : UInt8) (q : List UInt8) (h : low c ≠ 33) : likeB doctypeF (60 :: c :: q) = false := by
  unfold likeB doctypeF
  rw [Bool.and_eq_false_iff]
  refine .inr ?_
  refine beq_eq_false_iff_ne.2 ?_
  show low 60 :: low c :: lowerL (q.take 7) ≠ _
  intro e
  rw [List.cons.injEq, List.cons.injEq] at e
  exact h e.2.1
theorem pre_no (a c : UInt8) (q t : List UInt8) (h : ¬ a = c) : (60 :: a :: t : List UInt8).isPrefixOf (60 :: c :: q) = false := by
  simp [List.isPrefixOf, h]
theorem letter_not (c : UInt8) (h : letterN c.toNat = true) : c ≠ 47 /\ c ≠ 33 /\ c ≠ 63 /\ c ≠ 62 /\ c ≠ 45 /\ c ≠ 91 := by
  refine ⟨?_, ?_, ?_, ?_, ?_, ?_⟩ <;> (intro e; subst e; exact absurd h (by decide))
theorem dataL_P (f : Bool) (r : List UInt8) (h : r ≠ []) : dataL f r = if (dataP f r).1.kind = 0 then dataL f (dataP f r).2 else dataP f r := by
  cases hb : beginsB r with
  | false =>
    rw [data_text f r h hb]
    unfold dataP
    rw [if_pos hb]
    rfl
  | true =>
    obtain ⟨c, q, rfl, hc⟩ := begins_form r hb
    rcases hc with hl | rfl | rfl | ⟨rfl, hq⟩
    · obtain ⟨n47, n33, n63, _⟩ := letter_not c hl
      have e1 : ∀ (a : UInt8) t, c ≠ a -> (60 :: a :: t : List UInt8).isPrefixOf (60 :: c :: q) = false := fun a t ha => pre_no a c q t (fun e => ha e.symm)
      rw [data_tag f _ h hb (e1 47 [62] n47) (e1 47 [] n47) (e1 33 [45, 45] n33) (by rw [show cdataM = 60 :: 33 :: [91, 67, 68, 65, 84, 65, 91] from rfl, e1 33 _ n33, Bool.and_false]) (e1 33 [] n33) (e1 63 [] n63)]
      have hP : dataP f (60 :: c :: q) = endedL ((60 :: c :: q).drop 1) false := by
        unfold dataP
        rw [if_neg (by rw [hb]; decide), if_pos (show letterN ((60 :: c :: q : List UInt8).getD 1 0).toNat = true from hl)]
      rw [hP]
      exact (ended_fix f _ false).symm
    · -- <!
      have n47 : ∀ t, (60 :: 47 :: t : List UInt8).isPrefixOf (60 :: 33 :: q) = false := fun t => pre_no 47 33 q t (by decide)
      have hl1 : ¬ letterN ((60 :: 33 :: q : List UInt8).getD 1 0).toNat = true := by show ¬ letterN (33 : UInt8).toNat = true; decide
      have hl2 : ¬ ((60 :: 33 :: q : List UInt8).getD 1 0 == 47 && letterN ((60 :: 33 :: q : List UInt8).getD 2 0).toNat) = true := by
        rw [show ((60 :: 33 :: q : List UInt8).getD 1 0 == 47) = false from rfl, Bool.false_and]; decide
      cases h4 : ([60, 33, 45, 45] : List UInt8).isPrefixOf (60 :: 33 :: q) with
      | true =>
        have hP : dataP f (60 :: 33 :: q) = commentL ((60 :: 33 :: q).drop 4) := by
          unfold dataP
          rw [if_neg (by rw [hb]; decide), if_neg hl1, if_neg hl2, if_neg (by rw [n47]; decide), if_pos h4]
        rw [hP, data_comment f _ h hb (n47 [62]) (n47 []) h4]
        exact (comment_fix f _).symm
      | false =>
        cases hcd : (f && cdataM.isPrefixOf (60 :: 33 :: q)) with
        | true =>
          rw [Bool.and_eq_true] at hcd
          obtain ⟨hf, hcd⟩ := hcd
          subst hf
          have hlk : likeB doctypeF (60 :: 33 :: q) = false := by
            cases hk : likeB doctypeF (60 :: 33 :: q) with
            | false => rfl
            | true =>
              have h7 := ((like_doctype q).1 hk).2
              obtain ⟨q2, hq2⟩ := List.isPrefixOf_iff_prefix.1 hcd
              have hq3 : q = 91 :: 67 :: 68 :: 65 :: 84 :: 65 :: 91 :: q2 := by
                unfold cdataM at hq2
                simp only [List.cons_append, List.nil_append, List.cons.injEq, true_and] at hq2
                exact hq2.symm
              rw [hq3] at h7
              exact absurd h7 (by
                unfold doctypeM
                show low 91 :: _ ≠ _
                intro e
                rw [List.cons.injEq] at e
                exact absurd e.1 (by decide))
          have hP : dataP true (60 :: 33 :: q) = cdataT ((60 :: 33 :: q).drop 9) := by
            unfold dataP
            rw [if_neg (by rw [hb]; decide), if_neg hl1, if_neg hl2, if_neg (by rw [n47]; decide), if_neg (by rw [h4]; decide), if_neg (by rw [hlk]; decide), if_pos (by rw [hcd]; rfl)]
          rw [hP, data_cdata _ h hb (n47 [62]) (n47 []) h4 hcd]
          unfold cdataT
          generalize findR [93, 93, 62] ((60 :: 33 :: q : List UInt8).drop 9) = F
          by_cases hF : F.1 = []
          · rw [if_pos hF, if_pos hF]; rfl
          · rw [if_neg hF, if_neg hF]; rfl
        | false =>
          have h33 : ([60, 33] : List UInt8).isPrefixOf (60 :: 33 :: q) = true := by simp [List.isPrefixOf]
          rw [data_bang f _ h hb (n47 [62]) (n47 []) h4 hcd h33]
          cases hk : likeB doctypeF (60 :: 33 :: q) with
          | true =>
            have hP : dataP f (60 :: 33 :: q) = ({ kind := 5 }, (findR [62] (60 :: 33 :: q)).2.drop 1) := by
              unfold dataP
              rw [if_neg (by rw [hb]; decide), if_neg hl1, if_neg hl2, if_neg (by rw [n47]; decide), if_neg (by rw [h4]; decide), if_pos hk]
            rw [hP, if_pos ((like_doctype q).1 hk), doctype_rest q hk]
            rfl
          | false =>
            have hP : dataP f (60 :: 33 :: q) = otherL ((60 :: 33 :: q).drop 2) := by
              unfold dataP
              rw [if_neg (by rw [hb]; decide), if_neg hl1, if_neg hl2, if_neg (by rw [n47]; decide), if_neg (by rw [h4]; decide), if_neg (by rw [hk]; decide), if_neg (by rw [hcd]; decide)]
              unfold oddR
              rw [if_pos h33]
            rw [hP, if_neg (fun hh => by rw [(like_doctype q).2 hh] at hk; cases hk)]
            rfl
    · -- <?
      have no : ∀ (a : UInt8) t, a ≠ 63 -> (60 :: a :: t : List UInt8).isPrefixOf (60 :: 63 :: q) = false := fun a t ha => pre_no a 63 q t ha
      have hl1 : ¬ letterN ((60 :: 63 :: q : List UInt8).getD 1 0).toNat = true := by show ¬ letterN (63 : UInt8).toNat = true; decide
      have hl2 : ¬ ((60 :: 63 :: q : List UInt8).getD 1 0 == 47 && letterN ((60 :: 63 :: q : List UInt8).getD 2 0).toNat) = true := by
        rw [show ((60 :: 63 :: q : List UInt8).getD 1 0 == 47) = false from rfl, Bool.false_and]; decide
      have hcd : (f && cdataM.isPrefixOf (60 :: 63 :: q)) = false := by rw [show cdataM = 60 :: 33 :: [91, 67, 68, 65, 84, 65, 91] from rfl, no 33 _ (by decide), Bool.and_false]
      have hlk := like_no 63 q (by decide)
      have hP : dataP f (60 :: 63 :: q) = otherL ((60 :: 63 :: q).drop 1) := by
        unfold dataP
        rw [if_neg (by rw [hb]; decide), if_neg hl1, if_neg hl2, if_neg (by rw [no 47 _ (by decide)]; decide), if_neg (by rw [no 33 _ (by decide)]; decide), if_neg (by rw [hlk]; decide), if_neg (by rw [hcd]; decide)]
        unfold oddR
        rw [if_neg (by rw [no 33 _ (by decide)]; decide), if_neg (by rw [no 47 _ (by decide)]; decide), if_pos (by simp [List.isPrefixOf])]
      rw [hP, data_ask f _ h hb (no 47 _ (by decide)) (no 47 _ (by decide)) (no 33 _ (by decide)) hcd (no 33 _ (by decide)) (by simp [List.isPrefixOf])]
      rfl
    · -- </
      have no : ∀ (a : UInt8) t, a ≠ 47 -> (60 :: a :: t : List UInt8).isPrefixOf (60 :: 47 :: q) = false := fun a t ha => pre_no a 47 q t ha
      have h47 : ([60, 47] : List UInt8).isPrefixOf (60 :: 47 :: q) = true := by simp [List.isPrefixOf]
      have hl1 : ¬ letterN ((60 :: 47 :: q : List UInt8).getD 1 0).toNat = true := by show ¬ letterN (47 : UInt8).toNat = true; decide
      have hl2 : ((60 :: 47 :: q : List UInt8).getD 1 0 == 47 && letterN ((60 :: 47 :: q : List UInt8).getD 2 0).toNat) = letterN ((60 :: 47 :: q : List UInt8).getD 2 0).toNat := by
        rw [show ((60 :: 47 :: q : List UInt8).getD 1 0 == 47) = true from rfl, Bool.true_and]
      cases q with
      | nil => exact absurd rfl hq
      | cons d q =>
        cases hlt : letterN ((60 :: 47 :: d :: q : List UInt8).getD 2 0).toNat with
        | true =>
          have hd : letterN d.toNat = true := hlt
          have h62 : ([60, 47, 62] : List UInt8).isPrefixOf (60 :: 47 :: d :: q) = false := by
            have := (letter_not d hd).2.2.2.1
            have e : ¬ (62 : UInt8) = d := fun e => this e.symm
            simp [List.isPrefixOf, e]
          have hP : dataP f (60 :: 47 :: d :: q) = endedL ((60 :: 47 :: d :: q).drop 2) true := by
            unfold dataP
            rw [if_neg (by rw [hb]; decide), if_neg hl1, if_pos (by rw [hl2]; exact hlt)]
          rw [hP, data_end f _ h hb h62 h47, if_pos hlt]
          exact (ended_fix f _ true).symm
        | false =>
          have hlk := like_no 47 (d :: q) (by decide)
          cases h62 : ([60, 47, 62] : List UInt8).isPrefixOf (60 :: 47 :: d :: q) with
          | true =>
            have hP : dataP f (60 :: 47 :: d :: q) = ({ kind := 0 }, (60 :: 47 :: d :: q).drop 3) := by
              unfold dataP
              rw [if_neg (by rw [hb]; decide), if_neg hl1, if_neg (by rw [hl2, hlt]; decide), if_pos h62]
            rw [hP, data_skip f _ h hb h62]
            rfl
          | false =>
            have hcd : (f && cdataM.isPrefixOf (60 :: 47 :: d :: q)) = false := by rw [show cdataM = 60 :: 33 :: [91, 67, 68, 65, 84, 65, 91] from rfl, no 33 _ (by decide), Bool.and_false]
            have hP : dataP f (60 :: 47 :: d :: q) = otherL ((60 :: 47 :: d :: q).drop 2) := by
              unfold dataP
              rw [if_neg (by rw [hb]; decide), if_neg hl1, if_neg (by rw [hl2, hlt]; decide), if_neg (by rw [h62]; decide), if_neg (by rw [no 33 _ (by decide)]; decide), if_neg (by rw [hlk]; decide), if_neg (by rw [hcd]; decide)]
              unfold oddR
              rw [if_neg (by rw [no 33 _ (by decide)]; decide), if_pos h47]
            rw [hP, data_end f _ h hb h62 h47, if_neg (by rw [hlt]; decide)]
            rfl
theorem dataP_short (f : Bool) (r : List UInt8) (h : r ≠ []) : (dataP f r).2.length < r.length := by
  have hl : 1 <= r.length := by
    cases r with
    | nil => exact absurd rfl h
    | cons c q => simp
  have hE : ∀ k b, 1 <= k -> (endedL (r.drop k) b).2.length < r.length := fun k b hk => by
    have := (endedL_sfx (r.drop k) b).length_le
    rw [List.length_drop] at this
    omega
  have hF : ∀ t x : List UInt8, (findR t x).2.length <= x.length := fun t x => findR_le t x
  unfold dataP
  split
  · rename_i hb
    exact short_of (spanT_app r) (spanT_ne r h hb)
  · split
    · exact hE 1 _ (by omega)
    · split
      · exact hE 2 _ (by omega)
      · split
        · show (r.drop 3).length < _
          rw [List.length_drop]; omega
        · split
          · have := (commentL_sfx (r.drop 4)).length_le
            rw [List.length_drop] at this
            omega
          · split
            · have := hF [62] r
              show ((findR [62] r).2.drop 1).length < _
              rw [List.length_drop]; omega
            · split
              · have := hF [93, 93, 62] (r.drop 9)
                rw [List.length_drop] at this
                show ((findR [93, 93, 62] (r.drop 9)).2.drop 3).length < _
                rw [List.length_drop]; omega
              · have h1 := hF [62] (oddR r)
                have h2 : (oddR r).length <= r.length := by
                  unfold oddR
                  split
                  · rw [List.length_drop]; omega
                  · split
                    · rw [List.length_drop]; omega
                    · split
                      · rw [List.length_drop]; omega
                      · omega
                show ((findR [62] (oddR r)).2.drop 1).length < _
                rw [List.length_drop]; omega
end Go.Proofs.YtfohijnkeefcfaaGreatDoor.S4
namespace Go.Proofs.YtfohijnkeefcfaaGreatDoor.S4
theorem addA_few (bs : List (List UInt8 × List UInt8)) (a : List UInt8 × List UInt8) : (addA bs a).length <= bs.length + 1 := by
  unfold addA
  split
  · omega
  · simp
theorem loopT_few (k : Nat) : ∀ bs r x, loopT k bs r = some x -> x.1.length <= bs.length + r.length := by
  induction k with
  | zero => intro bs r x h; simp [loopT] at h
  | succ k ih =>
    intro bs r x h
    simp only [loopT] at h
    have h0 := dw_le passB r
    cases hd : r.dropWhile passB with
    | nil => rw [hd] at h; simp at h
    | cons c r2 =>
      rw [hd] at h h0
      simp only [List.length_cons] at h0
      simp only at h
      split at h
      · cases h
        simp only
        omega
      · have h1 := dw_le isSp (r2.dropWhile attrB)
        have h2 := dw_le attrB r2
        cases hr : (r2.dropWhile attrB).dropWhile isSp with
        | nil =>
          rw [hr] at h
          have h3 := ih _ _ _ h
          have h4 := addA_few bs (lowerL (c :: r2.takeWhile attrB), [])
          simp only [List.length_nil] at h3
          omega
        | cons d r4 =>
          rw [hr] at h h1
          simp only [List.length_cons] at h1
          simp only at h
          split at h
          · have h3 := ih _ _ _ h
            have h4 := valueL_le (r4.dropWhile isSp)
            have h5 := dw_le isSp r4
            have h6 := addA_few bs (lowerL (c :: r2.takeWhile attrB), (valueL (r4.dropWhile isSp)).1)
            omega
          · have h3 := ih _ _ _ h
            have h6 := addA_few bs (lowerL (c :: r2.takeWhile attrB), [])
            simp only [List.length_cons] at h3
            omega
theorem endedL_few (r : List UInt8) (stop : Bool) : (endedL r stop).1.attrs.length <= r.length := by
  unfold endedL tagL
  cases hl : loopT (r.length + 1) [] (r.dropWhile nameB) with
  | none => simp
  | some x =>
    have h := loopT_few _ _ _ _ hl
    have h2 := dw_le nameB r
    cases stop
    · simp only [Option.map_some, Bool.false_eq_true, if_false]
      simp only [List.length_nil] at h
      omega
    · simp
theorem commentL_few (r : List UInt8) : (commentL r).1.attrs = [] := by
  unfold commentL
  split
  · rfl
  · split
    · rfl
    · split <;> rfl
theorem dataK_few (f : Bool) (k : Nat) : ∀ r, (dataK f k r).1.attrs.length <= r.length := by
  induction k with
  | zero => intro r; simp [dataK]
  | succ k ih =>
    intro r
    have hE : ∀ j b, (endedL (r.drop j) b).1.attrs.length <= r.length := fun j b => by
      have := endedL_few (r.drop j) b
      rw [List.length_drop] at this
      omega
    have hI : ∀ j, (dataK f k (r.drop j)).1.attrs.length <= r.length := fun j => by
      have := ih (r.drop j)
      rw [List.length_drop] at this
      omega
    have hF : (dataK f k ((findR [93, 93, 62] (r.drop 9)).2.drop 3)).1.attrs.length <= r.length := by
      have h1 := ih ((findR [93, 93, 62] (r.drop 9)).2.drop 3)
      have h2 := findR_le [93, 93, 62] (r.drop 9)
      rw [List.length_drop] at h1 h2
      omega
    simp only [dataK]
    split
    · simp
    split
    · simp
    split
    · exact hI 3
    split
    · split
      · exact hE 2 true
      · simp [otherL]
    split
    · rw [commentL_few]; simp
    split
    · split
      · exact hF
      · simp
    split
    · split
      · simp
      · simp [otherL]
    split
    · simp [otherL]
    · exact hE 1 false
theorem nextR_few (m : Int) (n : List UInt8) (f : Bool) (r : List UInt8) : (nextR m n f r).1.attrs.length <= r.length := by
  unfold nextR
  split
  · simp
  split
  · simp
  split
  · exact dataK_few f r.length r
  split
  · have := endedL_few (r.drop 2) true
    rw [List.length_drop] at this
    omega
  · simp
end Go.Proofs.YtfohijnkeefcfaaGreatDoor.S4
