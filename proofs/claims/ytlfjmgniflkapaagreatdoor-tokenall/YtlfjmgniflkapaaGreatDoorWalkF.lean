/- What the document's own number answers, at whatever place of whatever text behind which a number sign stands; nothing that was there is written. -/
import Derived.Test.YtlfjmgniflkapaaGreatDoorWalkE
set_option linter.unusedVariables false
set_option linter.unusedSimpArgs false
namespace Go.Proofs.YtlfjmgniflkapaaGreatDoor
open Go.RowKit

set_option maxHeartbeats 4000000 in
theorem rnum_10 (s : ByteArray) (hs : s.size ≤ 1000000) (p : Nat) (hp : p + 2 < s.size) (hx : (s[p + 2]).toNat ≠ 120) (hX : (s[p + 2]).toNat ≠ 88) (w : World) :
    Calls Tryz.prog 59 #[.string s, .int .i64 (p : Int)] w fun e w' => e = .returned (.tuple #[.string ⟨((if (digsL 10 (s.data.toList.drop (p + 2))).2 = 0 then (([] : List UInt8), 0) else ((digsL 10 (s.data.toList.drop (p + 2))).1, (digsL 10 (s.data.toList.drop (p + 2))).2 + 2)).1).toArray⟩, .int .i64 ((if (digsL 10 (s.data.toList.drop (p + 2))).2 = 0 then (([] : List UInt8), 0) else ((digsL 10 (s.data.toList.drop (p + 2))).1, (digsL 10 (s.data.toList.drop (p + 2))).2 + 2)).2 : Nat)]) ∧ Below w.heap.size w w' := by
  have HDG := hide (fun (c : UInt8) => rdigit_any c.toNat c.toNat_lt 10 (by omega) (by omega))
  have HNM := hide rnumber_any
  generalize hL : s.data.toList.drop (p + 2) = L
  have HL := hide hL
  clear hL
  generalize hR : (if (digsL 10 L).2 = 0 then (([] : List UInt8), 0) else ((digsL 10 L).1, (digsL 10 L).2 + 2)) = R
  have HR := hide hR
  clear hR
  have e1 := ne_lit _ 120 (by omega : ((s[p + 2]).toNat : Int) ≠ 120)
  have e2 := ne_lit _ 88 (by omega : ((s[p + 2]).toNat : Int) ≠ 88)
  have e3 : (p : Int) + 2 < s.size := by omega
  go_enter Tryz.func59, Tryz.ntmps59
  go_wp2
  go_loop [6, 8, 9] (fun ti tn tk => ∃ k v : Nat, ti = .int .i64 ((p + 2 + k : Nat) : Int) ∧ tn = .int .i64 (capv v : Nat) ∧ tk = .int .i64 k ∧ p + 2 + k ≤ s.size ∧ Hid (NumSt 10 L (s.data.toList.drop (p + 2 + k)) k v)) (fun ti _ _ => s.size - (intOf ti).toNat)
  case atStart => exact ⟨0, 0, by go_num, rfl, rfl, by omega, hide ⟨by rw [← HL.out] <;> simp, by rw [← HL.out] <;> rfl⟩⟩
  case round =>
    obtain ⟨k, v, rfl, rfl, rfl, hk, HN⟩ := hrel
    have hcl := capv_le v
    by_cases hlt : p + 2 + k < s.size
    · have hlt2 : (((p + 2 + k : Nat) : Int)) < s.size := by omega
      cases hd : digitB 10 s[p + 2 + k] with
      | some d =>
        have hz := digitZ_some 10 s[p + 2 + k] d hd
        have hdl := digit_lt 10 _ d hd
        have hq := digs_yes 10 s[p + 2 + k] (s.data.toList.drop (p + 2 + k + 1)) d hd
        rw [← drop_cons s (p + 2 + k) hlt] at hq
        have hN2 : NumSt 10 L (s.data.toList.drop (p + 2 + (k + 1))) (k + 1) (v * 10 + d) := by
          obtain ⟨n1, n2⟩ := HN.out
          rw [hq.1] at n1
          rw [hq.2] at n2
          exact ⟨by rw [show p + 2 + (k + 1) = p + 2 + k + 1 by omega]; omega, n2⟩
        have HN2 := hide hN2
        have HD := hide (HDG.out s[p + 2 + k])
        rw [hz] at HD
        have hov := capv_over v 10 d (by omega)
        have hun := capv_under v 10 d (by omega)
        have HOV := hide hov
        have HUN := hide hun
        clear hz hq hN2 HN hd hov hun
        generalize hnx : p + 2 + k = x at *
        go_wp2_with fail
        refine (HD.out _).mono ?_
        rintro e w1 ⟨rfl, rfl⟩
        by_cases hc : 1114111 < capv v * 10 + d
        · have hc2 : (1114111 : Int) < (capv v : Int) * 10 + d := by omega
          have HCV := hide (HOV.out hc)
          clear hc
          go_wp2_with fail
          refine (HD.out _).mono ?_
          rintro e w2 ⟨rfl, rfl⟩
          go_wp2
          go_round
          case rel => exact ⟨k + 1, v * 10 + d, by (refine congrArg _ ?_; omega), by rw [HCV.out]; rfl, by go_num, by omega, HN2⟩
          case measure => simp [intOf]; omega
        · have hc2 : ¬ (1114111 : Int) < (capv v : Int) * 10 + d := by omega
          have HCV := hide (HUN.out hc)
          clear hc
          go_wp2_with fail
          refine (HD.out _).mono ?_
          rintro e w2 ⟨rfl, rfl⟩
          go_wp2
          go_round
          case rel => exact ⟨k + 1, v * 10 + d, by (refine congrArg _ ?_; omega), by rw [HCV.out]; go_num, by go_num, by omega, HN2⟩
          case measure => simp [intOf]; omega
      | none =>
        have hz := digitZ_none 10 s[p + 2 + k] hd
        have hq := digs_no 10 s[p + 2 + k] (s.data.toList.drop (p + 2 + k + 1)) hd
        rw [← drop_cons s (p + 2 + k) hlt] at hq
        obtain ⟨n1, n2⟩ := HN.out
        rw [hq.1, Nat.add_zero] at n1
        rw [hq.2] at n2
        have hsm : semiN (L.drop k) = if (s[p + 2 + k]).toNat = 59 then 1 else 0 := by
          rw [← HL.out, List.drop_drop, drop_cons s (p + 2 + k) hlt]
          unfold semiN
          simp only [List.head?_cons, Option.some.injEq]
          by_cases h59 : s[p + 2 + k] = 59
          · rw [if_pos h59, if_pos (by rw [h59]; rfl)]
          · rw [if_neg h59, if_neg (fun (e : (s[p + 2 + k]).toNat = 59) => h59 (UInt8.toNat_inj.1 e))]
        have HD := hide (HDG.out s[p + 2 + k])
        rw [hz] at HD
        have hRR : R = if k = 0 then (([] : List UInt8), 0) else (numberL (v : Nat), k + (if (s[p + 2 + k]).toNat = 59 then 1 else 0) + 2) := by
          rw [← HR.out]
          unfold digsL
          rw [n1, n2, hsm]
          by_cases hk0 : k = 0
          · rw [if_pos hk0, if_pos rfl, if_pos hk0]
          · rw [if_neg hk0, if_neg (by show ¬ k + _ = 0; omega), if_neg hk0]
        have HNU := hide (HNM.out (capv v : Nat))
        rw [capv_number] at HNU
        clear hz hq hd hsm n1 n2 HN
        generalize numberL (v : Nat) = T at *
        by_cases hk0 : k = 0
        · subst hk0
          have HRR : Hid (R = ([], 0)) := hide hRR
          clear hRR
          go_wp2_with fail
          refine (HD.out _).mono ?_
          rintro e w1 ⟨rfl, rfl⟩
          go_wp2
          go_ret2
          rw [HRR.out]
          exact ⟨rfl, Below.refl _ _⟩
        · have hk1 := ne_lit k 0 (by omega)
          rw [if_neg hk0] at hRR
          by_cases h59 : (s[p + 2 + k]).toNat = 59
          · have h592 := eq_lit _ 59 (by omega : ((s[p + 2 + k]).toNat : Int) = 59)
            rw [if_pos h59] at hRR
            have HRR := hide hRR
            clear h59 hRR
            generalize hnx : p + 2 + k = x at *
            go_wp2_with fail
            refine (HD.out _).mono ?_
            rintro e w1 ⟨rfl, rfl⟩
            go_wp2_with fail
            refine (HNU.out _).mono ?_
            rintro e w2 ⟨rfl, b2⟩
            go_wp2
            go_ret2
            refine ⟨?_, b2⟩
            rw [HRR.out, show (x : Int) + 1 - p = ((k + 1 + 2 : Nat) : Int) by omega]
            rfl
          · have h592 := ne_lit _ 59 (by omega : ((s[p + 2 + k]).toNat : Int) ≠ 59)
            rw [if_neg h59] at hRR
            have HRR := hide hRR
            clear h59 hRR
            generalize hnx : p + 2 + k = x at *
            go_wp2_with fail
            refine (HD.out _).mono ?_
            rintro e w1 ⟨rfl, rfl⟩
            go_wp2_with fail
            refine (HNU.out _).mono ?_
            rintro e w2 ⟨rfl, b2⟩
            go_wp2
            go_ret2
            refine ⟨?_, b2⟩
            rw [HRR.out, show (x : Int) - p = ((k + 0 + 2 : Nat) : Int) by omega]
            rfl
    · have hend : p + 2 + k = s.size := by omega
      obtain ⟨n1, n2⟩ := HN.out
      rw [drop_end s (p + 2 + k) (by omega)] at n1 n2
      have n1 : digsN 10 L = k := n1
      have n2 : valN 10 0 L = v := n2
      have hsm : semiN (L.drop k) = 0 := by
        rw [← HL.out, List.drop_drop, drop_end s (p + 2 + k) (by omega)]
        rfl
      have hRR : R = if k = 0 then (([] : List UInt8), 0) else (numberL (v : Nat), k + 2) := by
        rw [← HR.out]
        unfold digsL
        rw [n1, n2, hsm]
        show (if (if k = 0 then _ else (numberL (v : Nat), k + 0)).2 = 0 then _ else _) = _
        by_cases hk0 : k = 0
        · rw [if_pos hk0, if_pos rfl, if_pos hk0]
        · rw [if_neg hk0, if_neg (by show ¬ k + 0 = 0; omega), if_neg hk0] <;> rfl
      have HNU := hide (HNM.out (capv v : Nat))
      rw [capv_number] at HNU
      clear hsm n1 n2 HN
      generalize numberL (v : Nat) = T at *
      have hlt2 : ¬ (((p + 2 + k : Nat) : Int)) < s.size := by omega
      clear hend
      by_cases hk0 : k = 0
      · subst hk0
        have HRR : Hid (R = ([], 0)) := hide hRR
        clear hRR
        go_wp2
        all_goals go_ret2
        all_goals rw [HRR.out]
        all_goals exact ⟨rfl, Below.refl _ _⟩
      · have hk1 := ne_lit k 0 (by omega)
        rw [if_neg hk0] at hRR
        have HRR := hide hRR
        clear hRR
        generalize hnx : p + 2 + k = x at *
        go_wp2_with fail
        refine (HNU.out _).mono ?_
        rintro e w2 ⟨rfl, b2⟩
        go_wp2
        go_ret2
        refine ⟨?_, b2⟩
        rw [HRR.out, show (x : Int) - p = ((k + 2 : Nat) : Int) by omega]
        rfl

set_option maxHeartbeats 4000000 in
theorem rnum_none (s : ByteArray) (hs : s.size ≤ 1000000) (p : Nat) (hp : p + 2 = s.size) (w : World) :
    Calls Tryz.prog 59 #[.string s, .int .i64 (p : Int)] w fun e w' => e = .returned (.tuple #[.string ⟨((if (digsL 10 (s.data.toList.drop (p + 2))).2 = 0 then (([] : List UInt8), 0) else ((digsL 10 (s.data.toList.drop (p + 2))).1, (digsL 10 (s.data.toList.drop (p + 2))).2 + 2)).1).toArray⟩, .int .i64 ((if (digsL 10 (s.data.toList.drop (p + 2))).2 = 0 then (([] : List UInt8), 0) else ((digsL 10 (s.data.toList.drop (p + 2))).1, (digsL 10 (s.data.toList.drop (p + 2))).2 + 2)).2 : Nat)]) ∧ Below w.heap.size w w' := by
  have HDG := hide (fun (c : UInt8) => rdigit_any c.toNat c.toNat_lt 10 (by omega) (by omega))
  have HNM := hide rnumber_any
  generalize hL : s.data.toList.drop (p + 2) = L
  have HL := hide hL
  clear hL
  generalize hR : (if (digsL 10 L).2 = 0 then (([] : List UInt8), 0) else ((digsL 10 L).1, (digsL 10 L).2 + 2)) = R
  have HR := hide hR
  clear hR
  have e3 : ¬ (p : Int) + 2 < s.size := by omega
  go_enter Tryz.func59, Tryz.ntmps59
  go_wp2
  go_loop [6, 8, 9] (fun ti tn tk => ∃ k v : Nat, ti = .int .i64 ((p + 2 + k : Nat) : Int) ∧ tn = .int .i64 (capv v : Nat) ∧ tk = .int .i64 k ∧ p + 2 + k ≤ s.size ∧ Hid (NumSt 10 L (s.data.toList.drop (p + 2 + k)) k v)) (fun ti _ _ => s.size - (intOf ti).toNat)
  case atStart => exact ⟨0, 0, by go_num, rfl, rfl, by omega, hide ⟨by rw [← HL.out] <;> simp, by rw [← HL.out] <;> rfl⟩⟩
  case round =>
    obtain ⟨k, v, rfl, rfl, rfl, hk, HN⟩ := hrel
    have hcl := capv_le v
    by_cases hlt : p + 2 + k < s.size
    · exact absurd hlt (by omega)
    · have hend : p + 2 + k = s.size := by omega
      obtain ⟨n1, n2⟩ := HN.out
      rw [drop_end s (p + 2 + k) (by omega)] at n1 n2
      have n1 : digsN 10 L = k := n1
      have n2 : valN 10 0 L = v := n2
      have hsm : semiN (L.drop k) = 0 := by
        rw [← HL.out, List.drop_drop, drop_end s (p + 2 + k) (by omega)]
        rfl
      have hRR : R = if k = 0 then (([] : List UInt8), 0) else (numberL (v : Nat), k + 2) := by
        rw [← HR.out]
        unfold digsL
        rw [n1, n2, hsm]
        show (if (if k = 0 then _ else (numberL (v : Nat), k + 0)).2 = 0 then _ else _) = _
        by_cases hk0 : k = 0
        · rw [if_pos hk0, if_pos rfl, if_pos hk0]
        · rw [if_neg hk0, if_neg (by show ¬ k + 0 = 0; omega), if_neg hk0] <;> rfl
      have HNU := hide (HNM.out (capv v : Nat))
      rw [capv_number] at HNU
      clear hsm n1 n2 HN
      generalize numberL (v : Nat) = T at *
      have hlt2 : ¬ (((p + 2 + k : Nat) : Int)) < s.size := by omega
      clear hend
      by_cases hk0 : k = 0
      · subst hk0
        have HRR : Hid (R = ([], 0)) := hide hRR
        clear hRR
        go_wp2
        all_goals go_ret2
        all_goals rw [HRR.out]
        all_goals exact ⟨rfl, Below.refl _ _⟩
      · have hk1 := ne_lit k 0 (by omega)
        rw [if_neg hk0] at hRR
        have HRR := hide hRR
        clear hRR
        generalize hnx : p + 2 + k = x at *
        go_wp2_with fail
        refine (HNU.out _).mono ?_
        rintro e w2 ⟨rfl, b2⟩
        go_wp2
        go_ret2
        refine ⟨?_, b2⟩
        rw [HRR.out, show (x : Int) - p = ((k + 2 : Nat) : Int) by omega]
        rfl

set_option maxHeartbeats 4000000 in
theorem rnum_x (s : ByteArray) (hs : s.size ≤ 1000000) (p : Nat) (hp : p + 2 < s.size) (hx : (s[p + 2]).toNat = 120) (w : World) :
    Calls Tryz.prog 59 #[.string s, .int .i64 (p : Int)] w fun e w' => e = .returned (.tuple #[.string ⟨((if (digsL 16 (s.data.toList.drop (p + 3))).2 = 0 then (([] : List UInt8), 0) else ((digsL 16 (s.data.toList.drop (p + 3))).1, (digsL 16 (s.data.toList.drop (p + 3))).2 + 3)).1).toArray⟩, .int .i64 ((if (digsL 16 (s.data.toList.drop (p + 3))).2 = 0 then (([] : List UInt8), 0) else ((digsL 16 (s.data.toList.drop (p + 3))).1, (digsL 16 (s.data.toList.drop (p + 3))).2 + 3)).2 : Nat)]) ∧ Below w.heap.size w w' := by
  have HDG := hide (fun (c : UInt8) => rdigit_any c.toNat c.toNat_lt 16 (by omega) (by omega))
  have HNM := hide rnumber_any
  generalize hL : s.data.toList.drop (p + 3) = L
  have HL := hide hL
  clear hL
  generalize hR : (if (digsL 16 L).2 = 0 then (([] : List UInt8), 0) else ((digsL 16 L).1, (digsL 16 L).2 + 3)) = R
  have HR := hide hR
  clear hR
  have e1 := eq_lit _ 120 (by omega : ((s[p + 2]).toNat : Int) = 120)
  have e3 : (p : Int) + 2 < s.size := by omega
  clear hx
  go_enter Tryz.func59, Tryz.ntmps59
  go_wp2
  go_loop [6, 8, 9] (fun ti tn tk => ∃ k v : Nat, ti = .int .i64 ((p + 3 + k : Nat) : Int) ∧ tn = .int .i64 (capv v : Nat) ∧ tk = .int .i64 k ∧ p + 3 + k ≤ s.size ∧ Hid (NumSt 16 L (s.data.toList.drop (p + 3 + k)) k v)) (fun ti _ _ => s.size - (intOf ti).toNat)
  case atStart => exact ⟨0, 0, by go_num, rfl, rfl, by omega, hide ⟨by rw [← HL.out] <;> simp, by rw [← HL.out] <;> rfl⟩⟩
  case round =>
    obtain ⟨k, v, rfl, rfl, rfl, hk, HN⟩ := hrel
    have hcl := capv_le v
    by_cases hlt : p + 3 + k < s.size
    · have hlt2 : (((p + 3 + k : Nat) : Int)) < s.size := by omega
      cases hd : digitB 16 s[p + 3 + k] with
      | some d =>
        have hz := digitZ_some 16 s[p + 3 + k] d hd
        have hdl := digit_lt 16 _ d hd
        have hq := digs_yes 16 s[p + 3 + k] (s.data.toList.drop (p + 3 + k + 1)) d hd
        rw [← drop_cons s (p + 3 + k) hlt] at hq
        have hN2 : NumSt 16 L (s.data.toList.drop (p + 3 + (k + 1))) (k + 1) (v * 16 + d) := by
          obtain ⟨n1, n2⟩ := HN.out
          rw [hq.1] at n1
          rw [hq.2] at n2
          exact ⟨by rw [show p + 3 + (k + 1) = p + 3 + k + 1 by omega]; omega, n2⟩
        have HN2 := hide hN2
        have HD := hide (HDG.out s[p + 3 + k])
        rw [hz] at HD
        have hov := capv_over v 16 d (by omega)
        have hun := capv_under v 16 d (by omega)
        have HOV := hide hov
        have HUN := hide hun
        clear hz hq hN2 HN hd hov hun
        generalize hnx : p + 3 + k = x at *
        go_wp2_with fail
        refine (HD.out _).mono ?_
        rintro e w1 ⟨rfl, rfl⟩
        by_cases hc : 1114111 < capv v * 16 + d
        · have hc2 : (1114111 : Int) < (capv v : Int) * 16 + d := by omega
          have HCV := hide (HOV.out hc)
          clear hc
          go_wp2_with fail
          refine (HD.out _).mono ?_
          rintro e w2 ⟨rfl, rfl⟩
          go_wp2
          go_round
          case rel => exact ⟨k + 1, v * 16 + d, by (refine congrArg _ ?_; omega), by rw [HCV.out]; rfl, by go_num, by omega, HN2⟩
          case measure => simp [intOf]; omega
        · have hc2 : ¬ (1114111 : Int) < (capv v : Int) * 16 + d := by omega
          have HCV := hide (HUN.out hc)
          clear hc
          go_wp2_with fail
          refine (HD.out _).mono ?_
          rintro e w2 ⟨rfl, rfl⟩
          go_wp2
          go_round
          case rel => exact ⟨k + 1, v * 16 + d, by (refine congrArg _ ?_; omega), by rw [HCV.out]; go_num, by go_num, by omega, HN2⟩
          case measure => simp [intOf]; omega
      | none =>
        have hz := digitZ_none 16 s[p + 3 + k] hd
        have hq := digs_no 16 s[p + 3 + k] (s.data.toList.drop (p + 3 + k + 1)) hd
        rw [← drop_cons s (p + 3 + k) hlt] at hq
        obtain ⟨n1, n2⟩ := HN.out
        rw [hq.1, Nat.add_zero] at n1
        rw [hq.2] at n2
        have hsm : semiN (L.drop k) = if (s[p + 3 + k]).toNat = 59 then 1 else 0 := by
          rw [← HL.out, List.drop_drop, drop_cons s (p + 3 + k) hlt]
          unfold semiN
          simp only [List.head?_cons, Option.some.injEq]
          by_cases h59 : s[p + 3 + k] = 59
          · rw [if_pos h59, if_pos (by rw [h59]; rfl)]
          · rw [if_neg h59, if_neg (fun (e : (s[p + 3 + k]).toNat = 59) => h59 (UInt8.toNat_inj.1 e))]
        have HD := hide (HDG.out s[p + 3 + k])
        rw [hz] at HD
        have hRR : R = if k = 0 then (([] : List UInt8), 0) else (numberL (v : Nat), k + (if (s[p + 3 + k]).toNat = 59 then 1 else 0) + 3) := by
          rw [← HR.out]
          unfold digsL
          rw [n1, n2, hsm]
          by_cases hk0 : k = 0
          · rw [if_pos hk0, if_pos rfl, if_pos hk0]
          · rw [if_neg hk0, if_neg (by show ¬ k + _ = 0; omega), if_neg hk0]
        have HNU := hide (HNM.out (capv v : Nat))
        rw [capv_number] at HNU
        clear hz hq hd hsm n1 n2 HN
        generalize numberL (v : Nat) = T at *
        by_cases hk0 : k = 0
        · subst hk0
          have HRR : Hid (R = ([], 0)) := hide hRR
          clear hRR
          go_wp2_with fail
          refine (HD.out _).mono ?_
          rintro e w1 ⟨rfl, rfl⟩
          go_wp2
          go_ret2
          rw [HRR.out]
          exact ⟨rfl, Below.refl _ _⟩
        · have hk1 := ne_lit k 0 (by omega)
          rw [if_neg hk0] at hRR
          by_cases h59 : (s[p + 3 + k]).toNat = 59
          · have h592 := eq_lit _ 59 (by omega : ((s[p + 3 + k]).toNat : Int) = 59)
            rw [if_pos h59] at hRR
            have HRR := hide hRR
            clear h59 hRR
            generalize hnx : p + 3 + k = x at *
            go_wp2_with fail
            refine (HD.out _).mono ?_
            rintro e w1 ⟨rfl, rfl⟩
            go_wp2_with fail
            refine (HNU.out _).mono ?_
            rintro e w2 ⟨rfl, b2⟩
            go_wp2
            go_ret2
            refine ⟨?_, b2⟩
            rw [HRR.out, show (x : Int) + 1 - p = ((k + 1 + 3 : Nat) : Int) by omega]
            rfl
          · have h592 := ne_lit _ 59 (by omega : ((s[p + 3 + k]).toNat : Int) ≠ 59)
            rw [if_neg h59] at hRR
            have HRR := hide hRR
            clear h59 hRR
            generalize hnx : p + 3 + k = x at *
            go_wp2_with fail
            refine (HD.out _).mono ?_
            rintro e w1 ⟨rfl, rfl⟩
            go_wp2_with fail
            refine (HNU.out _).mono ?_
            rintro e w2 ⟨rfl, b2⟩
            go_wp2
            go_ret2
            refine ⟨?_, b2⟩
            rw [HRR.out, show (x : Int) - p = ((k + 0 + 3 : Nat) : Int) by omega]
            rfl
    · have hend : p + 3 + k = s.size := by omega
      obtain ⟨n1, n2⟩ := HN.out
      rw [drop_end s (p + 3 + k) (by omega)] at n1 n2
      have n1 : digsN 16 L = k := n1
      have n2 : valN 16 0 L = v := n2
      have hsm : semiN (L.drop k) = 0 := by
        rw [← HL.out, List.drop_drop, drop_end s (p + 3 + k) (by omega)]
        rfl
      have hRR : R = if k = 0 then (([] : List UInt8), 0) else (numberL (v : Nat), k + 3) := by
        rw [← HR.out]
        unfold digsL
        rw [n1, n2, hsm]
        show (if (if k = 0 then _ else (numberL (v : Nat), k + 0)).2 = 0 then _ else _) = _
        by_cases hk0 : k = 0
        · rw [if_pos hk0, if_pos rfl, if_pos hk0]
        · rw [if_neg hk0, if_neg (by show ¬ k + 0 = 0; omega), if_neg hk0] <;> rfl
      have HNU := hide (HNM.out (capv v : Nat))
      rw [capv_number] at HNU
      clear hsm n1 n2 HN
      generalize numberL (v : Nat) = T at *
      have hlt2 : ¬ (((p + 3 + k : Nat) : Int)) < s.size := by omega
      clear hend
      by_cases hk0 : k = 0
      · subst hk0
        have HRR : Hid (R = ([], 0)) := hide hRR
        clear hRR
        go_wp2
        all_goals go_ret2
        all_goals rw [HRR.out]
        all_goals exact ⟨rfl, Below.refl _ _⟩
      · have hk1 := ne_lit k 0 (by omega)
        rw [if_neg hk0] at hRR
        have HRR := hide hRR
        clear hRR
        generalize hnx : p + 3 + k = x at *
        go_wp2_with fail
        refine (HNU.out _).mono ?_
        rintro e w2 ⟨rfl, b2⟩
        go_wp2
        go_ret2
        refine ⟨?_, b2⟩
        rw [HRR.out, show (x : Int) - p = ((k + 3 : Nat) : Int) by omega]
        rfl

set_option maxHeartbeats 4000000 in
theorem rnum_X (s : ByteArray) (hs : s.size ≤ 1000000) (p : Nat) (hp : p + 2 < s.size) (hX : (s[p + 2]).toNat = 88) (w : World) :
    Calls Tryz.prog 59 #[.string s, .int .i64 (p : Int)] w fun e w' => e = .returned (.tuple #[.string ⟨((if (digsL 16 (s.data.toList.drop (p + 3))).2 = 0 then (([] : List UInt8), 0) else ((digsL 16 (s.data.toList.drop (p + 3))).1, (digsL 16 (s.data.toList.drop (p + 3))).2 + 3)).1).toArray⟩, .int .i64 ((if (digsL 16 (s.data.toList.drop (p + 3))).2 = 0 then (([] : List UInt8), 0) else ((digsL 16 (s.data.toList.drop (p + 3))).1, (digsL 16 (s.data.toList.drop (p + 3))).2 + 3)).2 : Nat)]) ∧ Below w.heap.size w w' := by
  have HDG := hide (fun (c : UInt8) => rdigit_any c.toNat c.toNat_lt 16 (by omega) (by omega))
  have HNM := hide rnumber_any
  generalize hL : s.data.toList.drop (p + 3) = L
  have HL := hide hL
  clear hL
  generalize hR : (if (digsL 16 L).2 = 0 then (([] : List UInt8), 0) else ((digsL 16 L).1, (digsL 16 L).2 + 3)) = R
  have HR := hide hR
  clear hR
  have e1 := ne_lit _ 120 (by omega : ((s[p + 2]).toNat : Int) ≠ 120)
  have e2 := eq_lit _ 88 (by omega : ((s[p + 2]).toNat : Int) = 88)
  have e3 : (p : Int) + 2 < s.size := by omega
  clear hX
  go_enter Tryz.func59, Tryz.ntmps59
  go_wp2
  go_loop [6, 8, 9] (fun ti tn tk => ∃ k v : Nat, ti = .int .i64 ((p + 3 + k : Nat) : Int) ∧ tn = .int .i64 (capv v : Nat) ∧ tk = .int .i64 k ∧ p + 3 + k ≤ s.size ∧ Hid (NumSt 16 L (s.data.toList.drop (p + 3 + k)) k v)) (fun ti _ _ => s.size - (intOf ti).toNat)
  case atStart => exact ⟨0, 0, by go_num, rfl, rfl, by omega, hide ⟨by rw [← HL.out] <;> simp, by rw [← HL.out] <;> rfl⟩⟩
  case round =>
    obtain ⟨k, v, rfl, rfl, rfl, hk, HN⟩ := hrel
    have hcl := capv_le v
    by_cases hlt : p + 3 + k < s.size
    · have hlt2 : (((p + 3 + k : Nat) : Int)) < s.size := by omega
      cases hd : digitB 16 s[p + 3 + k] with
      | some d =>
        have hz := digitZ_some 16 s[p + 3 + k] d hd
        have hdl := digit_lt 16 _ d hd
        have hq := digs_yes 16 s[p + 3 + k] (s.data.toList.drop (p + 3 + k + 1)) d hd
        rw [← drop_cons s (p + 3 + k) hlt] at hq
        have hN2 : NumSt 16 L (s.data.toList.drop (p + 3 + (k + 1))) (k + 1) (v * 16 + d) := by
          obtain ⟨n1, n2⟩ := HN.out
          rw [hq.1] at n1
          rw [hq.2] at n2
          exact ⟨by rw [show p + 3 + (k + 1) = p + 3 + k + 1 by omega]; omega, n2⟩
        have HN2 := hide hN2
        have HD := hide (HDG.out s[p + 3 + k])
        rw [hz] at HD
        have hov := capv_over v 16 d (by omega)
        have hun := capv_under v 16 d (by omega)
        have HOV := hide hov
        have HUN := hide hun
        clear hz hq hN2 HN hd hov hun
        generalize hnx : p + 3 + k = x at *
        go_wp2_with fail
        refine (HD.out _).mono ?_
        rintro e w1 ⟨rfl, rfl⟩
        by_cases hc : 1114111 < capv v * 16 + d
        · have hc2 : (1114111 : Int) < (capv v : Int) * 16 + d := by omega
          have HCV := hide (HOV.out hc)
          clear hc
          go_wp2_with fail
          refine (HD.out _).mono ?_
          rintro e w2 ⟨rfl, rfl⟩
          go_wp2
          go_round
          case rel => exact ⟨k + 1, v * 16 + d, by (refine congrArg _ ?_; omega), by rw [HCV.out]; rfl, by go_num, by omega, HN2⟩
          case measure => simp [intOf]; omega
        · have hc2 : ¬ (1114111 : Int) < (capv v : Int) * 16 + d := by omega
          have HCV := hide (HUN.out hc)
          clear hc
          go_wp2_with fail
          refine (HD.out _).mono ?_
          rintro e w2 ⟨rfl, rfl⟩
          go_wp2
          go_round
          case rel => exact ⟨k + 1, v * 16 + d, by (refine congrArg _ ?_; omega), by rw [HCV.out]; go_num, by go_num, by omega, HN2⟩
          case measure => simp [intOf]; omega
      | none =>
        have hz := digitZ_none 16 s[p + 3 + k] hd
        have hq := digs_no 16 s[p + 3 + k] (s.data.toList.drop (p + 3 + k + 1)) hd
        rw [← drop_cons s (p + 3 + k) hlt] at hq
        obtain ⟨n1, n2⟩ := HN.out
        rw [hq.1, Nat.add_zero] at n1
        rw [hq.2] at n2
        have hsm : semiN (L.drop k) = if (s[p + 3 + k]).toNat = 59 then 1 else 0 := by
          rw [← HL.out, List.drop_drop, drop_cons s (p + 3 + k) hlt]
          unfold semiN
          simp only [List.head?_cons, Option.some.injEq]
          by_cases h59 : s[p + 3 + k] = 59
          · rw [if_pos h59, if_pos (by rw [h59]; rfl)]
          · rw [if_neg h59, if_neg (fun (e : (s[p + 3 + k]).toNat = 59) => h59 (UInt8.toNat_inj.1 e))]
        have HD := hide (HDG.out s[p + 3 + k])
        rw [hz] at HD
        have hRR : R = if k = 0 then (([] : List UInt8), 0) else (numberL (v : Nat), k + (if (s[p + 3 + k]).toNat = 59 then 1 else 0) + 3) := by
          rw [← HR.out]
          unfold digsL
          rw [n1, n2, hsm]
          by_cases hk0 : k = 0
          · rw [if_pos hk0, if_pos rfl, if_pos hk0]
          · rw [if_neg hk0, if_neg (by show ¬ k + _ = 0; omega), if_neg hk0]
        have HNU := hide (HNM.out (capv v : Nat))
        rw [capv_number] at HNU
        clear hz hq hd hsm n1 n2 HN
        generalize numberL (v : Nat) = T at *
        by_cases hk0 : k = 0
        · subst hk0
          have HRR : Hid (R = ([], 0)) := hide hRR
          clear hRR
          go_wp2_with fail
          refine (HD.out _).mono ?_
          rintro e w1 ⟨rfl, rfl⟩
          go_wp2
          go_ret2
          rw [HRR.out]
          exact ⟨rfl, Below.refl _ _⟩
        · have hk1 := ne_lit k 0 (by omega)
          rw [if_neg hk0] at hRR
          by_cases h59 : (s[p + 3 + k]).toNat = 59
          · have h592 := eq_lit _ 59 (by omega : ((s[p + 3 + k]).toNat : Int) = 59)
            rw [if_pos h59] at hRR
            have HRR := hide hRR
            clear h59 hRR
            generalize hnx : p + 3 + k = x at *
            go_wp2_with fail
            refine (HD.out _).mono ?_
            rintro e w1 ⟨rfl, rfl⟩
            go_wp2_with fail
            refine (HNU.out _).mono ?_
            rintro e w2 ⟨rfl, b2⟩
            go_wp2
            go_ret2
            refine ⟨?_, b2⟩
            rw [HRR.out, show (x : Int) + 1 - p = ((k + 1 + 3 : Nat) : Int) by omega]
            rfl
          · have h592 := ne_lit _ 59 (by omega : ((s[p + 3 + k]).toNat : Int) ≠ 59)
            rw [if_neg h59] at hRR
            have HRR := hide hRR
            clear h59 hRR
            generalize hnx : p + 3 + k = x at *
            go_wp2_with fail
            refine (HD.out _).mono ?_
            rintro e w1 ⟨rfl, rfl⟩
            go_wp2_with fail
            refine (HNU.out _).mono ?_
            rintro e w2 ⟨rfl, b2⟩
            go_wp2
            go_ret2
            refine ⟨?_, b2⟩
            rw [HRR.out, show (x : Int) - p = ((k + 0 + 3 : Nat) : Int) by omega]
            rfl
    · have hend : p + 3 + k = s.size := by omega
      obtain ⟨n1, n2⟩ := HN.out
      rw [drop_end s (p + 3 + k) (by omega)] at n1 n2
      have n1 : digsN 16 L = k := n1
      have n2 : valN 16 0 L = v := n2
      have hsm : semiN (L.drop k) = 0 := by
        rw [← HL.out, List.drop_drop, drop_end s (p + 3 + k) (by omega)]
        rfl
      have hRR : R = if k = 0 then (([] : List UInt8), 0) else (numberL (v : Nat), k + 3) := by
        rw [← HR.out]
        unfold digsL
        rw [n1, n2, hsm]
        show (if (if k = 0 then _ else (numberL (v : Nat), k + 0)).2 = 0 then _ else _) = _
        by_cases hk0 : k = 0
        · rw [if_pos hk0, if_pos rfl, if_pos hk0]
        · rw [if_neg hk0, if_neg (by show ¬ k + 0 = 0; omega), if_neg hk0] <;> rfl
      have HNU := hide (HNM.out (capv v : Nat))
      rw [capv_number] at HNU
      clear hsm n1 n2 HN
      generalize numberL (v : Nat) = T at *
      have hlt2 : ¬ (((p + 3 + k : Nat) : Int)) < s.size := by omega
      clear hend
      by_cases hk0 : k = 0
      · subst hk0
        have HRR : Hid (R = ([], 0)) := hide hRR
        clear hRR
        go_wp2
        all_goals go_ret2
        all_goals rw [HRR.out]
        all_goals exact ⟨rfl, Below.refl _ _⟩
      · have hk1 := ne_lit k 0 (by omega)
        rw [if_neg hk0] at hRR
        have HRR := hide hRR
        clear hRR
        generalize hnx : p + 3 + k = x at *
        go_wp2_with fail
        refine (HNU.out _).mono ?_
        rintro e w2 ⟨rfl, b2⟩
        go_wp2
        go_ret2
        refine ⟨?_, b2⟩
        rw [HRR.out, show (x : Int) - p = ((k + 3 : Nat) : Int) by omega]
        rfl

/-- number, at whatever place. -/
theorem rnumref_any (s : ByteArray) (hs : s.size ≤ 1000000) (p : Nat) (hp : p + 2 ≤ s.size) (w : World) :
    Calls Tryz.prog 59 #[.string s, .int .i64 (p : Int)] w fun e w' => e = .returned (.tuple #[.string ⟨((numL (s.data.toList.drop (p + 2))).1).toArray⟩, .int .i64 ((numL (s.data.toList.drop (p + 2))).2 : Nat)]) ∧ Below w.heap.size w w' := by
  by_cases h : p + 2 = s.size
  · have e := drop_end s (p + 2) (by omega)
    have hh := rnum_none s hs p h w
    rw [e] at hh ⊢
    exact hh
  · have e := drop_cons s (p + 2) (by omega)
    by_cases hx : (s[p + 2]).toNat = 120
    · have hh := rnum_x s hs p (by omega) hx w
      have e2 : numL (s.data.toList.drop (p + 2)) = if (digsL 16 (s.data.toList.drop (p + 3))).2 = 0 then (([] : List UInt8), 0) else ((digsL 16 (s.data.toList.drop (p + 3))).1, (digsL 16 (s.data.toList.drop (p + 3))).2 + 3) := by
        rw [e]
        unfold numL
        simp only
        rw [if_pos (.inl (UInt8.toNat_inj.1 hx))]
      rw [e2]
      exact hh
    · by_cases hX : (s[p + 2]).toNat = 88
      · have hh := rnum_X s hs p (by omega) hX w
        have e2 : numL (s.data.toList.drop (p + 2)) = if (digsL 16 (s.data.toList.drop (p + 3))).2 = 0 then (([] : List UInt8), 0) else ((digsL 16 (s.data.toList.drop (p + 3))).1, (digsL 16 (s.data.toList.drop (p + 3))).2 + 3) := by
          rw [e]
          unfold numL
          simp only
          rw [if_pos (.inr (UInt8.toNat_inj.1 hX))]
        rw [e2]
        exact hh
      · have hh := rnum_10 s hs p (by omega) hx hX w
        have e2 : numL (s.data.toList.drop (p + 2)) = if (digsL 10 (s.data.toList.drop (p + 2))).2 = 0 then (([] : List UInt8), 0) else ((digsL 10 (s.data.toList.drop (p + 2))).1, (digsL 10 (s.data.toList.drop (p + 2))).2 + 2) := by
          rw [e]
          unfold numL
          simp only
          rw [if_neg (by rintro (h1 | h1) <;> rw [h1] at hx hX <;> simp at hx hX)]
        rw [e2]
        exact hh
end Go.Proofs.YtlfjmgniflkapaaGreatDoor
