/- The program's beginsLike, endTag, withoutOpenEnd. -/
import Derived.Test.YtlfjmgniflkapaaDoorRdH
set_option linter.unusedVariables false
set_option linter.unusedSimpArgs false
namespace Go.Proofs.YtlfjmgniflkapaaDoor
open Go.RowKit

set_option maxHeartbeats 1000000 in
theorem like_any (s t : ByteArray) (hs : s.size ≤ 100000) (w : World) :
    Calls Tryd.prog 39 #[.string s, .string t] w fun e w' => e = .returned (.bool (likeB t.data.toList s.data.toList)) ∧ Below w.heap.size w w' := by
  unfold likeB
  rw [← size_list, ← size_list]
  by_cases h : t.size ≤ s.size
  · have hz : (t.size : Int) ≤ s.size := by omega
    have hx : (s.extract 0 t.size).data.toList = s.data.toList.take t.size := by rw [Lib.extract_data]; simp
    have hL := fun w => plower_any (s.extract 0 t.size) (by rw [ByteArray.size_extract]; omega) w
    rw [hx] at hL
    have HL := hide hL
    have heq : ((⟨(lowerL (s.data.toList.take t.size)).toArray⟩ : ByteArray).toList == t.toList) = (lowerL (s.data.toList.take t.size) == t.data.toList) := by rw [Lib.toList_data, Lib.toList_data, str_data]
    rw [show decide (t.size ≤ s.size) = true by simp [h], Bool.true_and]
    clear hL hx
    generalize (lowerL (s.data.toList.take t.size) == t.data.toList) = B at *
    generalize (⟨(lowerL (s.data.toList.take t.size)).toArray⟩ : ByteArray) = y at *
    go_enter Tryd.func39, Tryd.ntmps39
    go_wp2_with fail
    refine (HL.out _).mono ?_
    rintro e w1 ⟨rfl, b1⟩
    have HB := hide b1
    clear b1
    go_wp2
    go_ret
    exact ⟨rfl, HB.out⟩
  · have hz : ¬ (t.size : Int) ≤ s.size := by omega
    rw [show decide (t.size ≤ s.size) = false by simp [h], Bool.false_and]
    go_enter Tryd.func39, Tryd.ntmps39
    go_wp2
    go_ret
    exact ⟨rfl, Below.refl _ _⟩

theorem stop_form (n r q : List UInt8) (h : r = 60 :: 47 :: q) : stopB n r = (likeB (lowerL n) q && (match q[n.length]? with | some c => hasB [32, 47, 62] c | none => false)) := by
  subst h
  unfold stopB likeB
  rw [plower_length]
  have e1 : ([60, 47] : List UInt8).isPrefixOf (60 :: 47 :: q) = true := by simp [List.isPrefixOf]
  rw [e1, Bool.true_and, show (60 :: 47 :: q).drop 2 = q from rfl, show (60 :: 47 :: q)[2 + n.length]? = q[n.length]? by rw [Nat.add_comm]; rfl]
  have e2 : ∀ c, (isSp c || c == 47 || c == 62) = hasB [32, 47, 62] c := fun c => by
    have := has_name c
    unfold nameB at this
    exact Bool.not_inj this
  by_cases hl : n.length < q.length
  · rw [List.getElem?_eq_getElem hl]
    simp only [e2]
    rw [show decide (n.length ≤ q.length) = true by simp; omega, Bool.true_and]
  · rw [List.getElem?_eq_none (by omega)]
    simp
theorem stop_pre (n r : List UInt8) (h : ([60, 47] : List UInt8).isPrefixOf r = false) : stopB n r = false := by
  unfold stopB
  rw [h]
  rfl
theorem pre2 (r : List UInt8) (h : ([60, 47] : List UInt8).isPrefixOf r = true) : ∃ q, r = 60 :: 47 :: q := by
  obtain ⟨q, rfl⟩ := List.isPrefixOf_iff_prefix.1 h
  exact ⟨q, rfl⟩

set_option maxHeartbeats 1000000 in
theorem endTag_any (s : ByteArray) (hs : s.size ≤ 100000) (n : List UInt8) (w : World) :
    Calls Tryd.prog 26 #[.string s, .string ⟨(lowerL n).toArray⟩] w fun e w' => e = .returned (.bool (stopB n s.data.toList)) ∧ Below w.heap.size w w' := by
  have hC := Tryd.strings_CutPrefix s ⟨#[60, 47]⟩
  cases hb : ([60, 47] : List UInt8).isPrefixOf s.data.toList with
  | false =>
    rw [stop_pre n _ hb]
    have HC : Hid (∀ w, Calls Tryd.prog 43 #[.string s, .string ⟨#[60, 47]⟩] w fun e w' => e = .returned (.tuple #[.string s, .bool false]) ∧ w' = w) := by
      refine hide fun w => ?_
      refine (hC w).mono ?_
      rintro e w1 ⟨rfl, rfl⟩
      refine ⟨?_, rfl⟩
      have e1 : Lib.hasPrefix s.data.toList (⟨#[60, 47]⟩ : ByteArray).data.toList = false := hb
      unfold Lib.trimPrefix
      rw [e1, if_neg (by decide), ← str_of s _ rfl]
    clear hC hb
    go_enter Tryd.func26, Tryd.ntmps26
    go_wp2_with fail
    refine (HC.out _).mono ?_
    rintro e w1 ⟨rfl, rfl⟩
    go_wp2
    go_ret
    exact ⟨rfl, Below.refl _ _⟩
  | true =>
    obtain ⟨q, hq⟩ := pre2 _ hb
    rw [stop_form n _ q hq]
    have HC : Hid (∀ w, Calls Tryd.prog 43 #[.string s, .string ⟨#[60, 47]⟩] w fun e w' => e = .returned (.tuple #[.string ⟨q.toArray⟩, .bool true]) ∧ w' = w) := by
      refine hide fun w => ?_
      refine (hC w).mono ?_
      rintro e w1 ⟨rfl, rfl⟩
      refine ⟨?_, rfl⟩
      have e1 : Lib.hasPrefix s.data.toList (⟨#[60, 47]⟩ : ByteArray).data.toList = true := hb
      unfold Lib.trimPrefix
      rw [e1, if_pos rfl, hq]
      rfl
    have hql : q.length ≤ s.size := by rw [size_list, hq]; simp; omega
    have hQ : (⟨q.toArray⟩ : ByteArray).size = q.length := by rw [size_list, str_data]
    have hN : (⟨(lowerL n).toArray⟩ : ByteArray).size = n.length := by rw [size_list, str_data, plower_length]
    have hLK := like_any ⟨q.toArray⟩ ⟨(lowerL n).toArray⟩ (by omega)
    have HLK : Hid (∀ w, Calls Tryd.prog 39 #[.string ⟨q.toArray⟩, .string ⟨(lowerL n).toArray⟩] w fun e w' => e = .returned (.bool (likeB (lowerL n) q)) ∧ Below w.heap.size w w') := hide hLK
    clear hLK hC hb
    by_cases hl : n.length < q.length
    · rw [List.getElem?_eq_getElem hl]
      simp only
      have hix : ∀ w, (Instr.index 9 (.string ⟨q.toArray⟩) (.int .i64 ((⟨(lowerL n).toArray⟩ : ByteArray).size : Int))).run Tryd.prog w = .ok (.int .u8 (q[n.length].toNat : Int)) w := fun w => run_index_at ⟨q.toArray⟩ n.length ((⟨(lowerL n).toArray⟩ : ByteArray).size : Int) (by omega) (by omega) w
      have HH := hide (has_any ⟨#[32, 47, 62]⟩ q[n.length])
      have hgt : ((⟨(lowerL n).toArray⟩ : ByteArray).size : Int) < ((⟨q.toArray⟩ : ByteArray).size : Int) := by omega
      have HHB : Hid (hasB (⟨#[32, 47, 62]⟩ : ByteArray).data.toList q[n.length] = hasB [32, 47, 62] q[n.length]) := rfl
      clear hQ hN
      generalize hasB [32, 47, 62] q[n.length] = H at *
      generalize q[n.length] = c at *
      generalize (⟨q.toArray⟩ : ByteArray) = Q at *
      generalize (⟨(lowerL n).toArray⟩ : ByteArray) = N at *
      have HH2 : Hid (∀ w, Calls Tryd.prog 44 #[.string ⟨#[32, 47, 62]⟩, .int .u8 (c.toNat : Int)] w fun e w' => e = .returned (.bool H) ∧ w' = w) := by
        rw [← HHB.out]; exact HH
      clear HH HHB
      generalize likeB (lowerL n) q = L at *
      cases L with
      | false =>
        go_enter Tryd.func26, Tryd.ntmps26
        go_wp2_with fail
        refine (HC.out _).mono ?_
        rintro e w1 ⟨rfl, rfl⟩
        go_wp2_with fail
        refine (HLK.out _).mono ?_
        rintro e w2 ⟨rfl, b2⟩
        have HB := hide b2
        clear b2
        go_wp2
        go_ret
        exact ⟨rfl, HB.out⟩
      | true =>
        rw [Bool.true_and]
        go_enter Tryd.func26, Tryd.ntmps26
        go_wp2_with fail
        refine (HC.out _).mono ?_
        rintro e w1 ⟨rfl, rfl⟩
        go_wp2_with fail
        refine (HLK.out _).mono ?_
        rintro e w2 ⟨rfl, b2⟩
        have HB := hide b2
        clear b2
        go_wp2_with fail
        refine (HH2.out _).mono ?_
        rintro e w3 ⟨rfl, rfl⟩
        go_wp2
        go_ret
        exact ⟨rfl, HB.out⟩
    · rw [List.getElem?_eq_none (by omega)]
      simp only [Bool.and_false]
      have hgt : ¬ ((⟨(lowerL n).toArray⟩ : ByteArray).size : Int) < ((⟨q.toArray⟩ : ByteArray).size : Int) := by omega
      clear hQ hN HLK
      generalize (⟨q.toArray⟩ : ByteArray) = Q at *
      generalize (⟨(lowerL n).toArray⟩ : ByteArray) = N at *
      go_enter Tryd.func26, Tryd.ntmps26
      go_wp2_with fail
      refine (HC.out _).mono ?_
      rintro e w1 ⟨rfl, rfl⟩
      go_wp2
      go_ret
      exact ⟨rfl, Below.refl _ _⟩

theorem suf_cut (s t : ByteArray) (hs : s.size ≤ 100000) (B : Bool) (h : t.data.toList.isSuffixOf s.data.toList = B) (w : World) :
    Calls Tryd.prog 68 #[.string s, .string t] w fun e w' => e = .returned (.tuple #[.string ⟨(if B then s.data.toList.take (s.data.toList.length - t.data.toList.length) else s.data.toList).toArray⟩, .bool B]) ∧ w' = w := by
  have := Tryd.strings_CutSuffix s t w (by omega)
  unfold Lib.trimSuffix Lib.hasSuffix at this
  rw [h] at this
  exact this
def ends3 : Value := .agg #[.string ⟨#[45, 45, 33]⟩, .string ⟨#[45, 45]⟩, .string ⟨#[45]⟩]
theorem ends_0 (w : World) : (Instr.index 85 (.agg #[.string ⟨#[45, 45, 33]⟩, .string ⟨#[45, 45]⟩, .string ⟨#[45]⟩]) (.int .i64 0)).run Tryd.prog w = .ok (.string ⟨#[45, 45, 33]⟩) w := by kernel_rfl
theorem ends_1 (w : World) : (Instr.index 85 (.agg #[.string ⟨#[45, 45, 33]⟩, .string ⟨#[45, 45]⟩, .string ⟨#[45]⟩]) (.int .i64 1)).run Tryd.prog w = .ok (.string ⟨#[45, 45]⟩) w := by kernel_rfl
theorem ends_2 (w : World) : (Instr.index 85 (.agg #[.string ⟨#[45, 45, 33]⟩, .string ⟨#[45, 45]⟩, .string ⟨#[45]⟩]) (.int .i64 2)).run Tryd.prog w = .ok (.string ⟨#[45]⟩) w := by kernel_rfl
set_option maxHeartbeats 1000000 in
theorem woe_any (s : ByteArray) (hs : s.size ≤ 100000) (w : World) :
    Calls Tryd.prog 54 #[.string s] w fun e w' => e = .returned (.string ⟨(trimC s.data.toList).toArray⟩) ∧ w' = w := by
  unfold trimC
  have i0 := ends_0
  have i1 := ends_1
  have i2 := ends_2
  cases h0 : ([45, 45, 33] : List UInt8).isSuffixOf s.data.toList with
  | true =>
    rw [if_pos rfl]
    have H0 := hide (suf_cut s ⟨#[45, 45, 33]⟩ hs true h0)
    clear h0
    generalize hX : (⟨(s.data.toList.take (s.data.toList.length - 3)).toArray⟩ : ByteArray) = x at *
    have HK : Hid (∀ w, Calls Tryd.prog 68 #[.string s, .string ⟨#[45, 45, 33]⟩] w fun e w' => e = .returned (.tuple #[.string x, .bool true]) ∧ w' = w) := by
      rw [← hX]; exact H0
    clear hX H0
    go_enter Tryd.func54, Tryd.ntmps54
    go_wp2
    refine wp_loop_rounds 4 ?_
    rw [rounds_succ]
    go_wp2_with fail
    refine (HK.out _).mono ?_
    rintro e w1 ⟨rfl, rfl⟩
    go_wp2
    go_ret
    exact ⟨rfl, rfl⟩
  | false =>
    rw [if_neg (by decide)]
    cases h1 : ([45, 45] : List UInt8).isSuffixOf s.data.toList with
    | true =>
      rw [if_pos rfl]
      have H0 := hide (suf_cut s ⟨#[45, 45, 33]⟩ hs false h0)
      have H1 := hide (suf_cut s ⟨#[45, 45]⟩ hs true h1)
      clear h0 h1
      generalize hX : (⟨(s.data.toList.take (s.data.toList.length - 2)).toArray⟩ : ByteArray) = x at *
      have HK : Hid (∀ w, Calls Tryd.prog 68 #[.string s, .string ⟨#[45, 45]⟩] w fun e w' => e = .returned (.tuple #[.string x, .bool true]) ∧ w' = w) := by
        rw [← hX]; exact H1
      clear hX H1
      have HN0 : Hid (∀ w, Calls Tryd.prog 68 #[.string s, .string ⟨#[45, 45, 33]⟩] w fun e w' => e = .returned (.tuple #[.string s, .bool false]) ∧ w' = w) := by
        have e := str_of s _ rfl
        refine hide fun w => ?_
        refine (H0.out w).mono ?_
        rintro e w1 ⟨rfl, rfl⟩
        refine ⟨?_, rfl⟩
        rw [if_neg (by decide), ← str_of s _ rfl]
      clear H0
      go_enter Tryd.func54, Tryd.ntmps54
      go_wp2
      refine wp_loop_rounds 4 ?_
      rw [rounds_succ]
      go_wp2_with fail
      refine (HN0.out _).mono ?_
      rintro e w1 ⟨rfl, rfl⟩
      go_wp2_with fail
      rw [rounds_succ]
      go_wp2_with fail
      refine (HK.out _).mono ?_
      rintro e w1 ⟨rfl, rfl⟩
      go_wp2
      go_ret
      exact ⟨rfl, rfl⟩
    | false =>
      rw [if_neg (by decide)]
      cases h2 : ([45] : List UInt8).isSuffixOf s.data.toList with
      | true =>
        rw [if_pos rfl]
        have H0 := hide (suf_cut s ⟨#[45, 45, 33]⟩ hs false h0)
        have H1 := hide (suf_cut s ⟨#[45, 45]⟩ hs false h1)
        have H2 := hide (suf_cut s ⟨#[45]⟩ hs true h2)
        clear h0 h1 h2
        generalize hX : (⟨(s.data.toList.take (s.data.toList.length - 1)).toArray⟩ : ByteArray) = x at *
        have HK : Hid (∀ w, Calls Tryd.prog 68 #[.string s, .string ⟨#[45]⟩] w fun e w' => e = .returned (.tuple #[.string x, .bool true]) ∧ w' = w) := by
          rw [← hX]; exact H2
        clear hX H2
        have HN0 : Hid (∀ w, Calls Tryd.prog 68 #[.string s, .string ⟨#[45, 45, 33]⟩] w fun e w' => e = .returned (.tuple #[.string s, .bool false]) ∧ w' = w) := by
          have e := str_of s _ rfl
          refine hide fun w => ?_
          refine (H0.out w).mono ?_
          rintro e w1 ⟨rfl, rfl⟩
          refine ⟨?_, rfl⟩
          rw [if_neg (by decide), ← str_of s _ rfl]
        clear H0
        have HN1 : Hid (∀ w, Calls Tryd.prog 68 #[.string s, .string ⟨#[45, 45]⟩] w fun e w' => e = .returned (.tuple #[.string s, .bool false]) ∧ w' = w) := by
          have e := str_of s _ rfl
          refine hide fun w => ?_
          refine (H1.out w).mono ?_
          rintro e w1 ⟨rfl, rfl⟩
          refine ⟨?_, rfl⟩
          rw [if_neg (by decide), ← str_of s _ rfl]
        clear H1
        go_enter Tryd.func54, Tryd.ntmps54
        go_wp2
        refine wp_loop_rounds 4 ?_
        rw [rounds_succ]
        go_wp2_with fail
        refine (HN0.out _).mono ?_
        rintro e w1 ⟨rfl, rfl⟩
        go_wp2_with fail
        rw [rounds_succ]
        go_wp2_with fail
        refine (HN1.out _).mono ?_
        rintro e w1 ⟨rfl, rfl⟩
        go_wp2_with fail
        rw [rounds_succ]
        go_wp2_with fail
        refine (HK.out _).mono ?_
        rintro e w1 ⟨rfl, rfl⟩
        go_wp2
        go_ret
        exact ⟨rfl, rfl⟩
      | false =>
        rw [if_neg (by decide)]
        have H0 := hide (suf_cut s ⟨#[45, 45, 33]⟩ hs false h0)
        have H1 := hide (suf_cut s ⟨#[45, 45]⟩ hs false h1)
        have H2 := hide (suf_cut s ⟨#[45]⟩ hs false h2)
        clear h0 h1 h2
        have HN0 : Hid (∀ w, Calls Tryd.prog 68 #[.string s, .string ⟨#[45, 45, 33]⟩] w fun e w' => e = .returned (.tuple #[.string s, .bool false]) ∧ w' = w) := by
          have e := str_of s _ rfl
          refine hide fun w => ?_
          refine (H0.out w).mono ?_
          rintro e w1 ⟨rfl, rfl⟩
          refine ⟨?_, rfl⟩
          rw [if_neg (by decide), ← str_of s _ rfl]
        clear H0
        have HN1 : Hid (∀ w, Calls Tryd.prog 68 #[.string s, .string ⟨#[45, 45]⟩] w fun e w' => e = .returned (.tuple #[.string s, .bool false]) ∧ w' = w) := by
          have e := str_of s _ rfl
          refine hide fun w => ?_
          refine (H1.out w).mono ?_
          rintro e w1 ⟨rfl, rfl⟩
          refine ⟨?_, rfl⟩
          rw [if_neg (by decide), ← str_of s _ rfl]
        clear H1
        have HN2 : Hid (∀ w, Calls Tryd.prog 68 #[.string s, .string ⟨#[45]⟩] w fun e w' => e = .returned (.tuple #[.string s, .bool false]) ∧ w' = w) := by
          have e := str_of s _ rfl
          refine hide fun w => ?_
          refine (H2.out w).mono ?_
          rintro e w1 ⟨rfl, rfl⟩
          refine ⟨?_, rfl⟩
          rw [if_neg (by decide), ← str_of s _ rfl]
        clear H2
        go_enter Tryd.func54, Tryd.ntmps54
        go_wp2
        refine wp_loop_rounds 4 ?_
        rw [rounds_succ]
        go_wp2_with fail
        refine (HN0.out _).mono ?_
        rintro e w1 ⟨rfl, rfl⟩
        go_wp2_with fail
        rw [rounds_succ]
        go_wp2_with fail
        refine (HN1.out _).mono ?_
        rintro e w1 ⟨rfl, rfl⟩
        go_wp2_with fail
        rw [rounds_succ]
        go_wp2_with fail
        refine (HN2.out _).mono ?_
        rintro e w1 ⟨rfl, rfl⟩
        go_wp2_with fail
        rw [rounds_succ]
        go_wp2
        go_ret
        exact ⟨by rw [← str_of s _ rfl]; rfl, rfl⟩
end Go.Proofs.YtlfjmgniflkapaaDoor
