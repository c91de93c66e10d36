import Derived.Test.YtfohijnkeefcfaaGreatDoorKn34
set_option linter.unusedVariables false
set_option linter.unusedSimpArgs false
set_option maxRecDepth 100000
set_option maxHeartbeats 8000000
namespace Go.Proofs.YtfohijnkeefcfaaGreatDoor.S4
open Go.RowKit
theorem like_any (s t : ByteArray) (hs : s.size <= 100000) (w : World) :
    Calls Tryz.prog 101 #[.string s, .string t] w fun e w' => e = .returned (.bool (likeB t.data.toList s.data.toList)) /\ Below w.heap.size w w' := by
  unfold likeB
  rw [<- size_list, <- size_list]
  by_cases h : t.size <= s.size
  · have hz : (t.size : Int) <= s.size := by omega
    have hx : (s.extract 0 t.size).data.toList = s.data.toList.take t.size := by rw [Lib.extract_data]; simp
    have hL := fun w => plower_any (s.extract 0 t.size) (by rw [ByteArray.size_extract]; omega) w
    rw [hx] at hL
    have HL := hide hL
    have heq : ((⟨(lowerL (s.data.toList.take t.size)).toArray⟩ : ByteArray).toList == t.toList) = (lowerL (s.data.toList.take t.size) == t.data.toList) := by rw [Lib.toList_data, Lib.toList_data, str_data]
    rw [show decide (t.size <= s.size) = true by simp [h], Bool.true_and]
    clear hL hx
    generalize (lowerL (s.data.toList.take t.size) == t.data.toList) = B at *
    generalize (⟨(lowerL (s.data.toList.take t.size)).toArray⟩ : ByteArray) = y at *
    go_enter Tryz.func101, Tryz.ntmps101
    go_wp2_with fail
    refine (HL.out _).mono ?_
    rintro e w1 ⟨rfl, b1⟩
    have HB := hide b1
    clear b1
    go_wp2
    go_ret
    exact ⟨rfl, HB.out⟩
  · have hz : ¬ (t.size : Int) <= s.size := by omega
    rw [show decide (t.size <= s.size) = false by simp [h], Bool.false_and]
    go_enter Tryz.func101, Tryz.ntmps101
    go_wp2
    go_ret
    exact ⟨rfl, Below.refl _ _⟩
theorem stop_form (n r q : List UInt8) (h : r = 60 :: 47 :: q) : stopB n r = (likeB (lowerL n) q && (match q[n.length]? with | some c => hasB [32, 47, 62] c | none => false)) := by
  subst h
  unfold stopB likeB
  rw [plower_length]
  have e1 : ([60, 47] : List UInt8).isPrefixOf (60 :: 47 :: q) = true := by simp [List.isPrefixOf]
  rw [e1, Bool.true_and, show (60 :: 47 :: q).drop 2 = q from rfl, show (60 :: 47 :: q)[2 + n.length]? = q[n.length]? by rw [Nat.add_comm]; rfl]
  have e2 : ∀ c, (isSp c || c == 47 || c == 62) = hasB [32, 47, 62] c := fun c => by
    have := has_name c
    unfold nameB at this
    exact Bool.not_inj this
  by_cases hl : n.length < q.length
  · rw [List.getElem?_eq_getElem hl]
    simp only [e2]
    rw [show decide (n.length <= q.length) = true by simp; omega, Bool.true_and]
  · rw [List.getElem?_eq_none (by omega)]
    simp
theorem stop_pre (n r : List UInt8) (h : ([60, 47] : List UInt8).isPrefixOf r = false) : stopB n r = false := by
  unfold stopB
  rw [h]
  rfl
theorem pre2 (r : List UInt8) (h : ([60, 47] : List UInt8).isPrefixOf r = true) : ∃ q, r = 60 :: 47 :: q := by
  obtain ⟨q, rfl⟩ := List.isPrefixOf_iff_prefix.1 h
  exact ⟨q, rfl⟩
theorem endTag_any (s : ByteArray) (hs : s.size <= 100000) (n : List UInt8) (w : World) :
    Calls Tryz.prog 90 #[.string s, .string ⟨(lowerL n).toArray⟩] w fun e w' => e = .returned (.bool (stopB n s.data.toList)) /\ Below w.heap.size w w' := by
  have hC := Tryz.strings_CutPrefix s ⟨#[60, 47]⟩
  cases hb : ([60, 47] : List UInt8).isPrefixOf s.data.toList with
  | false =>
    rw [stop_pre n _ hb]
    have HC : Hid (∀ w, Calls Tryz.prog 144 #[.string s, .string ⟨#[60, 47]⟩] w fun e w' => e = .returned (.tuple #[.string s, .bool false]) /\ w' = w) := by
      refine hide fun w => ?_
      refine (hC w).mono ?_
      rintro e w1 ⟨rfl, rfl⟩
      refine ⟨?_, rfl⟩
      have e1 : Lib.hasPrefix s.data.toList (⟨#[60, 47]⟩ : ByteArray).data.toList = false := hb
      unfold Lib.trimPrefix
      rw [e1, if_neg (by decide), <- str_of s _ rfl]
    clear hC hb
    go_enter Tryz.func90, Tryz.ntmps90
    go_wp2_with fail
    refine (HC.out _).mono ?_
    rintro e w1 ⟨rfl, rfl⟩
    go_wp2
    go_ret
    exact ⟨rfl, Below.refl _ _⟩
  | true =>
    obtain ⟨q, hq⟩ := pre2 _ hb
    rw [stop_form n _ q hq]
    have HC : Hid (∀ w, Calls Tryz.prog 144 #[.string s, .string ⟨#[60, 47]⟩] w fun e w' => e = .returned (.tuple #[.string ⟨q.toArray⟩, .bool true]) /\ w' = w) := by
      refine hide fun w => ?_
      refine (hC w).mono ?_
      rintro e w1 ⟨rfl, rfl⟩
      refine ⟨?_, rfl⟩
      have e1 : Lib.hasPrefix s.data.toList (⟨#[60, 47]⟩ : ByteArray).data.toList = true := hb
      unfold Lib.trimPrefix
      rw [e1, if_pos rfl, hq]
      rfl
    have hql : q.length <= s.size := by rw [size_list, hq]; simp; omega
    have hQ : (⟨q.toArray⟩ : ByteArray).size = q.length := by rw [size_list, str_data]
    have hN : (⟨(lowerL n).toArray⟩ : ByteArray).size = n.length := by rw [size_list, str_data, plower_length]
    have hLK := like_any ⟨q.toArray⟩ ⟨(lowerL n).toArray⟩ (by omega)
    have HLK : Hid (∀ w, Calls Tryz.prog 101 #[.string ⟨q.toArray⟩, .string ⟨(lowerL n).toArray⟩] w fun e w' => e = .returned (.bool (likeB (lowerL n) q)) /\ Below w.heap.size w w') := hide hLK
    clear hLK hC hb
    by_cases hl : n.length < q.length
    · rw [List.getElem?_eq_getElem hl]
      simp only
      have hix : ∀ w, (Instr.index 9 (.string ⟨q.toArray⟩) (.int .i64 ((⟨(lowerL n).toArray⟩ : ByteArray).size : Int))).run Tryz.prog w = .ok (.int .u8 (q[n.length].toNat : Int)) w := fun w => run_index_at ⟨q.toArray⟩ n.length ((⟨(lowerL n).toArray⟩ : ByteArray).size : Int) (by omega) (by omega) w
      have HH := hide (has_any ⟨#[32, 47, 62]⟩ q[n.length])
      have hgt : ((⟨(lowerL n).toArray⟩ : ByteArray).size : Int) < ((⟨q.toArray⟩ : ByteArray).size : Int) := by omega
      have HHB : Hid (hasB (⟨#[32, 47, 62]⟩ : ByteArray).data.toList q[n.length] = hasB [32, 47, 62] q[n.length]) := rfl
      clear hQ hN
      generalize hasB [32, 47, 62] q[n.length] = H at *
      generalize q[n.length] = c at *
      generalize (⟨q.toArray⟩ : ByteArray) = Q at *
      generalize (⟨(lowerL n).toArray⟩ : ByteArray) = N at *
      have HH2 : Hid (∀ w, Calls Tryz.prog 145 #[.string ⟨#[32, 47, 62]⟩, .int .u8 (c.toNat : Int)] w fun e w' => e = .returned (.bool H) /\ w' = w) := by
        rw [<- HHB.out]; exact HH
      clear HH HHB
      generalize likeB (lowerL n) q = L at *
      cases L with
      | false =>
        go_enter Tryz.func90, Tryz.ntmps90
        go_wp2_with fail
        refine (HC.out _).mono ?_
        rintro e w1 ⟨rfl, rfl⟩
        go_wp2_with fail
        refine (HLK.out _).mono ?_
        rintro e w2 ⟨rfl, b2⟩
        have HB := hide b2
        clear b2
        go_wp2
        go_ret
        exact ⟨rfl, HB.out⟩
      | true =>
        rw [Bool.true_and]
        go_enter Tryz.func90, Tryz.ntmps90
        go_wp2_with fail
        refine (HC.out _).mono ?_
        rintro e w1 ⟨rfl, rfl⟩
        go_wp2_with fail
        refine (HLK.out _).mono ?_
        rintro e w2 ⟨rfl, b2⟩
        have HB := hide b2
        clear b2
        go_wp2_with fail
        refine (HH2.out _).mono ?_
        rintro e w3 ⟨rfl, rfl⟩
        go_wp2
        go_ret
        exact ⟨rfl, HB.out⟩
    · rw [List.getElem?_eq_none (by omega)]
      simp only [Bool.and_false]
      have hgt : ¬ ((⟨(lowerL n).toArray⟩ : ByteArray).size : Int) < ((⟨q.toArray⟩ : ByteArray).size : Int) := by omega
      clear hQ hN HLK
      generalize (⟨q.toArray⟩ : ByteArray) = Q at *
      generalize (⟨(lowerL n).toArray⟩ : ByteArray) = N at *
      go_enter Tryz.func90, Tryz.ntmps90
      go_wp2_with fail
      refine (HC.out _).mono ?_
      rintro e w1 ⟨rfl, rfl⟩
      go_wp2
      go_ret
      exact ⟨rfl, Below.refl _ _⟩
theorem suf_cut (s t : ByteArray) (hs : s.size <= 100000) (B : Bool) (h : t.data.toList.isSuffixOf s.data.toList = B) (w : World) :
    Calls Tryz.prog 194 #[.string s, .string t] w fun e w' => e = .returned (.tuple #[.string ⟨(if B then s.data.toList.take (s.data.toList.length - t.data.toList.length) else s.data.toList).toArray⟩, .bool B]) /\ w' = w := by
  have := Tryz.strings_CutSuffix s t w (by omega)
  unfold Lib.trimSuffix Lib.hasSuffix at this
  rw [h] at this
  exact this
theorem ends_0 (w : World) : (Instr.index 186 (.agg #[.string ⟨#[45, 45, 33]⟩, .string ⟨#[45, 45]⟩, .string ⟨#[45]⟩]) (.int .i64 0)).run Tryz.prog w = .ok (.string ⟨#[45, 45, 33]⟩) w := by kernel_rfl
theorem ends_1 (w : World) : (Instr.index 186 (.agg #[.string ⟨#[45, 45, 33]⟩, .string ⟨#[45, 45]⟩, .string ⟨#[45]⟩]) (.int .i64 1)).run Tryz.prog w = .ok (.string ⟨#[45, 45]⟩) w := by kernel_rfl
theorem ends_2 (w : World) : (Instr.index 186 (.agg #[.string ⟨#[45, 45, 33]⟩, .string ⟨#[45, 45]⟩, .string ⟨#[45]⟩]) (.int .i64 2)).run Tryz.prog w = .ok (.string ⟨#[45]⟩) w := by kernel_rfl
theorem woe_any (s : ByteArray) (hs : s.size <= 100000) (w : World) :
    Calls Tryz.prog 153 #[.string s] w fun e w' => e = .returned (.string ⟨(trimC s.data.toList).toArray⟩) /\ w' = w := by
  unfold trimC
  have i0 := ends_0
  have i1 := ends_1
  have i2 := ends_2
  cases h0 : ([45, 45, 33] : List UInt8).isSuffixOf s.data.toList with
  | true =>
    rw [if_pos rfl]
    have H0 := hide (suf_cut s ⟨#[45, 45, 33]⟩ hs true h0)
    clear h0
    generalize hX : (⟨(s.data.toList.take (s.data.toList.length - 3)).toArray⟩ : ByteArray) = x at *
    have HK : Hid (∀ w, Calls Tryz.prog 194 #[.string s, .string ⟨#[45, 45, 33]⟩] w fun e w' => e = .returned (.tuple #[.string x, .bool true]) /\ w' = w) := by
      rw [<- hX]; exact H0
    clear hX H0
    go_enter Tryz.func153, Tryz.ntmps153
    go_wp2
    refine wp_loop_rounds 4 ?_
    rw [rounds_succ]
    go_wp2_with fail
    refine (HK.out _).mono ?_
    rintro e w1 ⟨rfl, rfl⟩
    go_wp2
    go_ret
    exact ⟨rfl, rfl⟩
  | false =>
    rw [if_neg (by decide)]
    cases h1 : ([45, 45] : List UInt8).isSuffixOf s.data.toList with
    | true =>
      rw [if_pos rfl]
      have H0 := hide (suf_cut s ⟨#[45, 45, 33]⟩ hs false h0)
      have H1 := hide (suf_cut s ⟨#[45, 45]⟩ hs true h1)
      clear h0 h1
      generalize hX : (⟨(s.data.toList.take (s.data.toList.length - 2)).toArray⟩ : ByteArray) = x at *
      have HK : Hid (∀ w, Calls Tryz.prog 194 #[.string s, .string ⟨#[45, 45]⟩] w fun e w' => e = .returned (.tuple #[.string x, .bool true]) /\ w' = w) := by
        rw [<- hX]; exact H1
      clear hX H1
      have HN0 : Hid (∀ w, Calls Tryz.prog 194 #[.string s, .string ⟨#[45, 45, 33]⟩] w fun e w' => e = .returned (.tuple #[.string s, .bool false]) /\ w' = w) := by
        have e := str_of s _ rfl
        refine hide fun w => ?_
        refine (H0.out w).mono ?_
        rintro e w1 ⟨rfl, rfl⟩
        refine ⟨?_, rfl⟩
        rw [if_neg (by decide), <- str_of s _ rfl]
      clear H0
      go_enter Tryz.func153, Tryz.ntmps153
      go_wp2
      refine wp_loop_rounds 4 ?_
      rw [rounds_succ]
      go_wp2_with fail
      refine (HN0.out _).mono ?_
      rintro e w1 ⟨rfl, rfl⟩
      go_wp2_with fail
      rw [rounds_succ]
      go_wp2_with fail
      refine (HK.out _).mono ?_
      rintro e w1 ⟨rfl, rfl⟩
      go_wp2
      go_ret
      exact ⟨rfl, rfl⟩
    | false =>
      rw [if_neg (by decide)]
      cases h2 : ([45] : List UInt8).isSuffixOf s.data.toList with
      | true =>
        rw [if_pos rfl]
        have H0 := hide (suf_cut s ⟨#[45, 45, 33]⟩ hs false h0)
        have H1 := hide (suf_cut s ⟨#[45, 45]⟩ hs false h1)
        have H2 := hide (suf_cut s ⟨#[45]⟩ hs true h2)
        clear h0 h1 h2
        generalize hX : (⟨(s.data.toList.take (s.data.toList.length - 1)).toArray⟩ : ByteArray) = x at *
        have HK : Hid (∀ w, Calls Tryz.prog 194 #[.string s, .string ⟨#[45]⟩] w fun e w' => e = .returned (.tuple #[.string x, .bool true]) /\ w' = w) := by
          rw [<- hX]; exact H2
        clear hX H2
        have HN0 : Hid (∀ w, Calls Tryz.prog 194 #[.string s, .string ⟨#[45, 45, 33]⟩] w fun e w' => e = .returned (.tuple #[.string s, .bool false]) /\ w' = w) := by
          have e := str_of s _ rfl
          refine hide fun w => ?_
          refine (H0.out w).mono ?_
          rintro e w1 ⟨rfl, rfl⟩
          refine ⟨?_, rfl⟩
          rw [if_neg (by decide), <- str_of s _ rfl]
        clear H0
        have HN1 : Hid (∀ w, Calls Tryz.prog 194 #[.string s, .string ⟨#[45, 45]⟩] w fun e w' => e = .returned (.tuple #[.string s, .bool false]) /\ w' = w) := by
          have e := str_of s _ rfl
          refine hide fun w => ?_
          refine (H1.out w).mono ?_
          rintro e w1 ⟨rfl, rfl⟩
          refine ⟨?_, rfl⟩
          rw [if_neg (by decide), <- str_of s _ rfl]
        clear H1
        go_enter Tryz.func153, Tryz.ntmps153
        go_wp2
        refine wp_loop_rounds 4 ?_
        rw [rounds_succ]
        go_wp2_with fail
        refine (HN0.out _).mono ?_
        rintro e w1 ⟨rfl, rfl⟩
        go_wp2_with fail
        rw [rounds_succ]
        go_wp2_with fail
        refine (HN1.out _).mono ?_
        rintro e w1 ⟨rfl, rfl⟩
        go_wp2_with fail
        rw [rounds_succ]
        go_wp2_with fail
        refine (HK.out _).mono ?_
        rintro e w1 ⟨rfl, rfl⟩
        go_wp2
        go_ret
        exact ⟨rfl, rfl⟩
      | false =>
        rw [if_neg (by decide)]
        have H0 := hide (suf_cut s ⟨#[45, 45, 33]⟩ hs false h0)
        have H1 := hide (suf_cut s ⟨#[45, 45]⟩ hs false h1)
        have H2 := hide (suf_cut s ⟨#[45]⟩ hs false h2)
        clear h0 h1 h2
        have HN0 : Hid (∀ w, Calls Tryz.prog 194 #[.string s, .string ⟨#[45, 45, 33]⟩] w fun e w' => e = .returned (.tuple #[.string s, .bool false]) /\ w' = w) := by
          have e := str_of s _ rfl
          refine hide fun w => ?_
          refine (H0.out w).mono ?_
          rintro e w1 ⟨rfl, rfl⟩
          refine ⟨?_, rfl⟩
          rw [if_neg (by decide), <- str_of s _ rfl]
        clear H0
        have HN1 : Hid (∀ w, Calls Tryz.prog 194 #[.string s, .string ⟨#[45, 45]⟩] w fun e w' => e = .returned (.tuple #[.string s, .bool false]) /\ w' = w) := by
          have e := str_of s _ rfl
          refine hide fun w => ?_
          refine (H1.out w).mono ?_
          rintro e w1 ⟨rfl, rfl⟩
          refine ⟨?_, rfl⟩
          rw [if_neg (by decide), <- str_of s _ rfl]
        clear H1
        have HN2 : Hid (∀ w, Calls Tryz.prog 194 #[.string s, .string ⟨#[45]⟩] w fun e w' => e = .returned (.tuple #[.string s, .bool false]) /\ w' = w) := by
          have e := str_of s _ rfl
          refine hide fun w => ?_
          refine (H2.out w).mono ?_
          rintro e w1 ⟨rfl, rfl⟩
          refine ⟨?_, rfl⟩
          rw [if_neg (by decide), <- str_of s _ rfl]
        clear H2
        go_enter Tryz.func153, Tryz.ntmps153
        go_wp2
        refine wp_loop_rounds 4 ?_
        rw [rounds_succ]
        go_wp2_with fail
        refine (HN0.out _).mono ?_
        rintro e w1 ⟨rfl, rfl⟩
        go_wp2_with fail
        rw [rounds_succ]
        go_wp2_with fail
        refine (HN1.out _).mono ?_
        rintro e w1 ⟨rfl, rfl⟩
        go_wp2_with fail
        rw [rounds_succ]
        go_wp2_with fail
        refine (HN2.out _).mono ?_
        rintro e w1 ⟨rfl, rfl⟩
        go_wp2_with fail
        rw [rounds_succ]
        go_wp2
        go_ret
        exact ⟨by rw [<- str_of s _ rfl]; rfl, rfl⟩
end Go.Proofs.YtfohijnkeefcfaaGreatDoor.S4
namespace Go.Proofs.YtfohijnkeefcfaaGreatDoor.S4
open Go.RowKit
theorem comment_p1 (s : ByteArray) (hs : s.size <= 20000) (b : Nat) (h2 : 2 <= b) (r : List UInt8) (h62 : ([62] : List UInt8).isPrefixOf r = true) (w : World) (hR : RdL w b s r) :
    Calls Tryz.prog 100 #[.pointer (some ⟨b, 0, none⟩)] w fun e w' => TokE w w' b s ({ kind := 4 }, r.drop 1) e := by
  have hlt := hR.lt
  have KR0 := hide (Kept.new w tok0 79)
  have B0 := hide ((But.refl b w).alloc (.cells tok0.toArray 79))
  have R0 := hide (hR.below (below_alloc w (.cells tok0.toArray 79)))
  have HK : Hid (∀ w, RdL w b s r -> Calls Tryz.prog 91 #[.pointer (some ⟨b, 0, none⟩), .string ⟨#[62]⟩] w fun e w' => e = .returned (.bool true) /\ RdL w' b s (r.drop 1) /\ But b w w') := hide (fun w (h : RdL w b s r) => skip_yes s (by omega) b r ⟨#[62]⟩ h62 w h)
  have HCT := hide (commentToken_any ⟨#[]⟩)
  clear hR h62
  generalize r.drop 1 = V at *
  go_enter Tryz.func100, Tryz.ntmps100
  go_wp2_with fail
  refine (HK.out _ R0.out).mono ?_
  rintro e w1 ⟨rfl, h3, h4⟩
  have R1 := hide h3
  have KR1 := hide (Kept.but KR0.out h4 (by omega))
  have B1 := hide (B0.out.trans h4)
  clear h3 h4 KR0 B0 R0
  go_wp2_with fail
  refine (HCT.out _).mono ?_
  rintro e w2 ⟨rfl, h4⟩
  have R2 := hide (R1.out.below h4)
  have KR2 := hide (Kept.below KR1.out h4)
  have B2 := hide (B1.out.trans (.of h4))
  clear h4 KR1 B1 R1
  obtain ⟨q0, q1, q2, q3, q4, qf⟩ := KR2.out.tok
  go_wp2
  refine bodyPost_ret (v := tokV { kind := 4 } (.slice none 0 0)) ?_ rfl ?_
  · rw [results_cell_one rfl]
    go_simp
    rfl
  · exact tokE_end { kind := 4 } B2.out R2.out hlt rfl
theorem comment_p2 (s : ByteArray) (hs : s.size <= 20000) (b : Nat) (h2 : 2 <= b) (r : List UInt8) (h62 : ([62] : List UInt8).isPrefixOf r = false) (h45 : ([45, 62] : List UInt8).isPrefixOf r = true) (w : World) (hR : RdL w b s r) :
    Calls Tryz.prog 100 #[.pointer (some ⟨b, 0, none⟩)] w fun e w' => TokE w w' b s ({ kind := 4 }, r.drop 2) e := by
  have hlt := hR.lt
  have KR0 := hide (Kept.new w tok0 79)
  have B0 := hide ((But.refl b w).alloc (.cells tok0.toArray 79))
  have R0 := hide (hR.below (below_alloc w (.cells tok0.toArray 79)))
  have HK := hide (fun w (h : RdL w b s r) => skip_no s (by omega) b r ⟨#[62]⟩ h62 w h)
  have HK2 : Hid (∀ w, RdL w b s r -> Calls Tryz.prog 91 #[.pointer (some ⟨b, 0, none⟩), .string ⟨#[45, 62]⟩] w fun e w' => e = .returned (.bool true) /\ RdL w' b s (r.drop 2) /\ But b w w') := hide (fun w (h : RdL w b s r) => skip_yes s (by omega) b r ⟨#[45, 62]⟩ h45 w h)
  have HCT := hide (commentToken_any ⟨#[]⟩)
  clear hR h62
  generalize r.drop 2 = V at *
  go_enter Tryz.func100, Tryz.ntmps100
  go_wp2_with fail
  refine (HK.out _ R0.out).mono ?_
  rintro e w1 ⟨rfl, h3, h4⟩
  have R1 := hide h3
  have KR1 := hide (Kept.but KR0.out h4 (by omega))
  have B1 := hide (B0.out.trans h4)
  clear h3 h4 KR0 B0 R0
  go_wp2_with fail
  refine (HK2.out _ R1.out).mono ?_
  rintro e w2 ⟨rfl, h3, h4⟩
  have R2 := hide h3
  have KR2 := hide (Kept.but KR1.out h4 (by omega))
  have B2 := hide (B1.out.trans h4)
  clear h3 h4 KR1 B1 R1
  go_wp2_with fail
  refine (HCT.out _).mono ?_
  rintro e w3 ⟨rfl, h4⟩
  have R3 := hide (R2.out.below h4)
  have KR3 := hide (Kept.below KR2.out h4)
  have B3 := hide (B2.out.trans (.of h4))
  clear h4 KR2 B2 R2
  obtain ⟨q0, q1, q2, q3, q4, qf⟩ := KR3.out.tok
  go_wp2
  refine bodyPost_ret (v := tokV { kind := 4 } (.slice none 0 0)) ?_ rfl ?_
  · rw [results_cell_one rfl]
    go_simp
    rfl
  · exact tokE_end { kind := 4 } B3.out R3.out hlt rfl
theorem RdL.at {w : World} {b : Nat} {s : ByteArray} {k : Nat} (h : RdL w b s (s.data.toList.drop k)) (hk : k <= s.size) : RdP w b s k := by
  obtain ⟨q, h1, h2, h3⟩ := h
  have hl := congrArg List.length h2
  rw [List.length_drop, List.length_drop, <- size_list] at hl
  obtain rfl : q = k := by omega
  exact h3
theorem comment_p3 (s : ByteArray) (hs : s.size <= 20000) (b : Nat) (h2 : 2 <= b) (r : List UInt8) (h62 : ([62] : List UInt8).isPrefixOf r = false) (h45 : ([45, 62] : List UInt8).isPrefixOf r = false) (w : World) (hR : RdL w b s r) :
    Calls Tryz.prog 100 #[.pointer (some ⟨b, 0, none⟩)] w fun e w' => TokE w w' b s ({ kind := 4, text := (restC r).1 }, (restC r).2) e := by
  have hlt := hR.lt
  have KR0 := hide (Kept.new w tok0 79)
  have B0 := hide ((But.refl b w).alloc (.cells tok0.toArray 79))
  have R0 := hide (hR.below (below_alloc w (.cells tok0.toArray 79)))
  have HK := hide (fun w (h : RdL w b s r) => skip_no s (by omega) b r ⟨#[62]⟩ h62 w h)
  have HK2 := hide (fun w (h : RdL w b s r) => skip_no s (by omega) b r ⟨#[45, 62]⟩ h45 w h)
  have HCT := hide commentToken_any
  have HWO := hide (woe_any)
  have HSK := hide (fun r' t w (h : RdL w b s r') => skip_any s (by omega) b r' t w h)
  have HDN := hide (fun r' w (h : RdL w b s r') => done_any s (by omega) b r' w h)
  have HP0 := hide (preC_start r)
  have HP1 := hide (preC_step r)
  have HP3 := hide (preC_3 r)
  have HP4 := hide (preC_4 r)
  have HPE := hide (preC_end r)
  clear hR h62 h45
  generalize hRC : restC r = RC at *
  have HRC := hide hRC
  clear hRC
  go_enter Tryz.func100, Tryz.ntmps100
  go_wp2_with fail
  refine (HK.out _ R0.out).mono ?_
  rintro e w1 ⟨rfl, h3, h4⟩
  have R1 := hide h3
  have KR1 := hide (Kept.but KR0.out h4 (by omega))
  have B1 := hide (B0.out.trans h4)
  clear h3 h4 KR0 B0 R0
  go_wp2_with fail
  refine (HK2.out _ R1.out).mono ?_
  rintro e w2 ⟨rfl, h3, h4⟩
  have KR2 := hide (Kept.but KR1.out h4 (by omega))
  have B2 := hide (B1.out.trans h4)
  obtain ⟨p, hp, hd, hP⟩ := h3
  have c1 := hP.c1
  have HPP := hide hP
  have HD := hide hd
  clear h4 KR1 B1 R1 hP hd HK HK2
  go_wp2
  go_loopg [] (s.size - p) (fun g wr => ∃ k : Nat, g = s.size - k /\ p <= k /\ k <= s.size /\ RdP wr b s k /\ But b w wr /\ Kept wr w.heap.size tok0 /\ Hid (PreC r (s.data.toList.drop k) (k - p)))
  case atStart => exact ⟨p, rfl, Nat.le_refl _, hp, HPP.out, B2.out, KR2.out, hide (by rw [HD.out, Nat.sub_self]; exact HP0.out)⟩
  case round =>
    obtain ⟨k, rfl, hpk, hk, hRk, hBk, hKk, HC⟩ := hrel
    have hdk : s.data.toList.drop k = r.drop (k - p) := by
      rw [<- HD.out, List.drop_drop, show p + (k - p) = k by omega]
    have hRL : RdL wr b s (s.data.toList.drop k) := ⟨k, hk, rfl, hRk⟩
    have HRL := hide hRL
    have HRk := hide hRk
    have HDN2 := hide (HDN.out _ wr hRL)
    have KRk := hide hKk
    have BBk := hide hBk
    clear hRL hBk hKk
    by_cases hlt2 : k < s.size
    · have hdc := drop_cons s k hlt2
      have hem : (s.data.toList.drop k).isEmpty = false := by rw [hdc]; rfl
      rw [hem] at HDN2
      have hcut := cutP s p k hpk hk (r.take (k - p)) (s.data.toList.drop k) (by rw [HD.out, hdk, List.take_append_drop]) rfl
      have HCUT := hide hcut
      have c0k := hRk.c0
      have c1k := hRk.c1
      have fzk := hRk.fz
      have hkk : (p : Int) <= k := by omega
      have hks : (k : Int) <= s.size := by omega
      clear hem hRk hcut
      cases hB3 : ([45, 45, 62] : List UInt8).isPrefixOf (s.data.toList.drop k) with
      | true =>
        have hf := HP3.out (k - p) (by rw [<- hdk]; exact hB3) (by rw [<- hdk]; exact HC.out)
        have HRC2 : Hid (RC = (r.take (k - p), (s.data.toList.drop k).drop 3)) := hide (by rw [<- HRC.out, restC_some r _ hf, hdk, List.drop_drop])
        have HS3 : Hid (∀ w, RdL w b s (s.data.toList.drop k) -> Calls Tryz.prog 91 #[.pointer (some ⟨b, 0, none⟩), .string ⟨#[45, 45, 62]⟩] w fun e w' => e = .returned (.bool true) /\ RdL w' b s ((s.data.toList.drop k).drop 3) /\ But b w w') := hide (fun w h => skip_yes s (by omega) b _ ⟨#[45, 45, 62]⟩ hB3 w h)
        clear hf hdk hdc HSK HDN HWO HP0 HP1 HP3 HP4 HPE HC HRC
        generalize (s.data.toList.drop k).drop 3 = V3 at *
        generalize r.take (k - p) = TX at *
        generalize s.data.toList.drop k = V at *
        go_wp2_with fail
        refine HDN2.out.mono ?_
        rintro e w3 ⟨rfl, n, rfl⟩
        go_wp2_with fail
        go_quiet (fail)
        go_wp2_with fail
        refine (HS3.out _ (HRL.out.drewN _)).mono ?_
        rintro e w4 ⟨rfl, h3, h4⟩
        have R4 := hide h3
        have KR4 := hide (Kept.but (KRk.out.drewN _) h4 (by omega))
        have BB4 := hide ((BBk.out.drewN _).trans h4)
        clear h3 h4 KRk BBk HRL HDN2 c0k c1k fzk HS3
        generalize hxx : s.extract p k = x at *
        have HX : Hid ((⟨TX.toArray⟩ : ByteArray) = x) := hide HCUT.out.symm
        clear hxx HCUT
        go_wp2_with fail
        refine (HCT.out x _).mono ?_
        rintro e w6 ⟨rfl, h4⟩
        have R6 := hide (R4.out.below h4)
        have KR6 := hide (Kept.below KR4.out h4)
        have BB6 := hide (BB4.out.trans (.of h4))
        clear h4 KR4 R4 BB4
        obtain ⟨q0, q1, q2, q3, q4, qf⟩ := KR6.out.tok
        go_wp2
        refine bodyPost_ret (v := tokV { kind := 4, text := TX } (.slice none 0 0)) ?_ rfl ?_
        · rw [results_cell_one rfl]
          go_simp
          rw [<- HX.out]
          rfl
        · rw [HRC2.out, <- HX.out]
          exact tokE_end { kind := 4, text := TX } BB6.out R6.out hlt rfl
      | false =>
        have HS3 := hide (fun w (h : RdL w b s (s.data.toList.drop k)) => skip_no s (by omega) b _ ⟨#[45, 45, 62]⟩ hB3 w h)
        cases hB4 : ([45, 45, 33, 62] : List UInt8).isPrefixOf (s.data.toList.drop k) with
        | true =>
          have hf := HP4.out (k - p) (by rw [<- hdk]; exact hB3) (by rw [<- hdk]; exact hB4) (by rw [<- hdk]; exact HC.out)
          have HRC2 : Hid (RC = (r.take (k - p), (s.data.toList.drop k).drop 4)) := hide (by rw [<- HRC.out, restC_some r _ hf, hdk, List.drop_drop])
          have HS4 : Hid (∀ w, RdL w b s (s.data.toList.drop k) -> Calls Tryz.prog 91 #[.pointer (some ⟨b, 0, none⟩), .string ⟨#[45, 45, 33, 62]⟩] w fun e w' => e = .returned (.bool true) /\ RdL w' b s ((s.data.toList.drop k).drop 4) /\ But b w w') := hide (fun w h => skip_yes s (by omega) b _ ⟨#[45, 45, 33, 62]⟩ hB4 w h)
          clear hf hdk hdc HSK HDN HWO HP0 HP1 HP3 HP4 HPE HC HRC hB3 hB4
          generalize (s.data.toList.drop k).drop 4 = V3 at *
          generalize r.take (k - p) = TX at *
          generalize s.data.toList.drop k = V at *
          go_wp2_with fail
          refine HDN2.out.mono ?_
          rintro e w3 ⟨rfl, n, rfl⟩
          go_wp2_with fail
          go_quiet (fail)
          go_wp2_with fail
          refine (HS3.out _ (HRL.out.drewN _)).mono ?_
          rintro e w4 ⟨rfl, h3, h4⟩
          have R4 := hide h3
          have KR4 := hide (Kept.but (KRk.out.drewN _) h4 (by omega))
          have BB4 := hide ((BBk.out.drewN _).trans h4)
          clear h3 h4 KRk BBk HRL HDN2 c0k c1k fzk HS3
          go_wp2_with fail
          refine (HS4.out _ R4.out).mono ?_
          rintro e w5 ⟨rfl, h3, h4⟩
          have R5 := hide h3
          have KR5 := hide (Kept.but KR4.out h4 (by omega))
          have BB5 := hide (BB4.out.trans h4)
          clear h3 h4 KR4 BB4 R4 HS4
          generalize hxx : s.extract p k = x at *
          have HX : Hid ((⟨TX.toArray⟩ : ByteArray) = x) := hide HCUT.out.symm
          clear hxx HCUT
          go_wp2_with fail
          refine (HCT.out x _).mono ?_
          rintro e w6 ⟨rfl, h4⟩
          have R6 := hide (R5.out.below h4)
          have KR6 := hide (Kept.below KR5.out h4)
          have BB6 := hide (BB5.out.trans (.of h4))
          clear h4 KR5 R5 BB5
          obtain ⟨q0, q1, q2, q3, q4, qf⟩ := KR6.out.tok
          go_wp2
          refine bodyPost_ret (v := tokV { kind := 4, text := TX } (.slice none 0 0)) ?_ rfl ?_
          · rw [results_cell_one rfl]
            go_simp
            rw [<- HX.out]
            rfl
          · rw [HRC2.out, <- HX.out]
            exact tokE_end { kind := 4, text := TX } BB6.out R6.out hlt rfl
        | false =>
          have HS4 := hide (fun w (h : RdL w b s (s.data.toList.drop k)) => skip_no s (by omega) b _ ⟨#[45, 45, 33, 62]⟩ hB4 w h)
          have HC2 : Hid (PreC r (s.data.toList.drop (k + 1)) (k + 1 - p)) := by
            refine hide ?_
            have h := HP1.out (k - p) s[k] (s.data.toList.drop (k + 1)) (by rw [<- hdk]; exact hdc) (by rw [<- hdc]; exact hB3) (by rw [<- hdc]; exact hB4) (by rw [<- hdk]; exact HC.out)
            rw [show k + 1 - p = k - p + 1 by omega]
            exact h
          have HAT := hide (fun w (h : RdL w b s (s.data.toList.drop k)) => h.at hk)
          clear hdk hdc HSK HDN HWO HP0 HP1 HP3 HP4 HPE HC HRC hB3 hB4
          generalize s.data.toList.drop k = V at *
          go_wp2_with fail
          refine HDN2.out.mono ?_
          rintro e w3 ⟨rfl, n, rfl⟩
          go_wp2_with fail
          go_quiet (fail)
          go_wp2_with fail
          refine (HS3.out _ (HRL.out.drewN _)).mono ?_
          rintro e w4 ⟨rfl, h3, h4⟩
          have R4 := hide h3
          have KR4 := hide (Kept.but (KRk.out.drewN _) h4 (by omega))
          have BB4 := hide ((BBk.out.drewN _).trans h4)
          clear h3 h4 KRk BBk HRL HDN2 c0k c1k fzk HS3
          go_wp2_with fail
          refine (HS4.out _ R4.out).mono ?_
          rintro e w5 ⟨rfl, h3, h4⟩
          have R5 := hide h3
          have KR5 := hide (Kept.but KR4.out h4 (by omega))
          have BB5 := hide (BB4.out.trans h4)
          clear h3 h4 KR4 BB4 R4 HS4
          have hP5 := HAT.out _ R5.out
          have HP5 := hide hP5
          have c15 := hP5.c1
          have fz5 := hP5.fz
          clear hP5
          go_wp2
          go_roundg (s.size - (k + 1))
          case rel =>
            refine ⟨k + 1, rfl, by omega, by omega, ?_, BB5.out.setCell 1 _, KR5.out.other _ (by simp only; omega) _, HC2⟩
            have h := HP5.out.set (k + 1)
            rw [show ((k + 1 : Nat) : Int) = (k : Int) + 1 by omega] at h
            exact h
          case measure => omega
    · obtain rfl : k = s.size := by omega
      have hnil : s.data.toList.drop s.size = [] := drop_end s s.size (Nat.le_refl _)
      rw [hnil] at HDN2 HRL
      have HRC2 : Hid (RC = (trimC r, [])) := hide (by
        rw [<- HRC.out, restC_none r]
        refine HPE.out (s.size - p) ?_
        rw [<- hnil]; exact HC.out)
      have c0k := hRk.c0
      have hW := HWO.out (s.extract p s.size) (by rw [ByteArray.size_extract]; omega)
      have hxl : (s.extract p s.size).data.toList = r := by
        rw [Lib.extract_data, HD.out, List.take_of_length_le (by rw [<- HD.out, List.length_drop, <- size_list]; omega)]
      rw [hxl] at hW
      have HW2 := hide hW
      have hpz : (p : Int) <= s.size := by omega
      clear hdk HSK HDN HWO HP0 HP1 HP3 HP4 HPE HC HRC hnil hW hxl hRk
      generalize trimC r = TX at *
      go_wp2_with fail
      refine HDN2.out.mono ?_
      rintro e w3 ⟨rfl, n, rfl⟩
      go_wp2_with fail
      refine (HW2.out _).mono ?_
      rintro e w4 ⟨rfl, rfl⟩
      generalize hxx : (⟨TX.toArray⟩ : ByteArray) = x at *
      have HX := hide hxx
      clear hxx
      have R4 := hide (HRL.out.drewN n)
      have KR4 := hide (KRk.out.drewN n)
      have BB4 := hide (BBk.out.drewN n)
      clear HRL KRk BBk c0k HW2
      go_wp2_with fail
      refine (HCT.out x _).mono ?_
      rintro e w6 ⟨rfl, h4⟩
      have R6 := hide (R4.out.below h4)
      have KR6 := hide (Kept.below KR4.out h4)
      have BB6 := hide (BB4.out.trans (.of h4))
      clear h4 KR4 R4 BB4
      obtain ⟨q0, q1, q2, q3, q4, qf⟩ := KR6.out.tok
      go_wp2
      refine bodyPost_ret (v := tokV { kind := 4, text := TX } (.slice none 0 0)) ?_ rfl ?_
      · rw [results_cell_one rfl]
        go_simp
        rw [<- HX.out]
        rfl
      · rw [HRC2.out, <- HX.out]
        exact tokE_end { kind := 4, text := TX } BB6.out R6.out hlt rfl
theorem comment_pany (s : ByteArray) (hs : s.size <= 20000) (b : Nat) (h2 : 2 <= b) (r : List UInt8) (w : World) (hR : RdL w b s r) :
    Calls Tryz.prog 100 #[.pointer (some ⟨b, 0, none⟩)] w fun e w' => TokE w w' b s (commentL r) e := by
  unfold commentL
  cases h1 : ([62] : List UInt8).isPrefixOf r with
  | true => exact comment_p1 s hs b h2 r h1 w hR
  | false =>
    rw [if_neg (by decide)]
    cases h3 : ([45, 62] : List UInt8).isPrefixOf r with
    | true => exact comment_p2 s hs b h2 r h1 h3 w hR
    | false =>
      rw [if_neg (by decide)]
      have h := comment_p3 s hs b h2 r h1 h3 w hR
      cases hf : findC r with
      | none => rw [restC_none r hf] at h; exact h
      | some x => rw [restC_some r x hf] at h; exact h
end Go.Proofs.YtfohijnkeefcfaaGreatDoor.S4
namespace Go.Proofs.YtfohijnkeefcfaaGreatDoor.S4
open Go.RowKit
def rawL (n r : List UInt8) : Tok × List UInt8 := if stopB n r then endedL (r.drop 2) true else ({ kind := 1, text := (spanS n r).1 }, (spanS n r).2)
theorem stop_two (n r : List UInt8) (h : stopB n r = true) : ([60, 47] : List UInt8).isPrefixOf r = true := by
  unfold stopB at h
  cases hb : ([60, 47] : List UInt8).isPrefixOf r with
  | true => rfl
  | false => rw [hb] at h; simp at h
theorem raw_any (s : ByteArray) (hs : s.size <= 20000) (b : Nat) (h2 : 2 <= b) (n r : List UInt8) (hn : n.length <= 20000) (hr : r ≠ []) (w : World) (he : Env w) (hR : RdL w b s r) :
    Calls Tryz.prog 66 #[.pointer (some ⟨b, 0, none⟩), .string ⟨(lowerL n).toArray⟩] w fun e w' => TokE w w' b s (rawL n r) e := by
  have hlt := hR.lt
  have KR0 := hide (Kept.new w tok0 79)
  have B0 := hide ((But.refl b w).alloc (.cells tok0.toArray 79))
  have E0 := hide (he.alloc (.cells tok0.toArray 79))
  have hlen := hR.len
  obtain ⟨p, hp, hd, hPw⟩ := hR
  have HP := hide (hPw.below (below_alloc w (.cells tok0.toArray 79)))
  have hap := spanS_app n r
  have c0 := hPw.c0
  have c1 := hPw.c1
  have HT := hide (fun q hq hpq w h => take_to s (by omega) b p q hq hpq w h)
  have hET := fun k (hk : k <= s.size) => endTag_any ⟨(s.data.toList.drop k).toArray⟩ (by rw [size_list, str_data, List.length_drop, <- size_list]; omega) n
  have HET : Hid (∀ k, k <= s.size -> ∀ w, Calls Tryz.prog 90 #[.string (s.extract k s.size), .string ⟨(lowerL n).toArray⟩] w fun e w' => e = .returned (.bool (stopB n (s.data.toList.drop k))) /\ Below w.heap.size w w') := by
    refine hide fun k hk w => ?_
    rw [rest_is s k hk]
    exact hET k hk w
  have HSK := hide (fun h w hR => skip_yes s (by omega) b r ⟨#[60, 47]⟩ h w hR)
  have HST := hide (fun w he (h : RdL w b s (r.drop 2)) => stop_pany s hs b h2 (r.drop 2) w he h)
  have HTT := hide textToken_any
  have HNE := hide (spanS_ne n r hr)
  have HTWO := hide (stop_two n r)
  have HB : Hid (stopB n r = true -> (spanS n r).2 = r) := by
    refine hide fun h => ?_
    cases r with
    | nil => exact absurd rfl hr
    | cons c q => simp only [spanS]; rw [if_pos h]
  have HV : Hid ((spanS n (s.data.toList.drop p)).2 = (spanS n r).2) := hide (by rw [hd])
  have HD := hide hd
  have HAP := hide hap
  have HRAW := hide (show rawL n r = if stopB n r then endedL (r.drop 2) true else ({ kind := 1, text := (spanS n r).1 }, (spanS n r).2) from rfl)
  generalize rawL n r = RW at *
  generalize (spanS n r).2 = V at *
  generalize (spanS n r).1 = T at *
  have HCUT : Hid (∀ k, p <= k -> k <= s.size -> s.data.toList.drop k = V -> s.extract p k = ⟨T.toArray⟩) := hide fun k h1 h2 h3 => cutP s p k h1 h2 T V (by rw [hd]; exact hap.symm) h3
  clear hET hap hd he hPw
  generalize (⟨(lowerL n).toArray⟩ : ByteArray) = nl at *
  go_enter Tryz.func66, Tryz.ntmps66
  go_wp2
  go_loopw [5] (fun i wr => ∃ k : Nat, p <= k /\ k <= s.size /\ i = .int .i64 k /\ Below (w.alloc (.cells tok0.toArray 79)).heap.size (w.alloc (.cells tok0.toArray 79)) wr /\ Hid ((spanS n (s.data.toList.drop k)).2 = V)) (fun i _ => s.size - (intOf i).toNat)
  case atStart => exact ⟨p, Nat.le_refl _, hp, rfl, Below.refl _ _, HV⟩
  case round =>
    obtain ⟨k, hpk, hk, rfl, bw, HR⟩ := hrel
    have hP := HP.out.below bw
    have hK := KR0.out.below bw
    have hE := E0.out.below bw
    have hB := B0.out.trans (.of bw)
    have HPr := hide hP
    have KRr := hide hK
    have Er := hide hE
    have Br := hide hB
    have HBW := hide bw
    have c0r := hP.c0
    have c1r := hP.c1
    clear hP hK hE hB bw c0 c1
    by_cases hlt2 : k < s.size
    · have hlt3 : (k : Int) < s.size := by omega
      have hst := spanS_step n s k hlt2
      have HQ := hide (HET.out k hk)
      cases hBs : stopB n (s.data.toList.drop k) with
      | false =>
        rw [hBs] at HQ hst
        have HR2 : Hid ((spanS n (s.data.toList.drop (k + 1))).2 = V) := hide (by rw [<- HR.out, hst]; rfl)
        clear hBs hst HR
        go_wp2_with fail
        refine (HQ.out _).mono ?_
        rintro e w1 ⟨rfl, b1⟩
        have b2 := HBW.out.trans (b1.mono HBW.out.size)
        clear HBW b1
        go_wp2
        go_roundw
        case rel => exact ⟨k + 1, by omega, by omega, by go_num, b2, HR2⟩
        case measure => simp [intOf]; omega
      | true =>
        rw [hBs] at HQ hst
        have HR2 : Hid (s.data.toList.drop k = V) := hide (by rw [<- HR.out, hst]; rfl)
        clear hst HR
        by_cases hkp : p < k
        · have hkp2 : (p : Int) < k := by omega
          have HC2 := hide (HCUT.out k hpk hk HR2.out)
          have HRW2 : Hid (RW = ({ kind := 1, text := T }, V)) := by
            refine hide ?_
            cases hb : stopB n r with
            | false => rw [HRAW.out, hb]; rfl
            | true =>
              have e1 := congrArg List.length (HB.out hb)
              have e2 := congrArg List.length HR2.out
              have e3 := congrArg List.length HD.out
              rw [List.length_drop, <- size_list] at e2 e3
              omega
          clear hBs HB HRAW HTWO HNE HST HSK HAP HD HCUT HET
          go_wp2_with fail
          refine (HQ.out _).mono ?_
          rintro e w1 ⟨rfl, b1⟩
          have hP1 := HPr.out.below b1
          have HP1 := hide hP1
          have KR1 := hide (Kept.below KRr.out b1)
          have B1 := hide (Br.out.trans (.of b1))
          have c01 := hP1.c0
          have c11 := hP1.c1
          clear b1 hP1 HPr KRr Br Er HBW c0r c1r HQ
          go_wp2_with fail
          refine (HT.out k hk hpk _ HP1.out).mono ?_
          rintro e w3 ⟨rfl, h3, h4⟩
          have R3 : Hid (RdL w3 b s V) := hide ⟨k, hk, HR2.out, h3⟩
          have KR3 := hide (Kept.but KR1.out h4 (by omega))
          have B3 := hide (But.trans B1.out h4)
          clear h3 h4
          rw [HC2.out]
          generalize hxx : (⟨T.toArray⟩ : ByteArray) = x at *
          have HX := hide hxx
          clear hxx HC2
          go_wp2_with fail
          refine (HTT.out x _).mono ?_
          rintro e w4 ⟨rfl, h4⟩
          have R4 := hide (R3.out.below h4)
          have KR4 := hide (Kept.below KR3.out h4)
          have B4 := hide (B3.out.trans (.of h4))
          clear h4 R3 KR3 B3
          obtain ⟨q0, q1, q2, q3, q4, qf⟩ := KR4.out.tok
          go_wp2
          refine bodyPost_ret (v := tokV { kind := 1, text := T } (.slice none 0 0)) ?_ rfl ?_
          · rw [results_cell_one rfl]
            go_simp
            rw [<- HX.out]
            rfl
          · rw [HRW2.out, <- HX.out]
            exact tokE_end { kind := 1, text := T } B4.out R4.out hlt rfl
        · obtain rfl : k = p := by omega
          have hbr : stopB n r = true := by rw [<- HD.out]; exact hBs
          have HRW2 : Hid (RW = endedL (r.drop 2) true) := hide (by rw [HRAW.out, if_pos hbr])
          have HSK2 : Hid (∀ w, RdL w b s r -> Calls Tryz.prog 91 #[.pointer (some ⟨b, 0, none⟩), .string ⟨#[60, 47]⟩] w fun e w' => e = .returned (.bool true) /\ RdL w' b s (r.drop 2) /\ But b w w') := hide (fun w h => HSK.out (HTWO.out hbr) w h)
          have HRL : Hid (∀ w, RdP w b s k -> RdL w b s r) := hide (fun w h => ⟨k, hk, HD.out, h⟩)
          clear hBs HB HRAW HTWO HNE HSK HAP HD HCUT HET hbr HT HTT
          generalize r.drop 2 = r2 at *
          go_wp2_with fail
          refine (HQ.out _).mono ?_
          rintro e w1 ⟨rfl, b1⟩
          have hP1 := HPr.out.below b1
          have HP1 := hide hP1
          have KR1 := hide (Kept.below KRr.out b1)
          have E1 := hide (Er.out.below b1)
          have B1 := hide (Br.out.trans (.of b1))
          have c01 := hP1.c0
          have c11 := hP1.c1
          clear b1 hP1 HPr KRr Br Er HBW c0r c1r HQ
          go_wp2_with fail
          refine (HSK2.out _ (HRL.out _ HP1.out)).mono ?_
          rintro e w2 ⟨rfl, h3, h4⟩
          have R2 := hide h3
          have KR2 := hide (Kept.but KR1.out h4 (by omega))
          have E2 := hide (E1.out.but h4 h2)
          have B2 := hide (B1.out.trans h4)
          clear h3 h4 KR1 E1 B1 HP1 HSK2 HRL c01 c11
          go_wp2_with fail
          refine (HST.out _ E2.out R2.out).mono ?_
          rintro e w3 ⟨h4, h3, sv, hA, hob, rfl⟩
          have hz2 := KR2.out.lt
          have R3 := hide h3
          have KR3 := hide (Kept.but KR2.out h4 (by omega))
          have B3 := hide (B2.out.trans h4)
          have HA := hide hA
          have HOB : Hid (∀ k, sv.ownBlock = some k -> w.heap.size < k) := hide fun k hk => Nat.lt_of_lt_of_le hz2 (hob k hk)
          obtain ⟨sa, sc, rfl⟩ := isA_form hA
          clear h3 h4 KR2 E2 B2 R2 hA hob HST
          obtain ⟨q0, q1, q2, q3, q4, qf⟩ := KR3.out.tok
          generalize endedL r2 true = ED at *
          obtain ⟨t, V3⟩ := ED
          simp only [tokV] at *
          generalize hn1 : (⟨t.name.toArray⟩ : ByteArray) = n1 at *
          generalize hn2 : (⟨t.text.toArray⟩ : ByteArray) = n2 at *
          have HN1 := hide hn1
          have HN2 := hide hn2
          clear hn1 hn2
          go_wp2
          refine bodyPost_ret (v := tokV t (.slice sa t.attrs.length sc)) ?_ rfl ?_
          · rw [results_cell_one rfl]
            go_simp
            unfold tokV
            rw [HN1.out, HN2.out]
          · rw [HRW2.out]
            have := tokE_end2 t (.slice sa t.attrs.length sc) B3.out R3.out hlt HA.out HOB.out
            unfold put5 at this
            rw [HN1.out, HN2.out] at this
            exact this
    · have hlt3 : ¬ (k : Int) < s.size := by omega
      have hps : p < s.size := by
        rcases Nat.lt_or_ge p s.size with h | h
        · exact h
        · exact absurd (by rw [<- HD.out, drop_end s p h]) hr
      have HR2 : Hid (s.data.toList.drop k = V) := hide (by rw [<- HR.out, drop_end s k (by omega)]; rfl)
      have hkp2 : (p : Int) < k := by omega
      have HC2 := hide (HCUT.out k hpk hk HR2.out)
      have HRW2 : Hid (RW = ({ kind := 1, text := T }, V)) := by
        refine hide ?_
        cases hb : stopB n r with
        | false => rw [HRAW.out, hb]; rfl
        | true =>
          have e1 := congrArg List.length (HB.out hb)
          have e2 := congrArg List.length HR2.out
          have e3 := congrArg List.length HD.out
          rw [List.length_drop, <- size_list] at e2 e3
          omega
      clear HR HB HRAW HTWO HNE HST HSK HAP HD HCUT HET
      go_wp2_with fail
      refine (HT.out k hk hpk _ HPr.out).mono ?_
      rintro e w3 ⟨rfl, h3, h4⟩
      have R3 : Hid (RdL w3 b s V) := hide ⟨k, hk, HR2.out, h3⟩
      have KR3 := hide (Kept.but KRr.out h4 (by omega))
      have B3 := hide (But.trans Br.out h4)
      clear h3 h4
      rw [HC2.out]
      generalize hxx : (⟨T.toArray⟩ : ByteArray) = x at *
      have HX := hide hxx
      clear hxx HC2
      go_wp2_with fail
      refine (HTT.out x _).mono ?_
      rintro e w4 ⟨rfl, h4⟩
      have R4 := hide (R3.out.below h4)
      have KR4 := hide (Kept.below KR3.out h4)
      have B4 := hide (B3.out.trans (.of h4))
      clear h4 R3 KR3 B3
      obtain ⟨q0, q1, q2, q3, q4, qf⟩ := KR4.out.tok
      go_wp2
      refine bodyPost_ret (v := tokV { kind := 1, text := T } (.slice none 0 0)) ?_ rfl ?_
      · rw [results_cell_one rfl]
        go_simp
        rw [<- HX.out]
        rfl
      · rw [HRW2.out, <- HX.out]
        exact tokE_end { kind := 1, text := T } B4.out R4.out hlt rfl
end Go.Proofs.YtfohijnkeefcfaaGreatDoor.S4
