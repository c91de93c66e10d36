/- The program's data at whatever is left; and its next, in ModePlain and ModeRaw. -/
import Derived.Test.YtlfjmgniflkapaaDoorRdM
set_option linter.unusedVariables false
set_option linter.unusedSimpArgs false
namespace Go.Proofs.YtlfjmgniflkapaaDoor
open Go.RowKit

theorem data_pany (s : ByteArray) (hs : s.size ≤ 20000) (b : Nat) (h2 : 2 ≤ b) (r : List UInt8) (f : Bool) (w : World) (he : Env w) (hR : RdL w b s r) :
    Calls Tryd.prog 24 #[.pointer (some ⟨b, 0, none⟩), .bool f] w fun e w' => TokE w w' b s (dataP f r) e := by
  cases hb : beginsB r with
  | false =>
    have hP : dataP f r = ({ kind := 1, text := decL false (spanT r).1 }, (spanT r).2) := by unfold dataP; rw [if_pos hb]
    rw [hP]
    exact data_p1 s hs b h2 r f hb w he hR
  | true =>
    have hN : ¬ beginsB r = false := by rw [hb]; decide
    cases hl : letterN (r.getD 1 0).toNat with
    | true =>
      have hP : dataP f r = endedL (r.drop 1) false := by unfold dataP; rw [if_neg hN, if_pos hl]
      rw [hP]
      exact data_p2 s hs b h2 r f hb hl w he hR
    | false =>
      have hl' : ¬ letterN (r.getD 1 0).toNat = true := by rw [hl]; decide
      have hc : r.getD 1 0 = 33 ∨ r.getD 1 0 = 63 ∨ r.getD 1 0 = 47 := by
        obtain ⟨c, q, rfl, hc⟩ := begins_form r hb
        rcases hc with h | h | h | ⟨h, _⟩
        · rw [show letterN ((60 :: c :: q : List UInt8).getD 1 0).toNat = letterN c.toNat from rfl, h] at hl; cases hl
        · exact .inl h
        · exact .inr (.inl h)
        · exact .inr (.inr h)
      by_cases h47 : r.getD 1 0 = 47
      · cases hl2 : letterN (r.getD 2 0).toNat with
        | true =>
          have hP : dataP f r = endedL (r.drop 2) true := by unfold dataP; rw [if_neg hN, if_neg hl', if_pos (by rw [h47, hl2]; rfl)]
          rw [hP]
          exact data_p3 s hs b h2 r f hb h47 hl2 w he hR
        | false =>
          have hA : ¬ (r.getD 1 0 == 47 && letterN (r.getD 2 0).toNat) = true := by rw [hl2, Bool.and_false]; decide
          cases h3 : ([60, 47, 62] : List UInt8).isPrefixOf r with
          | true =>
            have hP : dataP f r = ({ kind := 0 }, r.drop 3) := by unfold dataP; rw [if_neg hN, if_neg hl', if_neg hA, if_pos h3]
            rw [hP]
            exact data_p4 s hs b h2 r f hb h47 hl2 h3 w he hR
          | false =>
            have hno : ([60, 33, 45, 45] : List UInt8).isPrefixOf r = false ∧ likeB doctypeF r = false ∧ cdataM.isPrefixOf r = false := by
              obtain ⟨c, q, rfl, _⟩ := begins_form r hb
              have : c = 47 := h47
              subst this
              exact ⟨pre_no 33 47 q _ (by decide), like_no 47 q (by decide), pre_no 33 47 q _ (by decide)⟩
            have hP : dataP f r = otherL (oddR r) := by unfold dataP; rw [if_neg hN, if_neg hl', if_neg hA, if_neg (by rw [h3]; decide), if_neg (by rw [hno.1]; decide), if_neg (by rw [hno.2.1]; decide), if_neg (by rw [hno.2.2, Bool.and_false]; decide)]
            rw [hP]
            cases f with
            | true => exact data_p8_47_true s hs b h2 r true rfl hb h47 hl2 h3 hno.1 hno.2.1 hno.2.2 w he hR
            | false => exact data_p8_47_false s hs b h2 r false rfl hb h47 hl2 h3 hno.1 hno.2.1 w he hR
      · have hA : ¬ (r.getD 1 0 == 47 && letterN (r.getD 2 0).toNat) = true := by
          rw [show (r.getD 1 0 == 47) = false from beq_eq_false_iff_ne.2 h47, Bool.false_and]; decide
        have h3 : ([60, 47, 62] : List UInt8).isPrefixOf r = false := by
          obtain ⟨c, q, rfl, _⟩ := begins_form r hb
          exact pre_no 47 c q _ (fun e => h47 e.symm)
        by_cases h33 : r.getD 1 0 = 33
        · cases h4 : ([60, 33, 45, 45] : List UInt8).isPrefixOf r with
          | true =>
            have hP : dataP f r = commentL (r.drop 4) := by unfold dataP; rw [if_neg hN, if_neg hl', if_neg hA, if_neg (by rw [h3]; decide), if_pos h4]
            rw [hP]
            exact data_p5 s hs b h2 r f hb h33 h3 h4 w he hR
          | false =>
            cases hk : likeB doctypeF r with
            | true =>
              have hP : dataP f r = ({ kind := 5 }, (findR [62] r).2.drop 1) := by unfold dataP; rw [if_neg hN, if_neg hl', if_neg hA, if_neg (by rw [h3]; decide), if_neg (by rw [h4]; decide), if_pos hk]
              rw [hP]
              exact data_p6 s hs b h2 r f hb h33 h3 h4 hk w he hR
            | false =>
              cases f with
              | true =>
                cases hx : cdataM.isPrefixOf r with
                | true =>
                  have hP : dataP true r = cdataT (r.drop 9) := by unfold dataP; rw [if_neg hN, if_neg hl', if_neg hA, if_neg (by rw [h3]; decide), if_neg (by rw [h4]; decide), if_neg (by rw [hk]; decide), if_pos (by rw [hx]; rfl)]
                  rw [hP]
                  exact data_p7 s hs b h2 r true rfl hb h33 h3 h4 hk hx w he hR
                | false =>
                  have hP : dataP true r = otherL (oddR r) := by unfold dataP; rw [if_neg hN, if_neg hl', if_neg hA, if_neg (by rw [h3]; decide), if_neg (by rw [h4]; decide), if_neg (by rw [hk]; decide), if_neg (by rw [hx]; decide)]
                  rw [hP]
                  exact data_p8_33_true s hs b h2 r true rfl hb h33 h3 h4 hk hx w he hR
              | false =>
                have hP : dataP false r = otherL (oddR r) := by unfold dataP; rw [if_neg hN, if_neg hl', if_neg hA, if_neg (by rw [h3]; decide), if_neg (by rw [h4]; decide), if_neg (by rw [hk]; decide), if_neg (by rw [Bool.false_and]; decide)]
                rw [hP]
                exact data_p8_33_false s hs b h2 r false rfl hb h33 h3 h4 hk w he hR
        · have h63 : r.getD 1 0 = 63 := by
            rcases hc with h | h | h
            · exact absurd h h33
            · exact h
            · exact absurd h h47
          have hno : ([60, 33, 45, 45] : List UInt8).isPrefixOf r = false ∧ likeB doctypeF r = false ∧ cdataM.isPrefixOf r = false := by
            obtain ⟨c, q, rfl, _⟩ := begins_form r hb
            have : c = 63 := h63
            subst this
            exact ⟨pre_no 33 63 q _ (by decide), like_no 63 q (by decide), pre_no 33 63 q _ (by decide)⟩
          have hP : dataP f r = otherL (oddR r) := by unfold dataP; rw [if_neg hN, if_neg hl', if_neg hA, if_neg (by rw [h3]; decide), if_neg (by rw [hno.1]; decide), if_neg (by rw [hno.2.1]; decide), if_neg (by rw [hno.2.2, Bool.and_false]; decide)]
          rw [hP]
          cases f with
          | true => exact data_p8_63_true s hs b h2 r true rfl hb h63 h3 hno.1 hno.2.1 hno.2.2 w he hR
          | false => exact data_p8_63_false s hs b h2 r false rfl hb h63 h3 hno.1 hno.2.1 w he hR

/-- A token that lies in a block of its own is laid in the answer's. -/
theorem tokE_end3 {w w3 : World} {b : Nat} {s : ByteArray} {V : List UInt8} (t : Tok) (sv : Value) (hb : But b w w3) (hr : RdL w3 b s V) (hl : b < w.heap.size) (hA : IsA w3 sv t.attrs) (ho : ∀ k, sv.ownBlock = some k → w.heap.size < k) : TokE w (put5 w3 w.heap.size (t, sv)) b s (t, V) (.returned (tokV t sv)) := tokE_end2 t sv hb hr hl hA ho

set_option maxHeartbeats 2000000 in
theorem next_p3 (s : ByteArray) (hs : s.size ≤ 20000) (b : Nat) (h2 : 2 ≤ b) (n r : List UInt8) (hr : r ≠ []) (f : Bool) (w : World) (he : Env w) (hR : RdL w b s r) :
    Calls Tryd.prog 16 #[.pointer (some ⟨b, 0, none⟩), .int .i64 3, .string ⟨(lowerL n).toArray⟩, .bool f] w fun e w' => TokE w w' b s (nextR 3 n f r) e := by
  have hE : nextR 3 n f r = ({ kind := 1, text := r }, []) := by unfold nextR; rw [if_neg hr, if_pos rfl]
  rw [hE]
  have hlt := hR.lt
  have KR0 := hide (Kept.new w tok0 32)
  have B0 := hide ((But.refl b w).alloc (.cells tok0.toArray 32))
  obtain ⟨p, hp, hd, hPw⟩ := hR
  have HP := hide (hPw.below (below_alloc w (.cells tok0.toArray 32)))
  have c0 := hPw.c0
  have HT := hide (take_to s (by omega) b p s.size (Nat.le_refl _) hp _ HP.out)
  have hrs := rest_is s p hp
  rw [hd] at hrs
  have HRS := hide hrs
  have HNIL := hide (drop_end s s.size (Nat.le_refl _))
  have HTT := hide textToken_any
  clear hd hPw hrs he hE
  generalize (⟨(lowerL n).toArray⟩ : ByteArray) = nl at *
  go_enter Tryd.func16, Tryd.ntmps16
  go_wp2_with fail
  refine HT.out.mono ?_
  rintro e w1 ⟨rfl, h3, h4⟩
  have R1 : Hid (RdL w1 b s []) := hide ⟨s.size, Nat.le_refl _, HNIL.out, h3⟩
  have KR1 := hide (Kept.but KR0.out h4 (by omega))
  have B1 := hide (B0.out.trans h4)
  clear h3 h4 KR0 B0 HP HT c0
  rw [HRS.out]
  generalize hxx : (⟨r.toArray⟩ : ByteArray) = x at *
  have HX := hide hxx
  clear hxx HRS
  go_wp2_with fail
  refine (HTT.out x _).mono ?_
  rintro e w2 ⟨rfl, h4⟩
  have R2 := hide (R1.out.below h4)
  have KR2 := hide (Kept.below KR1.out h4)
  have B2 := hide (B1.out.trans (.of h4))
  clear h4 R1 KR1 B1
  obtain ⟨q0, q1, q2, q3, q4, qf⟩ := KR2.out.tok
  go_wp2
  refine bodyPost_ret (v := tokV { kind := 1, text := r } (.slice none 0 0)) ?_ rfl ?_
  · rw [results_cell_one rfl]
    go_simp
    rw [← HX.out]
    rfl
  · rw [← HX.out]
    exact tokE_end { kind := 1, text := r } B2.out R2.out hlt rfl

theorem rawL_next2 (n r : List UInt8) (f : Bool) (hr : r ≠ []) : nextR 2 n f r = rawL n r := by
  unfold nextR rawL
  rw [if_neg hr, if_neg (by decide), if_neg (by decide)]
  rfl
theorem rawL_next1 (n r : List UInt8) (f : Bool) (hr : r ≠ []) : nextR 1 n f r = ({ (rawL n r).1 with text := decL false (rawL n r).1.text }, (rawL n r).2) := by
  unfold nextR rawL
  rw [if_neg hr, if_neg (by decide), if_neg (by decide)]
  by_cases h : stopB n r = true
  · rw [if_pos h, if_pos h]
    unfold endedL
    cases tagL (r.drop 2) with
    | none => rfl
    | some x => rfl
  · rw [if_neg h, if_neg h]
    rfl
theorem rawL_attrs (n r : List UInt8) : (rawL n r).1.attrs = [] ∧ ((rawL n r).1.text.length ≤ r.length) := by
  unfold rawL
  split
  · unfold endedL
    cases tagL (r.drop 2) with
    | none => exact ⟨rfl, by simp⟩
    | some x => exact ⟨rfl, by simp⟩
  · refine ⟨rfl, ?_⟩
    have := congrArg List.length (spanS_app n r)
    rw [List.length_append] at this
    simp only
    omega

set_option maxHeartbeats 2000000 in
theorem next_p2 (s : ByteArray) (hs : s.size ≤ 20000) (b : Nat) (h2 : 2 ≤ b) (n r : List UInt8) (hn : n.length ≤ 20000) (hr : r ≠ []) (f : Bool) (w : World) (he : Env w) (hR : RdL w b s r) :
    Calls Tryd.prog 16 #[.pointer (some ⟨b, 0, none⟩), .int .i64 2, .string ⟨(lowerL n).toArray⟩, .bool f] w fun e w' => TokE w w' b s (nextR 2 n f r) e := by
  rw [rawL_next2 n r f hr]
  have hlt := hR.lt
  have KR1 := hide (Kept.new w tok0 32)
  have B1 := hide ((But.refl b w).alloc (.cells tok0.toArray 32))
  have HRW := hide (raw_any s hs b h2 n r hn hr _ (he.alloc (.cells tok0.toArray 32)) (hR.below (below_alloc w (.cells tok0.toArray 32))))
  clear hR he
  generalize rawL n r = EE at *
  generalize (⟨(lowerL n).toArray⟩ : ByteArray) = nl at *
  go_enter Tryd.func16, Tryd.ntmps16
  go_wp2_with fail
  refine HRW.out.mono ?_
  rintro e w2 ⟨h4, h3, sv, hA, hob, rfl⟩
  have hz2 := KR1.out.lt
  have R2 := hide h3
  have KR2 := hide (Kept.but KR1.out h4 (by omega))
  have B2 := hide (B1.out.trans h4)
  have HA := hide hA
  have HOB : Hid (∀ k, sv.ownBlock = some k → w.heap.size < k) := hide fun k hk => Nat.lt_of_lt_of_le hz2 (hob k hk)
  obtain ⟨sa, sc, rfl⟩ := isA_form hA
  clear h3 h4 KR1 B1 hA hob HRW
  obtain ⟨q0, q1, q2, q3, q4, qf⟩ := KR2.out.tok
  unfold tokV
  generalize hn1 : (⟨EE.1.name.toArray⟩ : ByteArray) = n1 at *
  generalize hn2 : (⟨EE.1.text.toArray⟩ : ByteArray) = n2 at *
  have HN1 := hide hn1
  have HN2 := hide hn2
  clear hn1 hn2
  go_wp2
  refine bodyPost_ret (v := tokV EE.1 (.slice sa EE.1.attrs.length sc)) ?_ rfl ?_
  · rw [results_cell_one rfl]
    go_simp
    unfold tokV
    rw [HN1.out, HN2.out]
  · have := tokE_end2 EE.1 (.slice sa EE.1.attrs.length sc) B2.out R2.out hlt HA.out HOB.out
    unfold put5 at this
    rw [HN1.out, HN2.out] at this
    exact this
end Go.Proofs.YtlfjmgniflkapaaDoor
