/- The program's oddComment, cdata, beginsLike, endTag, withoutOpenEnd. -/
import Derived.Test.YtlfjmgniflkapaaDoorRdG
set_option linter.unusedVariables false
set_option linter.unusedSimpArgs false
namespace Go.Proofs.YtlfjmgniflkapaaDoor
open Go.RowKit

set_option maxHeartbeats 2000000 in
theorem odd_any (s : ByteArray) (hs : s.size ≤ 20000) (b : Nat) (h2 : 2 ≤ b) (r : List UInt8) (h60 : ([60] : List UInt8).isPrefixOf r = true) (w : World) (hR : RdL w b s r) :
    Calls Tryd.prog 42 #[.pointer (some ⟨b, 0, none⟩)] w fun e w' => TokE w w' b s (otherL (oddR r)) e := by
  have hlt := hR.lt
  have KR0 := hide (Kept.new w tok0 32)
  have B0 := hide ((But.refl b w).alloc (.cells tok0.toArray 32))
  have R0 := hide (hR.below (below_alloc w (.cells tok0.toArray 32)))
  have hUP := fun r' w (h : RdL w b s r') => upToG_any s (by omega) b r' w h
  unfold otherL oddR
  cases h33 : ([60, 33] : List UInt8).isPrefixOf r with
  | true =>
    rw [if_pos rfl]
    have HK0 := hide (fun w (h : RdL w b s r) => skip_yes s (by omega) b r ⟨#[60, 33]⟩ h33 w h)
    have HUP := hide (hUP (r.drop 2))
    clear hUP hR
    have HK0b : Hid (∀ w, RdL w b s r → Calls Tryd.prog 27 #[.pointer (some ⟨b, 0, none⟩), .string ⟨#[60, 33]⟩] w fun e w' => e = .returned (.bool true) ∧ RdL w' b s (r.drop 2) ∧ But b w w') := HK0
    generalize r.drop 2 = V at *
    generalize (findR [62] V).1 = X at *
    generalize (findR [62] V).2.drop 1 = V2 at *
    have HCT := hide (commentToken_any ⟨X.toArray⟩)
    generalize hx : (⟨X.toArray⟩ : ByteArray) = x at *
    have HX := hide hx
    clear hx
    go_enter Tryd.func42, Tryd.ntmps42
    go_wp2_with fail
    refine (HK0b.out _ R0.out).mono ?_
    rintro e w1 ⟨rfl, h3, h4⟩
    have R1 := hide h3
    have KR1 := hide (Kept.but KR0.out h4 (by omega))
    have B1 := hide (B0.out.trans h4)
    clear h3 h4 KR0 B0 R0
    go_wp2_with fail
    refine (HUP.out _ R1.out).mono ?_
    rintro e w2 ⟨rfl, h3, h4⟩
    have R2 := hide h3
    have KR2 := hide (Kept.but KR1.out h4 (by omega))
    have B2 := hide (B1.out.trans h4)
    clear h3 h4 KR1 B1 R1
    go_wp2_with fail
    refine (HCT.out _).mono ?_
    rintro e w3 ⟨rfl, h4⟩
    have R3 := hide (R2.out.below h4)
    have KR3 := hide (Kept.below KR2.out h4)
    have B3 := hide (B2.out.trans (.of h4))
    clear h4 KR2 B2 R2
    obtain ⟨q0, q1, q2, q3, q4, qf⟩ := KR3.out.tok
    go_wp2
    refine bodyPost_ret (v := tokV { kind := 4, text := X } (.slice none 0 0)) ?_ rfl ?_
    · rw [results_cell_one rfl]
      go_simp
      rw [← HX.out]
      rfl
    · rw [← HX.out]
      exact tokE_end { kind := 4, text := X } B3.out R3.out hlt rfl
  | false =>
    rw [if_neg (by decide)]
    cases h47 : ([60, 47] : List UInt8).isPrefixOf r with
    | true =>
      rw [if_pos rfl]
      have HK0 := hide (fun w (h : RdL w b s r) => skip_no s (by omega) b r ⟨#[60, 33]⟩ h33 w h)
      have HK1 := hide (fun w (h : RdL w b s r) => skip_yes s (by omega) b r ⟨#[60, 47]⟩ h47 w h)
      have HUP := hide (hUP (r.drop 2))
      clear hUP hR
      have HK1b : Hid (∀ w, RdL w b s r → Calls Tryd.prog 27 #[.pointer (some ⟨b, 0, none⟩), .string ⟨#[60, 47]⟩] w fun e w' => e = .returned (.bool true) ∧ RdL w' b s (r.drop 2) ∧ But b w w') := HK1
      generalize r.drop 2 = V at *
      generalize (findR [62] V).1 = X at *
      generalize (findR [62] V).2.drop 1 = V2 at *
      have HCT := hide (commentToken_any ⟨X.toArray⟩)
      generalize hx : (⟨X.toArray⟩ : ByteArray) = x at *
      have HX := hide hx
      clear hx
      go_enter Tryd.func42, Tryd.ntmps42
      go_wp2_with fail
      refine (HK0.out _ R0.out).mono ?_
      rintro e w1 ⟨rfl, h3, h4⟩
      have R1 := hide h3
      have KR1 := hide (Kept.but KR0.out h4 (by omega))
      have B1 := hide (B0.out.trans h4)
      clear h3 h4 KR0 B0 R0
      go_wp2_with fail
      refine (HK1b.out _ R1.out).mono ?_
      rintro e w2 ⟨rfl, h3, h4⟩
      have R2 := hide h3
      have KR2 := hide (Kept.but KR1.out h4 (by omega))
      have B2 := hide (B1.out.trans h4)
      clear h3 h4 KR1 B1 R1
      go_wp2_with fail
      refine (HUP.out _ R2.out).mono ?_
      rintro e w3 ⟨rfl, h3, h4⟩
      have R3 := hide h3
      have KR3 := hide (Kept.but KR2.out h4 (by omega))
      have B3 := hide (B2.out.trans h4)
      clear h3 h4 KR2 B2 R2
      go_wp2_with fail
      refine (HCT.out _).mono ?_
      rintro e w4 ⟨rfl, h4⟩
      have R4 := hide (R3.out.below h4)
      have KR4 := hide (Kept.below KR3.out h4)
      have B4 := hide (B3.out.trans (.of h4))
      clear h4 KR3 B3 R3
      obtain ⟨q0, q1, q2, q3, q4, qf⟩ := KR4.out.tok
      go_wp2
      refine bodyPost_ret (v := tokV { kind := 4, text := X } (.slice none 0 0)) ?_ rfl ?_
      · rw [results_cell_one rfl]
        go_simp
        rw [← HX.out]
        rfl
      · rw [← HX.out]
        exact tokE_end { kind := 4, text := X } B4.out R4.out hlt rfl
    | false =>
      rw [if_neg (by decide), if_pos h60]
      have HK0 := hide (fun w (h : RdL w b s r) => skip_no s (by omega) b r ⟨#[60, 33]⟩ h33 w h)
      have HK1 := hide (fun w (h : RdL w b s r) => skip_no s (by omega) b r ⟨#[60, 47]⟩ h47 w h)
      have HK2 := hide (fun w (h : RdL w b s r) => skip_yes s (by omega) b r ⟨#[60]⟩ h60 w h)
      have HUP := hide (hUP (r.drop 1))
      clear hUP hR
      have HK2b : Hid (∀ w, RdL w b s r → Calls Tryd.prog 27 #[.pointer (some ⟨b, 0, none⟩), .string ⟨#[60]⟩] w fun e w' => e = .returned (.bool true) ∧ RdL w' b s (r.drop 1) ∧ But b w w') := HK2
      generalize r.drop 1 = V at *
      generalize (findR [62] V).1 = X at *
      generalize (findR [62] V).2.drop 1 = V2 at *
      have HCT := hide (commentToken_any ⟨X.toArray⟩)
      generalize hx : (⟨X.toArray⟩ : ByteArray) = x at *
      have HX := hide hx
      clear hx
      go_enter Tryd.func42, Tryd.ntmps42
      go_wp2_with fail
      refine (HK0.out _ R0.out).mono ?_
      rintro e w1 ⟨rfl, h3, h4⟩
      have R1 := hide h3
      have KR1 := hide (Kept.but KR0.out h4 (by omega))
      have B1 := hide (B0.out.trans h4)
      clear h3 h4 KR0 B0 R0
      go_wp2_with fail
      refine (HK1.out _ R1.out).mono ?_
      rintro e w2 ⟨rfl, h3, h4⟩
      have R2 := hide h3
      have KR2 := hide (Kept.but KR1.out h4 (by omega))
      have B2 := hide (B1.out.trans h4)
      clear h3 h4 KR1 B1 R1
      go_wp2_with fail
      refine (HK2b.out _ R2.out).mono ?_
      rintro e w3 ⟨rfl, h3, h4⟩
      have R3 := hide h3
      have KR3 := hide (Kept.but KR2.out h4 (by omega))
      have B3 := hide (B2.out.trans h4)
      clear h3 h4 KR2 B2 R2
      go_wp2_with fail
      refine (HUP.out _ R3.out).mono ?_
      rintro e w4 ⟨rfl, h3, h4⟩
      have R4 := hide h3
      have KR4 := hide (Kept.but KR3.out h4 (by omega))
      have B4 := hide (B3.out.trans h4)
      clear h3 h4 KR3 B3 R3
      go_wp2_with fail
      refine (HCT.out _).mono ?_
      rintro e w5 ⟨rfl, h4⟩
      have R5 := hide (R4.out.below h4)
      have KR5 := hide (Kept.below KR4.out h4)
      have B5 := hide (B4.out.trans (.of h4))
      clear h4 KR4 B4 R4
      obtain ⟨q0, q1, q2, q3, q4, qf⟩ := KR5.out.tok
      go_wp2
      refine bodyPost_ret (v := tokV { kind := 4, text := X } (.slice none 0 0)) ?_ rfl ?_
      · rw [results_cell_one rfl]
        go_simp
        rw [← HX.out]
        rfl
      · rw [← HX.out]
        exact tokE_end { kind := 4, text := X } B5.out R5.out hlt rfl

theorem index_low : ∀ (l t : List UInt8), -1 ≤ Lib.index l t
  | [], t => by unfold Lib.index; split <;> decide
  | b :: l, t => by
    have := index_low l t
    unfold Lib.index
    split
    · decide
    · split
      · decide
      · omega
theorem cut_find (t : List UInt8) (ht : t ≠ []) : ∀ r : List UInt8, (Lib.cut r t).1 = (findR t r).1
  | [] => by
    unfold Lib.cut
    split <;> simp [findR]
  | c :: r => by
    have ih := cut_find t ht r
    have hlow := index_low r t
    have hidx : Lib.index (c :: r) t = if t.isPrefixOf (c :: r) then 0 else if Lib.index r t == -1 then -1 else Lib.index r t + 1 := by
      rw [Lib.index]
    unfold Lib.cut at ih ⊢
    simp only [findR]
    by_cases hp : t.isPrefixOf (c :: r) = true
    · rw [hidx]
      simp [hp]
    · rw [if_neg hp] at hidx
      rw [if_neg hp]
      by_cases h1 : Lib.index r t = -1
      · rw [h1] at hidx ih
        rw [if_pos (by decide)] at hidx
        rw [hidx, if_neg (by decide)]
        rw [if_neg (by decide)] at ih
        simp only at ih ⊢
        rw [← ih]
      · rw [if_neg (by simpa using h1)] at hidx
        rw [hidx, if_pos (by omega)]
        rw [if_pos (by omega)] at ih
        simp only at ih ⊢
        rw [← ih, show (Lib.index r t + 1).toNat = (Lib.index r t).toNat + 1 by omega, List.take_succ_cons]
theorem Env.drewN {w : World} (h : Env w) (n : Nat) : Env (w.drewN n) := ⟨h.1, h.2⟩
theorem Kept.drewN {w : World} {k : Nat} {cs : List Value} (h : Kept w k cs) (n : Nat) : Kept (w.drewN n) k cs := ⟨h.1, h.2⟩
theorem find_rest (t : List UInt8) : ∀ r : List UInt8, skipL t (findR t r).2 = (findR t r).2.drop t.length
  | [] => by
    unfold skipL
    split <;> simp [findR]
  | c :: r => by
    simp only [findR]
    split
    · rename_i h
      unfold skipL
      rw [if_pos h]
    · exact find_rest t r
set_option maxHeartbeats 2000000 in
theorem cdata_pany (s : ByteArray) (hs : s.size ≤ 20000) (b : Nat) (h2 : 2 ≤ b) (r : List UInt8) (w : World) (he : Env w) (hR : RdL w b s r) :
    Calls Tryd.prog 41 #[.pointer (some ⟨b, 0, none⟩)] w fun e w' => TokE w w' b s (if (findR [93, 93, 62] r).1 = [] then { kind := 0 } else { kind := 1, text := (findR [93, 93, 62] r).1 }, (findR [93, 93, 62] r).2.drop 3) e := by
  have hlt := hR.lt
  have KR0 := hide (Kept.new w tok0 32)
  have B0 := hide ((But.refl b w).alloc (.cells tok0.toArray 32))
  have R0 := hide (hR.below (below_alloc w (.cells tok0.toArray 32)))
  have hlen := hR.len
  have HRS := hide (rest_any s (by omega) b r _ R0.out)
  have hfa := findR_app [93, 93, 62] r
  have HE := hide (he.alloc (.cells tok0.toArray 32))
  have hCut := fun w m hm => Tryd.strings_Cut ⟨r.toArray⟩ ⟨#[93, 93, 62]⟩ m w (by rw [size_list, str_data]; omega) hm
  have HCut : Hid (∀ w, Env w → Calls Tryd.prog 55 #[.string ⟨r.toArray⟩, .string ⟨#[93, 93, 62]⟩] w fun e w' => ∃ y z, e = .returned (.tuple #[.string ⟨(findR [93, 93, 62] r).1.toArray⟩, .string y, .bool z]) ∧ ∃ n, w' = w.drewN n) := by
    refine hide fun w he => ?_
    obtain ⟨m, hm⟩ := he.2
    refine (hCut w m hm).mono ?_
    rintro e w1 ⟨rfl, n, rfl⟩
    refine ⟨⟨(Lib.cut r [93, 93, 62]).2.1.toArray⟩, (Lib.cut r [93, 93, 62]).2.2, ?_, n, rfl⟩
    rw [← cut_find [93, 93, 62] (by decide) r]
  have hsk := fun w (h : RdL w b s (findR [93, 93, 62] r).2) => skip_any s (by omega) b (findR [93, 93, 62] r).2 ⟨#[93, 93, 62]⟩ w h
  have HSK : Hid (∀ w, RdL w b s (findR [93, 93, 62] r).2 → Calls Tryd.prog 27 #[.pointer (some ⟨b, 0, none⟩), .string ⟨#[93, 93, 62]⟩] w fun e w' => (∃ B, e = .returned (.bool B)) ∧ RdL w' b s ((findR [93, 93, 62] r).2.drop 3) ∧ But b w w') := by
    refine hide fun w h => ?_
    refine (hsk w h).mono ?_
    rintro e w1 ⟨rfl, h3, h4⟩
    refine ⟨⟨_, rfl⟩, ?_, h4⟩
    have e1 : skipL (⟨#[93, 93, 62]⟩ : ByteArray).data.toList (findR [93, 93, 62] r).2 = (findR [93, 93, 62] r).2.drop 3 := find_rest [93, 93, 62] r
    rw [e1] at h3
    exact h3
  clear hsk hCut he
  obtain ⟨p, hp, hd, hP⟩ := hR
  have c1 := hP.c1
  have fz := hP.fz
  have hPA := hP.below (below_alloc w (.cells tok0.toArray 32))
  have HPA := hide hPA
  have HD := hide hd
  clear hd hP hPA
  generalize (findR [93, 93, 62] r).1 = T at *
  generalize (findR [93, 93, 62] r).2 = V at *
  have hl := congrArg List.length hfa
  rw [List.length_append] at hl
  have hlp : s.size - p = r.length := by rw [← HD.out, List.length_drop, ← size_list]
  have HV : Hid (s.data.toList.drop (p + T.length) = V) := hide (by rw [← List.drop_drop, HD.out, ← hfa, List.drop_left])
  have hx : (⟨T.toArray⟩ : ByteArray).size = T.length := by rw [size_list, str_data]
  have hnil : (⟨T.toArray⟩ : ByteArray).toList.isEmpty = T.isEmpty := by
    rw [Lib.toList_data]
  have HTT := hide (textToken_any ⟨T.toArray⟩)
  generalize hX : (⟨T.toArray⟩ : ByteArray) = x at *
  have HX := hide hX
  generalize (⟨r.toArray⟩ : ByteArray) = y at *
  clear hX hfa
  have hsum : p + x.size ≤ s.size := by omega
  have hq1 : (p : Int) + x.size ≤ 20000 := by omega
  have HV2 : Hid (s.data.toList.drop (p + x.size) = V) := hide (by rw [hx]; exact HV.out)
  have HRD : Hid (∀ n, RdL (((w.alloc (.cells tok0.toArray 32)).drewN n).setCell ⟨b, 1, none⟩ (.int .i64 ((p : Int) + (x.size : Int)))) b s V) := by
    refine hide fun n => ⟨p + x.size, hsum, HV2.out, ?_⟩
    have h := (HPA.out.drewN n).set (p + x.size)
    rw [show ((p + x.size : Nat) : Int) = (p : Int) + (x.size : Int) by omega] at h
    exact h
  clear hx hl hlp HV HV2 HD HPA R0
  have hgo : ∀ B : Bool, x.toList.isEmpty = B → Calls Tryd.prog 41 #[.pointer (some ⟨b, 0, none⟩)] w fun e w' => TokE w w' b s (if B then { kind := 0 } else { kind := 1, text := T }, V.drop 3) e := by
    intro B hnil2
    clear hnil
    go_enter Tryd.func41, Tryd.ntmps41
    go_wp2_with fail
    refine HRS.out.mono ?_
    rintro e w1 ⟨rfl, n, rfl⟩
    go_wp2_with fail
    refine (HCut.out _ (HE.out.drewN n)).mono ?_
    rintro e w1 ⟨y2, z2, rfl, m, rfl⟩
    go_wp2_with fail
    refine (HSK.out _ (HRD.out _)).mono ?_
    rintro e w3 ⟨⟨B3, rfl⟩, h3, h4⟩
    have R3 := hide h3
    have KR3 := hide (Kept.but ((KR0.out.drewN (n + m)).other ⟨b, 1, none⟩ (by simp only; omega) _) h4 (by omega))
    have BB3 := hide (((B0.out.drewN (n + m)).setCell 1 _).trans h4)
    clear h3 h4 KR0 B0 HSK HRD HCut HRS c1 fz HE
    obtain ⟨q0, q1, q2, q3, q4, qf⟩ := KR3.out.tok
    cases B with
    | true =>
      go_wp2
      refine bodyPost_ret (v := tokV { kind := 0 } (.slice none 0 0)) ?_ rfl ?_
      · rw [results_cell_one rfl]
        go_simp
        rfl
      · exact tokE_end { kind := 0 } BB3.out R3.out hlt rfl
    | false =>
      clear q0 q1 q2 q3 q4 qf
      go_wp2_with fail
      refine (HTT.out _).mono ?_
      rintro e w4 ⟨rfl, h4⟩
      have R4 := hide (R3.out.below h4)
      have KR4 := hide (Kept.below KR3.out h4)
      have B4 := hide (BB3.out.trans (.of h4))
      clear h4 KR3 R3 BB3
      obtain ⟨q0, q1, q2, q3, q4, qf⟩ := KR4.out.tok
      go_wp2
      refine bodyPost_ret (v := tokV { kind := 1, text := T } (.slice none 0 0)) ?_ rfl ?_
      · rw [results_cell_one rfl]
        go_simp
        rw [← HX.out]
        rfl
      · rw [← HX.out]
        exact tokE_end { kind := 1, text := T } B4.out R4.out hlt rfl
  have := hgo _ hnil
  cases T with
  | nil => exact this
  | cons c q => exact this
end Go.Proofs.YtlfjmgniflkapaaDoor
