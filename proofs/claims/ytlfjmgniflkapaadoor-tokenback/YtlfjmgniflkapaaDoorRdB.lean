/- The program's spaces, quoted, value and upToGreater: what they tell, and what is left. -/
import Derived.Test.YtlfjmgniflkapaaDoorRdA
import Derived.Test.YtlfjmgniflkapaaDoorTokD
set_option linter.unusedVariables false
set_option linter.unusedSimpArgs false
namespace Go.Proofs.YtlfjmgniflkapaaDoor
open Go.RowKit

theorem has_sp (c : UInt8) : hasB [32] c = isSp c := by
  unfold hasB
  cases h : isSp c with
  | true => rfl
  | false =>
    have h2 : c ≠ 32 := fun e => by subst e; exact absurd h (by decide)
    simp [h2]
theorem has_pass (c : UInt8) : hasB [32, 47] c = passB c := by
  unfold hasB passB
  cases h : isSp c with
  | true => rfl
  | false =>
    have h2 : c ≠ 32 := fun e => by subst e; exact absurd h (by decide)
    by_cases h3 : c = 47
    · subst h3; rfl
    · simp [h2, h3]
theorem has_name (c : UInt8) : nameB c = !hasB [32, 47, 62] c := by
  unfold hasB nameB
  cases h : isSp c with
  | true => rfl
  | false =>
    have h2 : c ≠ 32 := fun e => by subst e; exact absurd h (by decide)
    by_cases h3 : c = 47
    · subst h3; rfl
    · by_cases h4 : c = 62
      · subst h4; rfl
      · simp [h2, h3, h4]
theorem has_attr (c : UInt8) : attrB c = !hasB [32, 47, 62, 61] c := by
  unfold hasB attrB
  cases h : isSp c with
  | true => rfl
  | false =>
    have h2 : c ≠ 32 := fun e => by subst e; exact absurd h (by decide)
    by_cases h3 : c = 47
    · subst h3; rfl
    · by_cases h4 : c = 62
      · subst h4; rfl
      · by_cases h5 : c = 61
        · subst h5; rfl
        · simp [h2, h3, h4, h5]
theorem has_val (c : UInt8) : valB c = !hasB [32, 62] c := by
  unfold hasB valB
  cases h : isSp c with
  | true => rfl
  | false =>
    have h2 : c ≠ 32 := fun e => by subst e; exact absurd h (by decide)
    by_cases h3 : c = 62
    · subst h3; rfl
    · simp [h2, h3]
theorem has_one (q : UInt8) (hq : isSp q = false) (c : UInt8) : (c != q) = !hasB [q] c := by
  unfold hasB
  cases h : isSp c with
  | true =>
    have h1 : c ≠ q := fun e => by subst e; rw [h] at hq; cases hq
    have h2 : (32 : UInt8) ≠ q := fun e => by subst e; exact absurd hq (by decide)
    simp [h1, h2, bne]
  | false =>
    by_cases h3 : c = q
    · subst h3; simp [bne]
    · have h4 : ¬ q = c := fun e => h3 e.symm
      simp [bne, h3, h4]
theorem find_one (q : UInt8) : ∀ r : List UInt8, r.takeWhile (fun c => c != q) = (findR [q] r).1 ∧ r.dropWhile (fun c => c != q) = (findR [q] r).2
  | [] => ⟨rfl, rfl⟩
  | c :: r => by
    obtain ⟨h1, h2⟩ := find_one q r
    by_cases h : c = q
    · subst h
      simp [findR, List.isPrefixOf]
    · have hb : (c != q) = true := by simp [bne, h]
      have hb2 : (q == c) = false := by simp; exact fun e => h e.symm
      simp [findR, List.isPrefixOf, hb, hb2, h1, h2]
theorem find_head (q : UInt8) : ∀ r : List UInt8, (findR [q] r).2 = [] ∨ ∃ x, (findR [q] r).2 = q :: x
  | [] => .inl rfl
  | c :: r => by
    simp only [findR]
    split
    · rename_i h
      have : c = q := by
        simp [List.isPrefixOf] at h
        exact h.symm
      exact .inr ⟨r, by rw [this]⟩
    · exact find_head q r
theorem find_skip (q : UInt8) (r : List UInt8) : skipL [q] (findR [q] r).2 = (findR [q] r).2.drop 1 := by
  rcases find_head q r with h | ⟨x, h⟩
  · rw [h]; rfl
  · rw [h]
    unfold skipL
    rw [if_pos (by simp [List.isPrefixOf])]
    rfl

set_option maxHeartbeats 1000000 in
theorem spaces_any (s : ByteArray) (hs : s.size ≤ 100000) (b : Nat) (r : List UInt8) (w : World) (hR : RdL w b s r) :
    Calls Tryd.prog 66 #[.pointer (some ⟨b, 0, none⟩)] w fun e w' => e = .returned (.tuple #[]) ∧ RdL w' b s (r.dropWhile isSp) ∧ But b w w' := by
  have HU := hide (run_lacks s hs b r ⟨#[32]⟩ isSp (fun c => (has_sp c).symm) w hR)
  generalize r.takeWhile isSp = T at *
  generalize r.dropWhile isSp = V at *
  go_enter Tryd.func66, Tryd.ntmps66
  go_wp2_with fail
  refine HU.out.mono ?_
  rintro e w1 ⟨rfl, h2, h3⟩
  go_wp2
  go_end0
  exact ⟨rfl, h2, h3⟩

set_option maxHeartbeats 1000000 in
theorem quoted_any (s : ByteArray) (hs : s.size ≤ 100000) (b : Nat) (r : List UInt8) (q : UInt8) (hq : isSp q = false) (w : World) (hR : RdL w b s r) :
    Calls Tryd.prog 75 #[.pointer (some ⟨b, 0, none⟩), .string ⟨#[q]⟩] w fun e w' => e = .returned (.string ⟨(findR [q] r).1.toArray⟩) ∧ RdL w' b s ((findR [q] r).2.drop 1) ∧ But b w w' := by
  have hU := run_has s hs b r ⟨#[q]⟩ (fun c => c != q) (has_one q hq) w hR
  rw [(find_one q r).1, (find_one q r).2] at hU
  have HS := hide (fun w (h : RdL w b s (findR [q] r).2) => skip_any s hs b (findR [q] r).2 ⟨#[q]⟩ w h)
  have HE := hide (find_skip q r)
  have HU := hide hU
  clear hU
  generalize (findR [q] r).1 = T at *
  generalize (findR [q] r).2 = V at *
  generalize hx : (⟨#[q]⟩ : ByteArray) = x at *
  have HX := hide hx
  clear hx
  go_enter Tryd.func75, Tryd.ntmps75
  go_wp2_with fail
  refine HU.out.mono ?_
  rintro e w1 ⟨rfl, h2, h3⟩
  have H2 := hide h2
  have H3 := hide h3
  clear h2 h3
  go_wp2_with fail
  refine (HS.out _ H2.out).mono ?_
  rintro e w2 ⟨rfl, h4, h5⟩
  go_wp2
  go_ret
  refine ⟨rfl, ?_, H3.out.trans h5⟩
  rw [← HE.out]
  have := h4
  rw [← HX.out] at this
  exact this

set_option maxHeartbeats 1000000 in
theorem upToG_any (s : ByteArray) (hs : s.size ≤ 100000) (b : Nat) (r : List UInt8) (w : World) (hR : RdL w b s r) :
    Calls Tryd.prog 40 #[.pointer (some ⟨b, 0, none⟩)] w fun e w' => e = .returned (.string ⟨(findR [62] r).1.toArray⟩) ∧ RdL w' b s ((findR [62] r).2.drop 1) ∧ But b w w' := by
  have hU := run_has s hs b r ⟨#[62]⟩ (fun c => c != 62) (has_one 62 rfl) w hR
  rw [(find_one 62 r).1, (find_one 62 r).2] at hU
  have HS := hide (fun w (h : RdL w b s (findR [62] r).2) => skip_any s hs b (findR [62] r).2 ⟨#[62]⟩ w h)
  have HE := hide (find_skip 62 r)
  have HU := hide hU
  clear hU
  generalize (findR [62] r).1 = T at *
  generalize (findR [62] r).2 = V at *
  go_enter Tryd.func40, Tryd.ntmps40
  go_wp2_with fail
  refine HU.out.mono ?_
  rintro e w1 ⟨rfl, h2, h3⟩
  have H2 := hide h2
  have H3 := hide h3
  clear h2 h3
  go_wp2_with fail
  refine (HS.out _ H2.out).mono ?_
  rintro e w2 ⟨rfl, h4, h5⟩
  go_wp2
  go_ret
  refine ⟨rfl, ?_, H3.out.trans h5⟩
  rw [← HE.out]
  exact h4

/-- An attribute's value as it stands, and what is left. -/
def rawV (r : List UInt8) : List UInt8 × List UInt8 :=
  if [34].isPrefixOf r then ((findR [34] (r.drop 1)).1, (findR [34] (r.drop 1)).2.drop 1) else if [39].isPrefixOf r then ((findR [39] (r.drop 1)).1, (findR [39] (r.drop 1)).2.drop 1) else (r.takeWhile valB, r.dropWhile valB)
theorem rawV_value (r : List UInt8) : valueL r = (decL true (rawV r).1, (rawV r).2) := by
  cases r with
  | nil => simp [valueL, rawV, decL_nil]
  | cons c q =>
    unfold valueL rawV
    simp only
    by_cases h1 : c = 62
    · subst h1
      rw [if_pos rfl, if_neg (by simp [List.isPrefixOf]), if_neg (by simp [List.isPrefixOf])]
      have : valB 62 = false := rfl
      simp [List.takeWhile_cons, List.dropWhile_cons, this, decL_nil]
    · rw [if_neg h1]
      by_cases h2 : c = 34
      · subst h2
        simp [List.isPrefixOf]
      · by_cases h3 : c = 39
        · subst h3
          simp [List.isPrefixOf]
        · have e1 : ¬ (34 : UInt8) = c := fun e => h2 e.symm
          have e2 : ¬ (39 : UInt8) = c := fun e => h3 e.symm
          simp [List.isPrefixOf, h2, h3, e1, e2]

set_option maxHeartbeats 1000000 in
theorem pvalue_any (s : ByteArray) (hs : s.size ≤ 100000) (b : Nat) (r : List UInt8) (w : World) (hR : RdL w b s r) :
    Calls Tryd.prog 67 #[.pointer (some ⟨b, 0, none⟩)] w fun e w' => e = .returned (.string ⟨(rawV r).1.toArray⟩) ∧ RdL w' b s (rawV r).2 ∧ But b w w' := by
  have hK := skip_any s hs b r ⟨#[34]⟩ w hR
  unfold rawV
  cases h1 : ([34] : List UInt8).isPrefixOf r with
  | true =>
    rw [if_pos rfl]
    have e1 : skipL [34] r = r.drop 1 := by unfold skipL; rw [h1]; rfl
    have HK : Hid (Calls Tryd.prog 27 #[.pointer (some ⟨b, 0, none⟩), .string ⟨#[34]⟩] w fun e w' => e = .returned (.bool true) ∧ RdL w' b s (r.drop 1) ∧ But b w w') := by
      rw [← h1, ← e1]; exact hK
    have HQ := hide (fun w (h : RdL w b s (r.drop 1)) => quoted_any s hs b (r.drop 1) 34 rfl w h)
    clear hK e1 h1 hR
    generalize (findR [34] (r.drop 1)).1 = T at *
    generalize (findR [34] (r.drop 1)).2 = V at *
    generalize r.drop 1 = r1 at *
    go_enter Tryd.func67, Tryd.ntmps67
    go_wp2_with fail
    refine HK.out.mono ?_
    rintro e w1 ⟨rfl, h2, h3⟩
    have H2 := hide h2
    have H3 := hide h3
    clear h2 h3
    go_wp2_with fail
    refine (HQ.out _ H2.out).mono ?_
    rintro e w2 ⟨rfl, h4, h5⟩
    go_wp2
    go_ret
    exact ⟨rfl, h4, H3.out.trans h5⟩
  | false =>
    rw [if_neg (by decide)]
    have e1 : skipL [34] r = r := by unfold skipL; rw [h1]; rfl
    have HK : Hid (Calls Tryd.prog 27 #[.pointer (some ⟨b, 0, none⟩), .string ⟨#[34]⟩] w fun e w' => e = .returned (.bool false) ∧ RdL w' b s r ∧ But b w w') := by
      refine hide ?_
      have := hK
      rw [show skipL (⟨#[34]⟩ : ByteArray).data.toList r = r from e1, show (⟨#[34]⟩ : ByteArray).data.toList.isPrefixOf r = false from h1] at this
      exact this
    have hK2 := fun w (h : RdL w b s r) => skip_any s hs b r ⟨#[39]⟩ w h
    cases h2 : ([39] : List UInt8).isPrefixOf r with
    | true =>
      rw [if_pos rfl]
      have e2 : skipL [39] r = r.drop 1 := by unfold skipL; rw [h2]; rfl
      have HK2 : Hid (∀ w, RdL w b s r → Calls Tryd.prog 27 #[.pointer (some ⟨b, 0, none⟩), .string ⟨#[39]⟩] w fun e w' => e = .returned (.bool true) ∧ RdL w' b s (r.drop 1) ∧ But b w w') := by
        rw [← h2, ← e2]; exact hK2
      have HQ := hide (fun w (h : RdL w b s (r.drop 1)) => quoted_any s hs b (r.drop 1) 39 rfl w h)
      clear hK e1 h1 hR hK2 e2 h2
      generalize (findR [39] (r.drop 1)).1 = T at *
      generalize (findR [39] (r.drop 1)).2 = V at *
      generalize r.drop 1 = r1 at *
      go_enter Tryd.func67, Tryd.ntmps67
      go_wp2_with fail
      refine HK.out.mono ?_
      rintro e w1 ⟨rfl, h2, h3⟩
      have H2 := hide h2
      have H3 := hide h3
      clear h2 h3
      go_wp2_with fail
      refine (HK2.out _ H2.out).mono ?_
      rintro e w2 ⟨rfl, h4, h5⟩
      have H4 := hide h4
      have H5 := hide h5
      clear h4 h5
      go_wp2_with fail
      refine (HQ.out _ H4.out).mono ?_
      rintro e w3 ⟨rfl, h6, h7⟩
      go_wp2
      go_ret
      exact ⟨rfl, h6, (H3.out.trans H5.out).trans h7⟩
    | false =>
      rw [if_neg (by decide)]
      have e2 : skipL [39] r = r := by unfold skipL; rw [h2]; rfl
      have HK2 : Hid (∀ w, RdL w b s r → Calls Tryd.prog 27 #[.pointer (some ⟨b, 0, none⟩), .string ⟨#[39]⟩] w fun e w' => e = .returned (.bool false) ∧ RdL w' b s r ∧ But b w w') := by
        refine hide fun w h => ?_
        have := hK2 w h
        rw [show skipL (⟨#[39]⟩ : ByteArray).data.toList r = r from e2, show (⟨#[39]⟩ : ByteArray).data.toList.isPrefixOf r = false from h2] at this
        exact this
      have HU := hide (fun w (h : RdL w b s r) => run_has s hs b r ⟨#[32, 62]⟩ valB has_val w h)
      clear hK e1 h1 hR hK2 e2 h2
      generalize r.takeWhile valB = T at *
      generalize r.dropWhile valB = V at *
      go_enter Tryd.func67, Tryd.ntmps67
      go_wp2_with fail
      refine HK.out.mono ?_
      rintro e w1 ⟨rfl, h2, h3⟩
      have H2 := hide h2
      have H3 := hide h3
      clear h2 h3
      go_wp2_with fail
      refine (HK2.out _ H2.out).mono ?_
      rintro e w2 ⟨rfl, h4, h5⟩
      have H4 := hide h4
      have H5 := hide h5
      clear h4 h5
      go_wp2_with fail
      refine (HU.out _ H4.out).mono ?_
      rintro e w3 ⟨rfl, h6, h7⟩
      go_wp2
      go_ret
      exact ⟨rfl, h6, (H3.out.trans H5.out).trans h7⟩
end Go.Proofs.YtlfjmgniflkapaaDoor
