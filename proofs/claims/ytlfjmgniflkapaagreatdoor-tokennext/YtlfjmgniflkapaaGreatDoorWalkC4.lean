/- What the document's own begins, other and cdata answer; nothing that was there is written. -/
import Derived.Test.YtlfjmgniflkapaaGreatDoorWalkB4
import Derived.Test.YtlfjmgniflkapaaGreatDoorWalkA
import Derived.Laws.ResultCell
set_option linter.unusedVariables false
set_option linter.unusedSimpArgs false
namespace Go.Proofs.YtlfjmgniflkapaaGreatDoor
open Go.RowKit

set_option maxHeartbeats 1000000 in
theorem other_any (s : ByteArray) (hs : s.size ≤ 1000000) (p : Nat) (hp : p ≤ s.size) (w : World) :
    Calls Tryz.prog 30 #[.string s, .int .i64 (p : Int)] w fun e w' => e = .returned (.tuple #[tokV { kind := 4, text := (findR [62] (s.data.toList.drop p)).1 } (.slice none 0 0), .int .i64 (s.size - ((findR [62] (s.data.toList.drop p)).2.drop 1).length : Nat)]) ∧ Below w.heap.size w w' := by
  have hf := find_any s ⟨#[62]⟩ hs (by decide) (by decide) p hp
  have hap := findR_app [62] (s.data.toList.drop p)
  have hcut := cut_at s p hp _ _ hap
  have hle := findR_le [62] (s.data.toList.drop p)
  rw [List.length_drop, ← size_list] at hle
  clear hap
  have HF : Hid (∀ w, Calls Tryz.prog 54 #[.string s, .int .i64 (p : Int), .string ⟨#[62]⟩] w fun e w' => e = .returned (.int .i64 (s.size - (findR [62] (s.data.toList.drop p)).2.length : Nat)) ∧ w' = w) := hide hf
  clear hf
  generalize (findR [62] (s.data.toList.drop p)).1 = T at *
  generalize (findR [62] (s.data.toList.drop p)).2 = V at *
  have hN : ((s.size - (V.drop 1).length : Nat) : Int) = min (((s.size - V.length : Nat) : Int) + 1) s.size := by rw [List.length_drop]; omega
  have HC := hide hcut.1
  have hE1 : p ≤ s.size - V.length := hcut.2
  have hE2 : s.size - V.length ≤ s.size := by omega
  clear hcut hle
  generalize s.size - (V.drop 1).length = N at *
  generalize s.size - V.length = E at *
  have HN := hide hN
  clear hN
  go_enter Tryz.func30, Tryz.ntmps30
  go_wp2_with fail
  refine (HF.out _).mono ?_
  rintro e w1 ⟨rfl, rfl⟩
  go_wp2
  all_goals (try simp only [Exit.inBlock, Exit.then])
  all_goals refine bodyPost_ret (v := .tuple #[tokV { kind := 4, text := T } (.slice none 0 0), .int .i64 (N : Nat)]) ?_ rfl ⟨rfl, below_alloc w _⟩
  all_goals (rw [results_cell_tmp rfl]; go_simp)
  all_goals (refine ⟨by rw [HC.out]; rfl, ?_⟩; have := HN.out; omega)

set_option maxHeartbeats 1000000 in
theorem cdata_any (s : ByteArray) (hs : s.size ≤ 1000000) (p : Nat) (hp : p ≤ s.size) (w : World) :
    Calls Tryz.prog 32 #[.string s, .int .i64 (p : Int)] w fun e w' => e = .returned (.tuple #[tokV { kind := 1, text := (findR [93, 93, 62] (s.data.toList.drop p)).1 } (.slice none 0 0), .int .i64 (s.size - ((findR [93, 93, 62] (s.data.toList.drop p)).2.drop 3).length : Nat)]) ∧ Below w.heap.size w w' := by
  have hf := find_any s ⟨#[93, 93, 62]⟩ hs (by decide) (by decide) p hp
  have hap := findR_app [93, 93, 62] (s.data.toList.drop p)
  have hcut := cut_at s p hp _ _ hap
  have hle := findR_le [93, 93, 62] (s.data.toList.drop p)
  rw [List.length_drop, ← size_list] at hle
  clear hap
  have HF : Hid (∀ w, Calls Tryz.prog 54 #[.string s, .int .i64 (p : Int), .string ⟨#[93, 93, 62]⟩] w fun e w' => e = .returned (.int .i64 (s.size - (findR [93, 93, 62] (s.data.toList.drop p)).2.length : Nat)) ∧ w' = w) := hide hf
  clear hf
  generalize (findR [93, 93, 62] (s.data.toList.drop p)).1 = T at *
  generalize (findR [93, 93, 62] (s.data.toList.drop p)).2 = V at *
  have hN : ((s.size - (V.drop 3).length : Nat) : Int) = min (((s.size - V.length : Nat) : Int) + 3) s.size := by rw [List.length_drop]; omega
  have HC := hide hcut.1
  have hE1 : p ≤ s.size - V.length := hcut.2
  have hE2 : s.size - V.length ≤ s.size := by omega
  clear hcut hle
  generalize s.size - (V.drop 3).length = N at *
  generalize s.size - V.length = E at *
  have HN := hide hN
  clear hN
  go_enter Tryz.func32, Tryz.ntmps32
  go_wp2_with fail
  refine (HF.out _).mono ?_
  rintro e w1 ⟨rfl, rfl⟩
  go_wp2
  all_goals (try simp only [Exit.inBlock, Exit.then])
  all_goals refine bodyPost_ret (v := .tuple #[tokV { kind := 1, text := T } (.slice none 0 0), .int .i64 (N : Nat)]) ?_ rfl ⟨rfl, below_alloc w _⟩
  all_goals (rw [results_cell_tmp rfl]; go_simp)
  all_goals (refine ⟨by rw [HC.out]; rfl, ?_⟩; have := HN.out; omega)

theorem begins_at (s : ByteArray) (p : Nat) : beginsB (s.data.toList.drop p) = (hereL s ⟨#[60]⟩ p && match (s.data.toList.drop p)[1]? with | none => false | some c => letterN c.toNat || c.toNat == 33 || c.toNat == 63 || (c.toNat == 47 && decide (p + 2 < s.size))) := by
  have hlen : (s.data.toList.drop p).length = s.size - p := by rw [List.length_drop, ← size_list]
  unfold hereL
  show _ = (([60] : List UInt8).isPrefixOf (s.data.toList.drop p) && _)
  match hq : s.data.toList.drop p with
  | [] => simp [beginsB, List.isPrefixOf]
  | [a] => simp [beginsB, List.isPrefixOf]
  | a :: c :: q =>
    rw [hq] at hlen
    simp only [List.length_cons] at hlen
    have hq2 : (!q.isEmpty) = decide (p + 2 < s.size) := by
      cases q with
      | nil => simp at hlen ⊢; omega
      | cons x y => simp at hlen ⊢; omega
    have e : ∀ k : UInt8, (c == k) = (c.toNat == k.toNat) := by
      intro k
      rw [Bool.eq_iff_iff]
      simp [UInt8.toNat_inj]
    have ea : (a == 60) = (60 == a) := by rw [Bool.eq_iff_iff]; simp; exact ⟨fun h => h.symm, fun h => h.symm⟩
    simp only [beginsB, List.isPrefixOf, Bool.and_true, List.getElem?_cons_succ, List.getElem?_cons_zero]
    rw [hq2, e 33, e 63, e 47, ea]
    rfl
set_option maxHeartbeats 1000000 in
theorem begins_no (s : ByteArray) (hs : s.size ≤ 1000000) (p : Nat) (hp : p ≤ s.size) (hh : hereL s ⟨#[60]⟩ p = false) (w : World) :
    Calls Tryz.prog 26 #[.string s, .int .i64 (p : Int)] w fun e w' => e = .returned (.bool false) ∧ w' = w := by
  have HH : Hid (∀ w, Calls Tryz.prog 28 #[.string s, .int .i64 (p : Int), .string ⟨#[60]⟩] w fun e w' => e = .returned (.bool (hereL s ⟨#[60]⟩ p)) ∧ w' = w) := hide (here_any s ⟨#[60]⟩ hs (by decide) (by decide) p (by omega))
  rw [hh] at HH
  clear hh
  go_enter Tryz.func26, Tryz.ntmps26
  go_wp2_with fail
  refine (HH.out _).mono ?_
  rintro e w1 ⟨rfl, rfl⟩
  go_wp2
  go_ret
  exact ⟨by first | rfl | (simp; omega), rfl⟩
set_option maxHeartbeats 1000000 in
theorem begins_end (s : ByteArray) (hs : s.size ≤ 1000000) (p : Nat) (hp : p ≤ s.size) (hh : hereL s ⟨#[60]⟩ p = true) (he : s.size ≤ p + 1) (w : World) :
    Calls Tryz.prog 26 #[.string s, .int .i64 (p : Int)] w fun e w' => e = .returned (.bool false) ∧ w' = w := by
  have HH : Hid (∀ w, Calls Tryz.prog 28 #[.string s, .int .i64 (p : Int), .string ⟨#[60]⟩] w fun e w' => e = .returned (.bool (hereL s ⟨#[60]⟩ p)) ∧ w' = w) := hide (here_any s ⟨#[60]⟩ hs (by decide) (by decide) p (by omega))
  rw [hh] at HH
  have d1 : (s.size : Int) ≤ (p : Int) + 1 := by omega
  clear hh he
  go_enter Tryz.func26, Tryz.ntmps26
  go_wp2_with fail
  refine (HH.out _).mono ?_
  rintro e w1 ⟨rfl, rfl⟩
  go_wp2
  go_ret
  exact ⟨by first | rfl | (simp; omega), rfl⟩
set_option maxHeartbeats 1000000 in
theorem begins_letter (s : ByteArray) (hs : s.size ≤ 1000000) (p : Nat) (hp : p ≤ s.size) (hh : hereL s ⟨#[60]⟩ p = true) (he : p + 1 < s.size) (hl : letterN (s[p + 1]).toNat = true) (w : World) :
    Calls Tryz.prog 26 #[.string s, .int .i64 (p : Int)] w fun e w' => e = .returned (.bool true) ∧ w' = w := by
  have HH : Hid (∀ w, Calls Tryz.prog 28 #[.string s, .int .i64 (p : Int), .string ⟨#[60]⟩] w fun e w' => e = .returned (.bool (hereL s ⟨#[60]⟩ p)) ∧ w' = w) := hide (here_any s ⟨#[60]⟩ hs (by decide) (by decide) p (by omega))
  rw [hh] at HH
  have d1 : ¬ (s.size : Int) ≤ (p : Int) + 1 := by omega
  have HLT := hide (rletter_any (s[p + 1]).toNat)
  rw [hl] at HLT
  clear hh hl
  go_enter Tryz.func26, Tryz.ntmps26
  go_wp2_with fail
  refine (HH.out _).mono ?_
  rintro e w1 ⟨rfl, rfl⟩
  go_wp2_with fail
  refine (HLT.out _).mono ?_
  rintro e w2 ⟨rfl, rfl⟩
  go_wp2
  go_ret
  exact ⟨by first | rfl | (simp; omega), rfl⟩
set_option maxHeartbeats 1000000 in
theorem begins_33 (s : ByteArray) (hs : s.size ≤ 1000000) (p : Nat) (hp : p ≤ s.size) (hh : hereL s ⟨#[60]⟩ p = true) (he : p + 1 < s.size) (hl : letterN (s[p + 1]).toNat = false) (h33 : (s[p + 1]).toNat = 33) (w : World) :
    Calls Tryz.prog 26 #[.string s, .int .i64 (p : Int)] w fun e w' => e = .returned (.bool true) ∧ w' = w := by
  have HH : Hid (∀ w, Calls Tryz.prog 28 #[.string s, .int .i64 (p : Int), .string ⟨#[60]⟩] w fun e w' => e = .returned (.bool (hereL s ⟨#[60]⟩ p)) ∧ w' = w) := hide (here_any s ⟨#[60]⟩ hs (by decide) (by decide) p (by omega))
  rw [hh] at HH
  have d1 : ¬ (s.size : Int) ≤ (p : Int) + 1 := by omega
  have HLT := hide (rletter_any (s[p + 1]).toNat)
  rw [hl] at HLT
  have d2 := eq_lit _ 33 (by omega : ((s[p + 1]).toNat : Int) = 33)
  clear hh hl h33
  go_enter Tryz.func26, Tryz.ntmps26
  go_wp2_with fail
  refine (HH.out _).mono ?_
  rintro e w1 ⟨rfl, rfl⟩
  go_wp2_with fail
  refine (HLT.out _).mono ?_
  rintro e w2 ⟨rfl, rfl⟩
  go_wp2
  go_ret
  exact ⟨by first | rfl | (simp; omega), rfl⟩
set_option maxHeartbeats 1000000 in
theorem begins_63 (s : ByteArray) (hs : s.size ≤ 1000000) (p : Nat) (hp : p ≤ s.size) (hh : hereL s ⟨#[60]⟩ p = true) (he : p + 1 < s.size) (hl : letterN (s[p + 1]).toNat = false) (h63 : (s[p + 1]).toNat = 63) (w : World) :
    Calls Tryz.prog 26 #[.string s, .int .i64 (p : Int)] w fun e w' => e = .returned (.bool true) ∧ w' = w := by
  have HH : Hid (∀ w, Calls Tryz.prog 28 #[.string s, .int .i64 (p : Int), .string ⟨#[60]⟩] w fun e w' => e = .returned (.bool (hereL s ⟨#[60]⟩ p)) ∧ w' = w) := hide (here_any s ⟨#[60]⟩ hs (by decide) (by decide) p (by omega))
  rw [hh] at HH
  have d1 : ¬ (s.size : Int) ≤ (p : Int) + 1 := by omega
  have HLT := hide (rletter_any (s[p + 1]).toNat)
  rw [hl] at HLT
  have d2 := ne_lit _ 33 (by omega : ((s[p + 1]).toNat : Int) ≠ 33)
  have d3 := eq_lit _ 63 (by omega : ((s[p + 1]).toNat : Int) = 63)
  clear hh hl h63
  go_enter Tryz.func26, Tryz.ntmps26
  go_wp2_with fail
  refine (HH.out _).mono ?_
  rintro e w1 ⟨rfl, rfl⟩
  go_wp2_with fail
  refine (HLT.out _).mono ?_
  rintro e w2 ⟨rfl, rfl⟩
  go_wp2
  go_ret
  exact ⟨by first | rfl | (simp; omega), rfl⟩
set_option maxHeartbeats 1000000 in
theorem begins_47 (s : ByteArray) (hs : s.size ≤ 1000000) (p : Nat) (hp : p ≤ s.size) (hh : hereL s ⟨#[60]⟩ p = true) (he : p + 1 < s.size) (hl : letterN (s[p + 1]).toNat = false) (h47 : (s[p + 1]).toNat = 47) (h2 : p + 2 < s.size) (w : World) :
    Calls Tryz.prog 26 #[.string s, .int .i64 (p : Int)] w fun e w' => e = .returned (.bool true) ∧ w' = w := by
  have HH : Hid (∀ w, Calls Tryz.prog 28 #[.string s, .int .i64 (p : Int), .string ⟨#[60]⟩] w fun e w' => e = .returned (.bool (hereL s ⟨#[60]⟩ p)) ∧ w' = w) := hide (here_any s ⟨#[60]⟩ hs (by decide) (by decide) p (by omega))
  rw [hh] at HH
  have d1 : ¬ (s.size : Int) ≤ (p : Int) + 1 := by omega
  have HLT := hide (rletter_any (s[p + 1]).toNat)
  rw [hl] at HLT
  have d2 := ne_lit _ 33 (by omega : ((s[p + 1]).toNat : Int) ≠ 33)
  have d3 := ne_lit _ 63 (by omega : ((s[p + 1]).toNat : Int) ≠ 63)
  have d4 := eq_lit _ 47 (by omega : ((s[p + 1]).toNat : Int) = 47)
  have d5 : (p : Int) + 2 < s.size := by omega
  clear hh hl h47
  go_enter Tryz.func26, Tryz.ntmps26
  go_wp2_with fail
  refine (HH.out _).mono ?_
  rintro e w1 ⟨rfl, rfl⟩
  go_wp2_with fail
  refine (HLT.out _).mono ?_
  rintro e w2 ⟨rfl, rfl⟩
  go_wp2
  go_ret
  exact ⟨by first | rfl | (simp; omega), rfl⟩
set_option maxHeartbeats 1000000 in
theorem begins_47e (s : ByteArray) (hs : s.size ≤ 1000000) (p : Nat) (hp : p ≤ s.size) (hh : hereL s ⟨#[60]⟩ p = true) (he : p + 1 < s.size) (hl : letterN (s[p + 1]).toNat = false) (h47 : (s[p + 1]).toNat = 47) (h2 : ¬ p + 2 < s.size) (w : World) :
    Calls Tryz.prog 26 #[.string s, .int .i64 (p : Int)] w fun e w' => e = .returned (.bool false) ∧ w' = w := by
  have HH : Hid (∀ w, Calls Tryz.prog 28 #[.string s, .int .i64 (p : Int), .string ⟨#[60]⟩] w fun e w' => e = .returned (.bool (hereL s ⟨#[60]⟩ p)) ∧ w' = w) := hide (here_any s ⟨#[60]⟩ hs (by decide) (by decide) p (by omega))
  rw [hh] at HH
  have d1 : ¬ (s.size : Int) ≤ (p : Int) + 1 := by omega
  have HLT := hide (rletter_any (s[p + 1]).toNat)
  rw [hl] at HLT
  have d2 := ne_lit _ 33 (by omega : ((s[p + 1]).toNat : Int) ≠ 33)
  have d3 := ne_lit _ 63 (by omega : ((s[p + 1]).toNat : Int) ≠ 63)
  have d4 := eq_lit _ 47 (by omega : ((s[p + 1]).toNat : Int) = 47)
  have d5 : ¬ (p : Int) + 2 < s.size := by omega
  clear hh hl h47
  go_enter Tryz.func26, Tryz.ntmps26
  go_wp2_with fail
  refine (HH.out _).mono ?_
  rintro e w1 ⟨rfl, rfl⟩
  go_wp2_with fail
  refine (HLT.out _).mono ?_
  rintro e w2 ⟨rfl, rfl⟩
  go_wp2
  go_ret
  exact ⟨by first | rfl | (simp; omega), rfl⟩
set_option maxHeartbeats 1000000 in
theorem begins_other (s : ByteArray) (hs : s.size ≤ 1000000) (p : Nat) (hp : p ≤ s.size) (hh : hereL s ⟨#[60]⟩ p = true) (he : p + 1 < s.size) (hl : letterN (s[p + 1]).toNat = false) (h33 : (s[p + 1]).toNat ≠ 33) (h63 : (s[p + 1]).toNat ≠ 63) (h47 : (s[p + 1]).toNat ≠ 47) (w : World) :
    Calls Tryz.prog 26 #[.string s, .int .i64 (p : Int)] w fun e w' => e = .returned (.bool false) ∧ w' = w := by
  have HH : Hid (∀ w, Calls Tryz.prog 28 #[.string s, .int .i64 (p : Int), .string ⟨#[60]⟩] w fun e w' => e = .returned (.bool (hereL s ⟨#[60]⟩ p)) ∧ w' = w) := hide (here_any s ⟨#[60]⟩ hs (by decide) (by decide) p (by omega))
  rw [hh] at HH
  have d1 : ¬ (s.size : Int) ≤ (p : Int) + 1 := by omega
  have HLT := hide (rletter_any (s[p + 1]).toNat)
  rw [hl] at HLT
  have d2 := ne_lit _ 33 (by omega : ((s[p + 1]).toNat : Int) ≠ 33)
  have d3 := ne_lit _ 63 (by omega : ((s[p + 1]).toNat : Int) ≠ 63)
  have d4 := ne_lit _ 47 (by omega : ((s[p + 1]).toNat : Int) ≠ 47)
  clear hh hl h33 h63 h47
  go_enter Tryz.func26, Tryz.ntmps26
  go_wp2_with fail
  refine (HH.out _).mono ?_
  rintro e w1 ⟨rfl, rfl⟩
  go_wp2_with fail
  refine (HLT.out _).mono ?_
  rintro e w2 ⟨rfl, rfl⟩
  go_wp2
  go_ret
  exact ⟨by first | rfl | (simp; omega), rfl⟩
theorem begins_any (s : ByteArray) (hs : s.size ≤ 1000000) (p : Nat) (hp : p ≤ s.size) (w : World) :
    Calls Tryz.prog 26 #[.string s, .int .i64 (p : Int)] w fun e w' => e = .returned (.bool (beginsB (s.data.toList.drop p))) ∧ w' = w := by
  rw [begins_at]
  cases hh : hereL s ⟨#[60]⟩ p
  · exact begins_no s hs p hp hh w
  by_cases he : p + 1 < s.size
  · rw [drop_at s p 1 he]
    simp only [Bool.true_and]
    cases hl : letterN (s[p + 1]).toNat
    · by_cases h33 : (s[p + 1]).toNat = 33
      · rw [h33]; exact begins_33 s hs p hp hh he hl h33 w
      rw [show ((s[p + 1]).toNat == 33) = false from beq_eq_false_iff_ne.2 h33]
      by_cases h63 : (s[p + 1]).toNat = 63
      · rw [h63]; exact begins_63 s hs p hp hh he hl h63 w
      rw [show ((s[p + 1]).toNat == 63) = false from beq_eq_false_iff_ne.2 h63]
      by_cases h47 : (s[p + 1]).toNat = 47
      · rw [h47]
        by_cases h2 : p + 2 < s.size
        · rw [decide_eq_true h2]; exact begins_47 s hs p hp hh he hl h47 h2 w
        · rw [decide_eq_false h2]; exact begins_47e s hs p hp hh he hl h47 h2 w
      · rw [show ((s[p + 1]).toNat == 47) = false from beq_eq_false_iff_ne.2 h47]
        exact begins_other s hs p hp hh he hl h33 h63 h47 w
    · exact begins_letter s hs p hp hh he hl w
  · rw [drop_at_end s p 1 (by omega)]
    exact begins_end s hs p hp hh (by omega) w
end Go.Proofs.YtlfjmgniflkapaaGreatDoor
