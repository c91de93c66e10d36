/- What the document's own At answers, at whatever place of whatever text: by name; nothing that was there is written. -/
import Derived.Test.YtlfjmgniflkapaaGreatDoorWalkG
set_option linter.unusedVariables false
set_option linter.unusedSimpArgs false
namespace Go.Proofs.YtlfjmgniflkapaaGreatDoor
open Go.RowKit

theorem rlongest_next (s : ByteArray) (hs : s.size ≤ 1000000) (p : Nat) (hp : p + 1 ≤ s.size) (st : Option (Nat × Nat)) (hst : longL (s.data.toList.drop (p + 1)) = st) (w : World) :
    Calls Tryz.prog 60 #[.string s, .int .i64 ((p : Int) + 1)] w fun e w' => e = .returned (.tuple #[.string ⟨(textOf st).toArray⟩, .int .i64 (lenOf st : Nat)]) ∧ Below w.heap.size w w' := by
  have h := rlongest_any s hs (p + 1) hp w
  rw [hst, show ((p + 1 : Nat) : Int) = (p : Int) + 1 by omega] at h
  exact h
set_option maxHeartbeats 2000000 in
theorem rat_end (s : ByteArray) (hs : s.size ≤ 1000000) (p : Nat) (hp : p + 1 = s.size) {attr : Bool} (hc : (s[p]).toNat = 38) (w : World) :
    Calls Tryz.prog 36 #[.string s, .int .i64 (p : Int), .bool attr] w fun e w' => e = .returned (.tuple #[.string ⟨([38] : List UInt8).toArray⟩, .int .i64 (1 : Nat)]) ∧ Below w.heap.size w w' := by
  have d0 : ((s[p].toNat : Int) != 38) = false := by simp; omega
  have d1 : ¬ (s.size : Int) ≤ p := by omega
  have HN := hide (rlongest_next s hs p (by omega) none (by rw [drop_end s (p + 1) (by omega)]; decide +kernel))
  have d2 : ¬ (p : Int) + 1 < s.size := by omega
  clear hc
  go_enter Tryz.func36, Tryz.ntmps36
  go_wp2_with fail
  refine (HN.out _).mono ?_
  rintro e w1 ⟨rfl, b1⟩
  go_wp2
  go_ret2
  exact ⟨by first | rfl | go_num, b1⟩
set_option maxHeartbeats 2000000 in
theorem rat_none (s : ByteArray) (hs : s.size ≤ 1000000) (p : Nat) (hp : p + 1 < s.size) (h35 : (s[p + 1]).toNat ≠ 35) (hst : longL (s.data.toList.drop (p + 1)) = none) {attr : Bool} (hc : (s[p]).toNat = 38) (w : World) :
    Calls Tryz.prog 36 #[.string s, .int .i64 (p : Int), .bool attr] w fun e w' => e = .returned (.tuple #[.string ⟨([38] : List UInt8).toArray⟩, .int .i64 (1 : Nat)]) ∧ Below w.heap.size w w' := by
  have d0 : ((s[p].toNat : Int) != 38) = false := by simp; omega
  have d1 : ¬ (s.size : Int) ≤ p := by omega
  have HN := hide (rlongest_next s hs p (by omega) none hst)
  have d2 : (p : Int) + 1 < s.size := by omega
  have d3 := ne_lit _ 35 (by omega : ((s[p + 1]).toNat : Int) ≠ 35)
  clear hc h35 hst
  go_enter Tryz.func36, Tryz.ntmps36
  go_wp2_with fail
  refine (HN.out _).mono ?_
  rintro e w1 ⟨rfl, b1⟩
  go_wp2
  go_ret2
  exact ⟨by first | rfl | go_num, b1⟩
set_option maxHeartbeats 2000000 in
theorem rat_plain (s : ByteArray) (hs : s.size ≤ 1000000) (p : Nat) (hp : p + 1 < s.size) (h35 : (s[p + 1]).toNat ≠ 35) (c m : Nat) (hst : longL (s.data.toList.drop (p + 1)) = some (c, m)) (hm : 1 ≤ m) (hm2 : p + 1 + m ≤ s.size) (hc : (s[p]).toNat = 38) (w : World) :
    Calls Tryz.prog 36 #[.string s, .int .i64 (p : Int), .bool false] w fun e w' => e = .returned (.tuple #[.string ⟨(Lib.encodeRune (c : Int) : List UInt8).toArray⟩, .int .i64 (m + 1 : Nat)]) ∧ Below w.heap.size w w' := by
  have d0 : ((s[p].toNat : Int) != 38) = false := by simp; omega
  have d1 : ¬ (s.size : Int) ≤ p := by omega
  have HN := hide (rlongest_next s hs p (by omega) (some (c, m)) hst)
  rw [(st_some c m).1, (st_some c m).2] at HN
  have d2 : (p : Int) + 1 < s.size := by omega
  have d3 := ne_lit _ 35 (by omega : ((s[p + 1]).toNat : Int) ≠ 35)
  have d4 := ne_lit m 0 (by omega)
  clear hc h35 hst
  generalize Lib.encodeRune (c : Int) = T at *
  go_enter Tryz.func36, Tryz.ntmps36
  go_wp2_with fail
  refine (HN.out _).mono ?_
  rintro e w1 ⟨rfl, b1⟩
  go_wp2
  go_ret2
  exact ⟨by first | rfl | go_num, b1⟩
set_option maxHeartbeats 2000000 in
theorem rat_semi (s : ByteArray) (hs : s.size ≤ 1000000) (p : Nat) (hp : p + 1 < s.size) (h35 : (s[p + 1]).toNat ≠ 35) (c m : Nat) (hst : longL (s.data.toList.drop (p + 1)) = some (c, m)) (hm : 1 ≤ m) (hm2 : p + 1 + m ≤ s.size) (h59 : (s[p + m]).toNat = 59) (hc : (s[p]).toNat = 38) (w : World) :
    Calls Tryz.prog 36 #[.string s, .int .i64 (p : Int), .bool true] w fun e w' => e = .returned (.tuple #[.string ⟨(Lib.encodeRune (c : Int) : List UInt8).toArray⟩, .int .i64 (m + 1 : Nat)]) ∧ Below w.heap.size w w' := by
  have d0 : ((s[p].toNat : Int) != 38) = false := by simp; omega
  have d1 : ¬ (s.size : Int) ≤ p := by omega
  have HN := hide (rlongest_next s hs p (by omega) (some (c, m)) hst)
  rw [(st_some c m).1, (st_some c m).2] at HN
  have d2 : (p : Int) + 1 < s.size := by omega
  have d3 := ne_lit _ 35 (by omega : ((s[p + 1]).toNat : Int) ≠ 35)
  have d4 := ne_lit m 0 (by omega)
  have d5 : (((s[p + m]).toNat : Int) != 59) = false := by simp; omega
  clear hc h35 hst h59
  generalize Lib.encodeRune (c : Int) = T at *
  go_enter Tryz.func36, Tryz.ntmps36
  go_wp2_with fail
  refine (HN.out _).mono ?_
  rintro e w1 ⟨rfl, b1⟩
  go_wp2
  go_ret2
  exact ⟨by first | rfl | go_num, b1⟩
set_option maxHeartbeats 2000000 in
theorem rat_last (s : ByteArray) (hs : s.size ≤ 1000000) (p : Nat) (hp : p + 1 < s.size) (h35 : (s[p + 1]).toNat ≠ 35) (c m : Nat) (hst : longL (s.data.toList.drop (p + 1)) = some (c, m)) (hm : 1 ≤ m) (hm2 : p + 1 + m ≤ s.size) (h59 : (s[p + m]).toNat ≠ 59) (he : s.size ≤ p + 1 + m) (hc : (s[p]).toNat = 38) (w : World) :
    Calls Tryz.prog 36 #[.string s, .int .i64 (p : Int), .bool true] w fun e w' => e = .returned (.tuple #[.string ⟨(Lib.encodeRune (c : Int) : List UInt8).toArray⟩, .int .i64 (m + 1 : Nat)]) ∧ Below w.heap.size w w' := by
  have d0 : ((s[p].toNat : Int) != 38) = false := by simp; omega
  have d1 : ¬ (s.size : Int) ≤ p := by omega
  have HN := hide (rlongest_next s hs p (by omega) (some (c, m)) hst)
  rw [(st_some c m).1, (st_some c m).2] at HN
  have d2 : (p : Int) + 1 < s.size := by omega
  have d3 := ne_lit _ 35 (by omega : ((s[p + 1]).toNat : Int) ≠ 35)
  have d4 := ne_lit m 0 (by omega)
  have d5 : (((s[p + m]).toNat : Int) != 59) = true := by simp; omega
  have d6 : ¬ (p : Int) + 1 + m < s.size := by omega
  clear hc h35 hst h59
  generalize Lib.encodeRune (c : Int) = T at *
  go_enter Tryz.func36, Tryz.ntmps36
  go_wp2_with fail
  refine (HN.out _).mono ?_
  rintro e w1 ⟨rfl, b1⟩
  go_wp2
  go_ret2
  exact ⟨by first | rfl | go_num, b1⟩
set_option maxHeartbeats 2000000 in
theorem rat_eq (s : ByteArray) (hs : s.size ≤ 1000000) (p : Nat) (hp : p + 1 < s.size) (h35 : (s[p + 1]).toNat ≠ 35) (c m : Nat) (hst : longL (s.data.toList.drop (p + 1)) = some (c, m)) (hm : 1 ≤ m) (hm2 : p + 1 + m ≤ s.size) (h59 : (s[p + m]).toNat ≠ 59) (he : p + 1 + m < s.size) (h61 : (s[p + 1 + m]).toNat = 61) (hc : (s[p]).toNat = 38) (w : World) :
    Calls Tryz.prog 36 #[.string s, .int .i64 (p : Int), .bool true] w fun e w' => e = .returned (.tuple #[.string ⟨([38] : List UInt8).toArray⟩, .int .i64 (1 : Nat)]) ∧ Below w.heap.size w w' := by
  have d0 : ((s[p].toNat : Int) != 38) = false := by simp; omega
  have d1 : ¬ (s.size : Int) ≤ p := by omega
  have HN := hide (rlongest_next s hs p (by omega) (some (c, m)) hst)
  rw [(st_some c m).1, (st_some c m).2] at HN
  have d2 : (p : Int) + 1 < s.size := by omega
  have d3 := ne_lit _ 35 (by omega : ((s[p + 1]).toNat : Int) ≠ 35)
  have d4 := ne_lit m 0 (by omega)
  have d5 : (((s[p + m]).toNat : Int) != 59) = true := by simp; omega
  have d6 : (p : Int) + 1 + m < s.size := by omega
  have d7 := eq_lit _ 61 (by omega : ((s[p + 1 + m]).toNat : Int) = 61)
  clear hc h35 hst h59 h61
  generalize Lib.encodeRune (c : Int) = T at *
  go_enter Tryz.func36, Tryz.ntmps36
  go_wp2_with fail
  refine (HN.out _).mono ?_
  rintro e w1 ⟨rfl, b1⟩
  go_wp2
  go_ret2
  exact ⟨by first | rfl | go_num, b1⟩
set_option maxHeartbeats 2000000 in
theorem rat_letter (s : ByteArray) (hs : s.size ≤ 1000000) (p : Nat) (hp : p + 1 < s.size) (h35 : (s[p + 1]).toNat ≠ 35) (c m : Nat) (hst : longL (s.data.toList.drop (p + 1)) = some (c, m)) (hm : 1 ≤ m) (hm2 : p + 1 + m ≤ s.size) (h59 : (s[p + m]).toNat ≠ 59) (he : p + 1 + m < s.size) (h61 : (s[p + 1 + m]).toNat ≠ 61) (hlt : letterN (s[p + 1 + m]).toNat = true) (hc : (s[p]).toNat = 38) (w : World) :
    Calls Tryz.prog 36 #[.string s, .int .i64 (p : Int), .bool true] w fun e w' => e = .returned (.tuple #[.string ⟨([38] : List UInt8).toArray⟩, .int .i64 (1 : Nat)]) ∧ Below w.heap.size w w' := by
  have d0 : ((s[p].toNat : Int) != 38) = false := by simp; omega
  have d1 : ¬ (s.size : Int) ≤ p := by omega
  have HN := hide (rlongest_next s hs p (by omega) (some (c, m)) hst)
  rw [(st_some c m).1, (st_some c m).2] at HN
  have d2 : (p : Int) + 1 < s.size := by omega
  have d3 := ne_lit _ 35 (by omega : ((s[p + 1]).toNat : Int) ≠ 35)
  have d4 := ne_lit m 0 (by omega)
  have d5 : (((s[p + m]).toNat : Int) != 59) = true := by simp; omega
  have d6 : (p : Int) + 1 + m < s.size := by omega
  have d7 := ne_lit _ 61 (by omega : ((s[p + 1 + m]).toNat : Int) ≠ 61)
  have HLT := hide (rletter_any (s[p + 1 + m]).toNat)
  rw [hlt] at HLT
  clear hc h35 hst h59 h61 hlt
  generalize Lib.encodeRune (c : Int) = T at *
  go_enter Tryz.func36, Tryz.ntmps36
  go_wp2_with fail
  refine (HN.out _).mono ?_
  rintro e w1 ⟨rfl, b1⟩
  go_wp2_with fail
  refine (HLT.out _).mono ?_
  rintro e w2 ⟨rfl, rfl⟩
  go_wp2
  go_ret2
  exact ⟨by first | rfl | go_num, b1⟩
set_option maxHeartbeats 2000000 in
theorem rat_figure (s : ByteArray) (hs : s.size ≤ 1000000) (p : Nat) (hp : p + 1 < s.size) (h35 : (s[p + 1]).toNat ≠ 35) (c m : Nat) (hst : longL (s.data.toList.drop (p + 1)) = some (c, m)) (hm : 1 ≤ m) (hm2 : p + 1 + m ≤ s.size) (h59 : (s[p + m]).toNat ≠ 59) (he : p + 1 + m < s.size) (h61 : (s[p + 1 + m]).toNat ≠ 61) (hlt : letterN (s[p + 1 + m]).toNat = false) (hfg : figureN (s[p + 1 + m]).toNat = true) (hc : (s[p]).toNat = 38) (w : World) :
    Calls Tryz.prog 36 #[.string s, .int .i64 (p : Int), .bool true] w fun e w' => e = .returned (.tuple #[.string ⟨([38] : List UInt8).toArray⟩, .int .i64 (1 : Nat)]) ∧ Below w.heap.size w w' := by
  have d0 : ((s[p].toNat : Int) != 38) = false := by simp; omega
  have d1 : ¬ (s.size : Int) ≤ p := by omega
  have HN := hide (rlongest_next s hs p (by omega) (some (c, m)) hst)
  rw [(st_some c m).1, (st_some c m).2] at HN
  have d2 : (p : Int) + 1 < s.size := by omega
  have d3 := ne_lit _ 35 (by omega : ((s[p + 1]).toNat : Int) ≠ 35)
  have d4 := ne_lit m 0 (by omega)
  have d5 : (((s[p + m]).toNat : Int) != 59) = true := by simp; omega
  have d6 : (p : Int) + 1 + m < s.size := by omega
  have d7 := ne_lit _ 61 (by omega : ((s[p + 1 + m]).toNat : Int) ≠ 61)
  have HLT := hide (rletter_any (s[p + 1 + m]).toNat)
  rw [hlt] at HLT
  have HFG := hide (rfigure_any (s[p + 1 + m]).toNat)
  rw [hfg] at HFG
  clear hc h35 hst h59 h61 hlt hfg
  generalize Lib.encodeRune (c : Int) = T at *
  go_enter Tryz.func36, Tryz.ntmps36
  go_wp2_with fail
  refine (HN.out _).mono ?_
  rintro e w1 ⟨rfl, b1⟩
  go_wp2_with fail
  refine (HLT.out _).mono ?_
  rintro e w2 ⟨rfl, rfl⟩
  go_wp2_with fail
  refine (HFG.out _).mono ?_
  rintro e w3 ⟨rfl, rfl⟩
  go_wp2
  go_ret2
  exact ⟨by first | rfl | go_num, b1⟩
set_option maxHeartbeats 2000000 in
theorem rat_free (s : ByteArray) (hs : s.size ≤ 1000000) (p : Nat) (hp : p + 1 < s.size) (h35 : (s[p + 1]).toNat ≠ 35) (c m : Nat) (hst : longL (s.data.toList.drop (p + 1)) = some (c, m)) (hm : 1 ≤ m) (hm2 : p + 1 + m ≤ s.size) (h59 : (s[p + m]).toNat ≠ 59) (he : p + 1 + m < s.size) (h61 : (s[p + 1 + m]).toNat ≠ 61) (hlt : letterN (s[p + 1 + m]).toNat = false) (hfg : figureN (s[p + 1 + m]).toNat = false) (hc : (s[p]).toNat = 38) (w : World) :
    Calls Tryz.prog 36 #[.string s, .int .i64 (p : Int), .bool true] w fun e w' => e = .returned (.tuple #[.string ⟨(Lib.encodeRune (c : Int) : List UInt8).toArray⟩, .int .i64 (m + 1 : Nat)]) ∧ Below w.heap.size w w' := by
  have d0 : ((s[p].toNat : Int) != 38) = false := by simp; omega
  have d1 : ¬ (s.size : Int) ≤ p := by omega
  have HN := hide (rlongest_next s hs p (by omega) (some (c, m)) hst)
  rw [(st_some c m).1, (st_some c m).2] at HN
  have d2 : (p : Int) + 1 < s.size := by omega
  have d3 := ne_lit _ 35 (by omega : ((s[p + 1]).toNat : Int) ≠ 35)
  have d4 := ne_lit m 0 (by omega)
  have d5 : (((s[p + m]).toNat : Int) != 59) = true := by simp; omega
  have d6 : (p : Int) + 1 + m < s.size := by omega
  have d7 := ne_lit _ 61 (by omega : ((s[p + 1 + m]).toNat : Int) ≠ 61)
  have HLT := hide (rletter_any (s[p + 1 + m]).toNat)
  rw [hlt] at HLT
  have HFG := hide (rfigure_any (s[p + 1 + m]).toNat)
  rw [hfg] at HFG
  clear hc h35 hst h59 h61 hlt hfg
  generalize Lib.encodeRune (c : Int) = T at *
  go_enter Tryz.func36, Tryz.ntmps36
  go_wp2_with fail
  refine (HN.out _).mono ?_
  rintro e w1 ⟨rfl, b1⟩
  go_wp2_with fail
  refine (HLT.out _).mono ?_
  rintro e w2 ⟨rfl, rfl⟩
  go_wp2_with fail
  refine (HFG.out _).mono ?_
  rintro e w3 ⟨rfl, rfl⟩
  go_wp2
  go_ret2
  exact ⟨by first | rfl | go_num, b1⟩

/-- At, at every place of a text. -/
theorem rat_in (s : ByteArray) (hs : s.size ≤ 1000000) (p : Nat) (hp : p < s.size) (attr : Bool) (w : World) :
    Calls Tryz.prog 36 #[.string s, .int .i64 (p : Int), .bool attr] w fun e w' => e = .returned (.tuple #[.string ⟨((atL attr (s.data.toList.drop p)).1).toArray⟩, .int .i64 ((atL attr (s.data.toList.drop p)).2 : Nat)]) ∧ Below w.heap.size w w' := by
  by_cases hc0 : (s[p]).toNat ≠ 38
  · rw [at_other attr s p hp hc0]
    exact rat_other s hs p hp attr hc0 w
  have hc : (s[p]).toNat = 38 := by omega
  by_cases he : p + 1 = s.size
  · rw [at_amp attr s p hp hc, ref_name attr s p (.inl he), show longL (s.data.toList.drop (p + 1)) = none by rw [drop_end s (p + 1) (by omega)]; decide +kernel]
    exact rat_end s hs p he hc w
  have hp1 : p + 1 < s.size := by omega
  by_cases h35 : (s[p + 1]).toNat = 35
  · exact rat_num s hs p hp1 attr hc h35 w
  rw [at_amp attr s p hp hc, ref_name attr s p (.inr ⟨hp1, h35⟩)]
  cases hst : longL (s.data.toList.drop (p + 1)) with
  | none => exact rat_none s hs p hp1 h35 hst hc w
  | some x =>
    obtain ⟨c, m⟩ := x
    obtain ⟨m1, _, m3, _⟩ := longK_some _ _ _ _ hst
    rw [List.length_drop, ← size_list] at m3
    simp only
    rw [drop_at2 s (p + 1) (m - 1) (p + m) (by omega) (by omega)]
    cases attr with
    | false => exact rat_plain s hs p hp1 h35 c m hst m1 (by omega) hc w
    | true =>
      by_cases h59 : (s[p + m]).toNat = 59
      · rw [show s[p + m] = 59 from UInt8.toNat_inj.1 h59]
        exact rat_semi s hs p hp1 h35 c m hst m1 (by omega) h59 hc w
      · have n59 : (some s[p + m] == some (59 : UInt8)) = false := by
          apply beq_eq_false_iff_ne.2
          intro e
          exact h59 (by rw [Option.some.inj e]; rfl)
        rw [n59]
        by_cases hend : p + 1 + m = s.size
        · rw [drop_at_end s (p + 1) m (by omega)]
          exact rat_last s hs p hp1 h35 c m hst m1 (by omega) h59 (by omega) hc w
        · have hlt : p + 1 + m < s.size := by omega
          rw [drop_at s (p + 1) m hlt]
          have hbar : barredB (some s[p + 1 + m]) = ((s[p + 1 + m]).toNat == 61 || letterN (s[p + 1 + m]).toNat || figureN (s[p + 1 + m]).toNat) := rfl
          rw [hbar]
          by_cases h61 : (s[p + 1 + m]).toNat = 61
          · rw [h61]
            exact rat_eq s hs p hp1 h35 c m hst m1 (by omega) h59 hlt h61 hc w
          · rw [show ((s[p + 1 + m]).toNat == 61) = false from beq_eq_false_iff_ne.2 h61]
            cases hl : letterN (s[p + 1 + m]).toNat
            · cases hf : figureN (s[p + 1 + m]).toNat
              · exact rat_free s hs p hp1 h35 c m hst m1 (by omega) h59 hlt h61 hl hf hc w
              · exact rat_figure s hs p hp1 h35 c m hst m1 (by omega) h59 hlt h61 hl hf hc w
            · exact rat_letter s hs p hp1 h35 c m hst m1 (by omega) h59 hlt h61 hl hc w
/-- At, of whatever number as a place. -/
theorem rat_any (s : ByteArray) (hs : s.size ≤ 1000000) (z : Int) (attr : Bool) (w : World) :
    Calls Tryz.prog 36 #[.string s, .int .i64 z, .bool attr] w fun e w' => e = .returned (.tuple #[.string ⟨((atZ attr s.data.toList z).1).toArray⟩, .int .i64 ((atZ attr s.data.toList z).2 : Nat)]) ∧ Below w.heap.size w w' := by
  by_cases h : z < 0 ∨ (s.size : Int) ≤ z
  · rw [atZ_out attr _ z (by rw [← size_list]; exact h)]
    exact rat_out s hs z attr h w
  · obtain ⟨p, rfl⟩ : ∃ p : Nat, z = (p : Int) := ⟨z.toNat, by omega⟩
    rw [atZ_in attr _ p (by rw [← size_list]; omega)]
    exact rat_in s hs p (by omega) attr w
end Go.Proofs.YtlfjmgniflkapaaGreatDoor
