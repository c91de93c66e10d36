/- What the document's own stop answers; nothing that was there is written. -/
import Derived.Test.YtlfjmgniflkapaaGreatDoorWalkG4
set_option linter.unusedVariables false
set_option linter.unusedSimpArgs false
namespace Go.Proofs.YtlfjmgniflkapaaGreatDoor
open Go.RowKit

theorem index4_at (s : ByteArray) (i : Nat) (z : Int) (hz : z = i) (h : i < s.size) (w : World) :
    (Instr.index 9 (.string s) (.int .i64 z)).run Tryz.prog w = .ok (.int .u8 (s[i].toNat : Int)) w := by
  subst hz
  simp [Instr.index, asIntOf, run_underlying Tryz.underlying9, h]
theorem stop_at (s n : ByteArray) (p : Nat) (he : p + 2 + n.size < s.size) : stopB n.data.toList (s.data.toList.drop p) = (hereL s ⟨#[60, 47]⟩ p && (lowerL (s.extract (p + 2) (p + 2 + n.size)).data.toList == lowerL n.data.toList) && (spaceN (s[p + 2 + n.size]).toNat || (s[p + 2 + n.size]).toNat == 47 || (s[p + 2 + n.size]).toNat == 62)) := by
  have hx : (s.extract (p + 2) (p + 2 + n.size)).data.toList = ((s.data.toList.drop p).drop 2).take n.data.toList.length := by
    rw [Lib.extract_data, List.drop_drop, ← size_list, Nat.add_sub_cancel_left]
  have hc : (s.data.toList.drop p)[2 + n.data.toList.length]? = some s[p + 2 + n.size] := by
    rw [← size_list]
    exact drop_at2 s p (2 + n.size) (p + 2 + n.size) (by omega) he
  unfold stopB
  rw [hc, hx]
  simp only
  have e : ∀ k : UInt8, (s[p + 2 + n.size] == k) = ((s[p + 2 + n.size]).toNat == k.toNat) := by
    intro k
    rw [Bool.eq_iff_iff]
    simp [UInt8.toNat_inj]
  rw [e 47, e 62]
  rfl
theorem stop_out (s n : ByteArray) (p : Nat) (he : ¬ p + 2 + n.size < s.size) : stopB n.data.toList (s.data.toList.drop p) = false := by
  have hc : (s.data.toList.drop p)[2 + n.data.toList.length]? = none := by
    rw [← size_list]
    exact drop_at_end s p (2 + n.size) (by omega)
  unfold stopB
  rw [hc]
  simp
set_option maxHeartbeats 1000000 in
theorem stop_no (s n : ByteArray) (hs : s.size ≤ 100000) (hn : n.size ≤ 100000) (p : Nat) (hp : p ≤ s.size) (hh : hereL s ⟨#[60, 47]⟩ p = false) (w : World) :
    Calls Tryz.prog 15 #[.string s, .int .i64 (p : Int), .string n] w fun e w' => e = .returned (.bool false) ∧ Below w.heap.size w w' := by
  have HH := hide (here_any s ⟨#[60, 47]⟩ (by omega) (by decide) (by decide) p (by omega))
  rw [hh] at HH
  clear hh
  go_enter Tryz.func15, Tryz.ntmps15
  go_wp2_with fail
  refine (HH.out _).mono ?_
  rintro e w1 ⟨rfl, rfl⟩
  go_wp2
  go_ret
  exact ⟨rfl, Below.refl _ _⟩
set_option maxHeartbeats 1000000 in
theorem stop_end (s n : ByteArray) (hs : s.size ≤ 100000) (hn : n.size ≤ 100000) (p : Nat) (hp : p ≤ s.size) (hh : hereL s ⟨#[60, 47]⟩ p = true) (he : ¬ p + 2 + n.size < s.size) (w : World) :
    Calls Tryz.prog 15 #[.string s, .int .i64 (p : Int), .string n] w fun e w' => e = .returned (.bool false) ∧ Below w.heap.size w w' := by
  have HH := hide (here_any s ⟨#[60, 47]⟩ (by omega) (by decide) (by decide) p (by omega))
  rw [hh] at HH
  have d1 : (s.size : Int) ≤ (p : Int) + 2 + n.size := by omega
  clear hh he
  go_enter Tryz.func15, Tryz.ntmps15
  go_wp2_with fail
  refine (HH.out _).mono ?_
  rintro e w1 ⟨rfl, rfl⟩
  go_wp2
  go_ret
  exact ⟨rfl, Below.refl _ _⟩
set_option maxHeartbeats 1000000 in
theorem stop_in (s n : ByteArray) (hs : s.size ≤ 100000) (hn : n.size ≤ 100000) (p : Nat) (hp : p ≤ s.size) (hh : hereL s ⟨#[60, 47]⟩ p = true) (he : p + 2 + n.size < s.size) (w : World) :
    Calls Tryz.prog 15 #[.string s, .int .i64 (p : Int), .string n] w fun e w' => e = .returned (.bool ((lowerL (s.extract (p + 2) (p + 2 + n.size)).data.toList == lowerL n.data.toList) && (spaceN (s[p + 2 + n.size]).toNat || (s[p + 2 + n.size]).toNat == 47 || (s[p + 2 + n.size]).toNat == 62))) ∧ Below w.heap.size w w' := by
  have HH := hide (here_any s ⟨#[60, 47]⟩ (by omega) (by decide) (by decide) p (by omega))
  rw [hh] at HH
  have d1 : ¬ (s.size : Int) ≤ (p : Int) + 2 + n.size := by omega
  have HL1 := hide (rlower_any (s.extract (p + 2) (p + 2 + n.size)) (by rw [ByteArray.size_extract]; omega))
  have HL2 := hide (rlower_any n (by omega))
  have heq : ((⟨(lowerL (s.extract (p + 2) (p + 2 + n.size)).data.toList).toArray⟩ : ByteArray).toList == (⟨(lowerL n.data.toList).toArray⟩ : ByteArray).toList) = (lowerL (s.extract (p + 2) (p + 2 + n.size)).data.toList == lowerL n.data.toList) := by
    rw [Lib.toList_data, Lib.toList_data, str_data, str_data]
  generalize (lowerL (s.extract (p + 2) (p + 2 + n.size)).data.toList == lowerL n.data.toList) = B at *
  generalize (⟨(lowerL (s.extract (p + 2) (p + 2 + n.size)).data.toList).toArray⟩ : ByteArray) = x at *
  generalize (⟨(lowerL n.data.toList).toArray⟩ : ByteArray) = y at *
  have hix : ∀ w, (Instr.index 9 (.string s) (.int .i64 ((p : Int) + 2 + n.size))).run Tryz.prog w = .ok (.int .u8 ((s[p + 2 + n.size]).toNat : Int)) w := fun w => index4_at s (p + 2 + n.size) _ (by omega) he w
  have HSP := hide (rspace_any (s[p + 2 + n.size]).toNat)
  generalize (s[p + 2 + n.size]).toNat = c at *
  clear hh
  cases B
  · go_enter Tryz.func15, Tryz.ntmps15
    go_wp2_with fail
    refine (HH.out _).mono ?_
    rintro e w1 ⟨rfl, rfl⟩
    go_wp2_with fail
    refine (HL1.out _).mono ?_
    rintro e w2 ⟨rfl, b2⟩
    go_wp2_with fail
    refine (HL2.out _).mono ?_
    rintro e w3 ⟨rfl, b3⟩
    go_wp2
    go_ret
    exact ⟨rfl, b2.trans (b3.mono b2.size)⟩
  · generalize spaceN c = D at *
    by_cases h47 : c = 47
    · subst h47
      cases D
      all_goals
        go_enter Tryz.func15, Tryz.ntmps15
        go_wp2_with fail
        refine (HH.out _).mono ?_
        rintro e w1 ⟨rfl, rfl⟩
        go_wp2_with fail
        refine (HL1.out _).mono ?_
        rintro e w2 ⟨rfl, b2⟩
        go_wp2_with fail
        refine (HL2.out _).mono ?_
        rintro e w3 ⟨rfl, b3⟩
        go_wp2_with fail
        refine (HSP.out _).mono ?_
        rintro e w4 ⟨rfl, rfl⟩
        go_wp2
        go_ret
        exact ⟨rfl, b2.trans (b3.mono b2.size)⟩
    · have e47 := ne_lit c 47 (by omega)
      have f47 : (c == 47) = false := beq_eq_false_iff_ne.2 h47
      rw [f47]
      by_cases h62 : c = 62
      · subst h62
        clear h47 f47
        cases D
        all_goals
          go_enter Tryz.func15, Tryz.ntmps15
          go_wp2_with fail
          refine (HH.out _).mono ?_
          rintro e w1 ⟨rfl, rfl⟩
          go_wp2_with fail
          refine (HL1.out _).mono ?_
          rintro e w2 ⟨rfl, b2⟩
          go_wp2_with fail
          refine (HL2.out _).mono ?_
          rintro e w3 ⟨rfl, b3⟩
          go_wp2_with fail
          refine (HSP.out _).mono ?_
          rintro e w4 ⟨rfl, rfl⟩
          go_wp2
          go_ret
          exact ⟨rfl, b2.trans (b3.mono b2.size)⟩
      · have e62 := ne_lit c 62 (by omega)
        have f62 : (c == 62) = false := beq_eq_false_iff_ne.2 h62
        rw [f62]
        clear h47 h62 f47 f62
        cases D
        all_goals
          go_enter Tryz.func15, Tryz.ntmps15
          go_wp2_with fail
          refine (HH.out _).mono ?_
          rintro e w1 ⟨rfl, rfl⟩
          go_wp2_with fail
          refine (HL1.out _).mono ?_
          rintro e w2 ⟨rfl, b2⟩
          go_wp2_with fail
          refine (HL2.out _).mono ?_
          rintro e w3 ⟨rfl, b3⟩
          go_wp2_with fail
          refine (HSP.out _).mono ?_
          rintro e w4 ⟨rfl, rfl⟩
          go_wp2
          go_ret
          exact ⟨rfl, b2.trans (b3.mono b2.size)⟩
theorem stop_any (s n : ByteArray) (hs : s.size ≤ 100000) (hn : n.size ≤ 100000) (p : Nat) (hp : p ≤ s.size) (w : World) :
    Calls Tryz.prog 15 #[.string s, .int .i64 (p : Int), .string n] w fun e w' => e = .returned (.bool (stopB n.data.toList (s.data.toList.drop p))) ∧ Below w.heap.size w w' := by
  by_cases he : p + 2 + n.size < s.size
  · rw [stop_at s n p he]
    cases hh : hereL s ⟨#[60, 47]⟩ p
    · exact stop_no s n hs hn p hp hh w
    · rw [Bool.true_and]
      exact stop_in s n hs hn p hp hh he w
  · rw [stop_out s n p he]
    cases hh : hereL s ⟨#[60, 47]⟩ p
    · exact stop_no s n hs hn p hp hh w
    · exact stop_end s n hs hn p hp hh he w
end Go.Proofs.YtlfjmgniflkapaaGreatDoor
