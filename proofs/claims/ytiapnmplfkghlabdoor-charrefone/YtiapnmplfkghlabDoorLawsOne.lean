/- What CharrefOne answers: true; nothing that was there is written. -/
import Derived.Test.YtiapnmplfkghlabDoorAlive
set_option linter.unusedVariables false
set_option linter.unusedSimpArgs false
namespace Go.Proofs.YtiapnmplfkghlabDoor
open Go.RowKit

theorem one_ref (s : ByteArray) (hs : s.size ≤ 200) (p : Nat) (hp : p < s.size) (hc : (s[p]).toNat = 38) (attr : Bool) : ∃ (t : ByteArray) (m : Nat), (∀ w, OldOk w → Calls Tryd.prog 5 #[.string s, .int .i64 (p : Int), .bool attr] w fun e w' => e = .returned (.tuple #[.string t, .int .i64 (m : Int)]) ∧ Below w.heap.size w w') ∧
    (∀ w, OldOk w → Calls Tryd.prog 6 #[.string (s.extract p (p + m)), .bool false] w fun e w' => e = .returned (.string t) ∧ Below w.heap.size w w') ∧ 1 ≤ m ∧ p + m ≤ s.size ∧ t.toList.isEmpty = false := by
  have hb := refL_bd attr (s.data.toList.drop (p + 1))
  rw [List.length_drop, ← size_list] at hb
  refine ⟨⟨(refL attr (s.data.toList.drop (p + 1))).1.toArray⟩, (refL attr (s.data.toList.drop (p + 1))).2, ?_, ?_, hb.1, by omega, ?_⟩
  · intro w ho
    have h := at_any s (by omega) p (WalkArith.wf_i64 (by omega)) attr w ho
    rw [atZ_in attr _ p (by rw [← size_list]; exact hp), at_amp attr s p hp hc] at h
    exact h
  · intro w ho
    have hd : (s.extract p (p + (refL attr (s.data.toList.drop (p + 1))).2)).data.toList = (38 :: s.data.toList.drop (p + 1)).take (refL attr (s.data.toList.drop (p + 1))).2 := by
      rw [Lib.extract_data, Nat.add_sub_cancel_left, drop_cons s p hp, show s[p] = 38 from UInt8.toNat_inj.1 hc]
    have h := decode_any (s.extract p (p + (refL attr (s.data.toList.drop (p + 1))).2)) (by rw [size_list, hd, List.length_take, List.length_cons, List.length_drop, ← size_list]; omega) false w ho
    rw [hd, take_refL] at h
    exact h
  · rw [Lib.toList_data, str_data]
    cases hq : (refL attr (s.data.toList.drop (p + 1))).1 with
    | nil => exact absurd hq hb.2.2
    | cons c r => rfl

set_option maxHeartbeats 2000000 in
theorem one_walk (s : ByteArray) (z : Int) (hz : (Lit.int .i64 z).wf = true) (attr : Bool) (w : World) (ho : OldOk w) :
    Calls Tryd.prog 3 #[.string s, .int .i64 z, .bool attr] w fun e w' => e = .returned (.bool true) ∧ Below w.heap.size w w' := by
  have H1 := hide alive_any
  have HO := hide ho
  clear ho
  by_cases hs : 200 < s.size
  · have hs2 : (200 : Int) < s.size := by omega
    clear hs hz
    go_enter Tryd.func3, Tryd.ntmps3
    go_wp2_with fail
    refine (H1.out _ HO.out).mono ?_
    rintro e w1 ⟨rfl, b1⟩
    go_wp2
    go_ret
    exact ⟨rfl, b1⟩
  have hs2 : ¬ (200 : Int) < s.size := by omega
  have hout : z < 0 ∨ (s.size : Int) ≤ z → ∀ w, OldOk w → Calls Tryd.prog 5 #[.string s, .int .i64 z, .bool attr] w fun e w' => e = .returned (.tuple #[.string ⟨#[]⟩, .int .i64 0]) ∧ Below w.heap.size w w' := by
    intro h w ho
    have hh := at_any s (by omega) z hz attr w ho
    rw [atZ_out attr _ z (by rw [← size_list]; exact h)] at hh
    exact hh
  by_cases h0 : z < 0
  · have H2 := hide (hout (.inl h0))
    clear hs hz hout
    go_enter Tryd.func3, Tryd.ntmps3
    go_wp2_with fail
    refine (H2.out _ HO.out).mono ?_
    rintro e w1 ⟨rfl, b1⟩
    go_wp2_with fail
    refine (H1.out _ (HO.out.below b1)).mono ?_
    rintro e w2 ⟨rfl, b2⟩
    have a2 := b1.trans (b2.mono b1.size)
    go_wp2
    go_ret
    exact ⟨rfl, b1.trans (b2.mono b1.size)⟩
  by_cases h1 : (s.size : Int) ≤ z
  · have H2 := hide (hout (.inr h1))
    clear hs hz hout
    go_enter Tryd.func3, Tryd.ntmps3
    go_wp2_with fail
    refine (H2.out _ HO.out).mono ?_
    rintro e w1 ⟨rfl, b1⟩
    go_wp2_with fail
    refine (H1.out _ (HO.out.below b1)).mono ?_
    rintro e w2 ⟨rfl, b2⟩
    have a2 := b1.trans (b2.mono b1.size)
    go_wp2
    go_ret
    exact ⟨rfl, b1.trans (b2.mono b1.size)⟩
  obtain ⟨p, rfl⟩ : ∃ p : Nat, z = (p : Int) := ⟨z.toNat, by omega⟩
  have hp : p < s.size := by omega
  by_cases hc : (s[p]).toNat = 38
  · obtain ⟨t, m, ha, hd, m1, m2, ht⟩ := one_ref s (by omega) p hp hc attr
    have H2 := hide ha
    have H3 := hide hd
    have d0 : ((s[p].toNat : Int) != 38) = false := by simp; omega
    have d1 : ¬ (s.size : Int) ≤ p := by omega
    have d2 : ¬ (m : Int) < 1 := by omega
    have d3 : ¬ (s.size : Int) - p < m := by omega
    clear hs hz hout ha hd h0 h1 hc
    go_enter Tryd.func3, Tryd.ntmps3
    go_wp2_with fail
    refine (H2.out _ HO.out).mono ?_
    rintro e w1 ⟨rfl, b1⟩
    go_wp2_with fail
    refine (H1.out _ (HO.out.below b1)).mono ?_
    rintro e w2 ⟨rfl, b2⟩
    have a2 := b1.trans (b2.mono b1.size)
    go_wp2_with fail
    refine (H3.out _ (HO.out.below a2)).mono ?_
    rintro e w3 ⟨rfl, b3⟩
    have a3 := a2.trans (b3.mono a2.size)
    go_wp2
    go_ret
    have c2 := b1.trans (b2.mono b1.size)
    exact ⟨by simp, c2.trans (b3.mono c2.size)⟩
  · have hh : ∀ w, OldOk w → Calls Tryd.prog 5 #[.string s, .int .i64 (p : Int), .bool attr] w fun e w' => e = .returned (.tuple #[.string ⟨#[]⟩, .int .i64 0]) ∧ Below w.heap.size w w' := by
      intro w ho
      have hh := at_any s (by omega) p hz attr w ho
      rw [atZ_in attr _ p (by rw [← size_list]; exact hp), at_other attr s p hp hc] at hh
      exact hh
    have H2 := hide hh
    have d0 : ((s[p].toNat : Int) != 38) = true := by simp; omega
    have d1 : ¬ (s.size : Int) ≤ p := by omega
    clear hs hz hout hh h0 h1 hc
    go_enter Tryd.func3, Tryd.ntmps3
    go_wp2_with fail
    refine (H2.out _ HO.out).mono ?_
    rintro e w1 ⟨rfl, b1⟩
    go_wp2_with fail
    refine (H1.out _ (HO.out.below b1)).mono ?_
    rintro e w2 ⟨rfl, b2⟩
    have a2 := b1.trans (b2.mono b1.size)
    go_wp2
    go_ret
    exact ⟨rfl, b1.trans (b2.mono b1.size)⟩
end Go.Proofs.YtiapnmplfkghlabDoor
