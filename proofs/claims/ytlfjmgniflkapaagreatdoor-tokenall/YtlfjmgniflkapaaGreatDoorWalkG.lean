/- What the document's own At answers, at whatever place of whatever text; nothing that was there is written. -/
import Derived.Test.YtlfjmgniflkapaaGreatDoorWalkF
set_option linter.unusedVariables false
set_option linter.unusedSimpArgs false
namespace Go.Proofs.YtlfjmgniflkapaaGreatDoor
open Go.RowKit

set_option maxHeartbeats 2000000 in
theorem rat_out (s : ByteArray) (hs : s.size ≤ 1000000) (z : Int) (attr : Bool) (h : z < 0 ∨ (s.size : Int) ≤ z) (w : World) :
    Calls Tryz.prog 36 #[.string s, .int .i64 z, .bool attr] w fun e w' => e = .returned (.tuple #[.string ⟨#[]⟩, .int .i64 0]) ∧ Below w.heap.size w w' := by
  by_cases hz : z < 0
  · clear h
    go_enter Tryz.func36, Tryz.ntmps36
    go_wp2
    go_ret2
    exact ⟨rfl, Below.refl _ _⟩
  · have h2 : (s.size : Int) ≤ z := by omega
    clear h
    go_enter Tryz.func36, Tryz.ntmps36
    go_wp2
    go_ret2
    exact ⟨rfl, Below.refl _ _⟩
set_option maxHeartbeats 2000000 in
theorem rat_other (s : ByteArray) (hs : s.size ≤ 1000000) (p : Nat) (hp : p < s.size) (attr : Bool) (hc : (s[p]).toNat ≠ 38) (w : World) :
    Calls Tryz.prog 36 #[.string s, .int .i64 (p : Int), .bool attr] w fun e w' => e = .returned (.tuple #[.string ⟨#[]⟩, .int .i64 0]) ∧ Below w.heap.size w w' := by
  have d0 : ((s[p].toNat : Int) != 38) = true := by simp; omega
  have d1 : ¬ (s.size : Int) ≤ p := by omega
  clear hc
  go_enter Tryz.func36, Tryz.ntmps36
  go_wp2
  go_ret2
  exact ⟨rfl, Below.refl _ _⟩
set_option maxHeartbeats 2000000 in
theorem rat_num (s : ByteArray) (hs : s.size ≤ 1000000) (p : Nat) (hp : p + 1 < s.size) (attr : Bool) (hc : (s[p]).toNat = 38) (h35 : (s[p + 1]).toNat = 35) (w : World) :
    Calls Tryz.prog 36 #[.string s, .int .i64 (p : Int), .bool attr] w fun e w' => e = .returned (.tuple #[.string ⟨((atL attr (s.data.toList.drop p)).1).toArray⟩, .int .i64 ((atL attr (s.data.toList.drop p)).2 : Nat)]) ∧ Below w.heap.size w w' := by
  rw [at_amp attr s p (by omega) hc, ref_num attr s p hp h35]
  have HN := hide (rnumref_any s hs p (by omega))
  generalize numL (s.data.toList.drop (p + 2)) = R at *
  obtain ⟨T, m⟩ := R
  have d0 : ((s[p].toNat : Int) != 38) = false := by simp; omega
  have d1 : ¬ (s.size : Int) ≤ p := by omega
  have d2 : (p : Int) + 1 < s.size := by omega
  have d3 := eq_lit _ 35 (by omega : ((s[p + 1]).toNat : Int) = 35)
  clear hc h35
  by_cases hm : m = 0
  · subst hm
    go_enter Tryz.func36, Tryz.ntmps36
    go_wp2_with fail
    refine (HN.out _).mono ?_
    rintro e w1 ⟨rfl, b1⟩
    go_wp2
    go_ret2
    exact ⟨rfl, b1⟩
  · have d4 := ne_lit m 0 (by omega)
    rw [if_neg hm]
    clear hm
    go_enter Tryz.func36, Tryz.ntmps36
    go_wp2_with fail
    refine (HN.out _).mono ?_
    rintro e w1 ⟨rfl, b1⟩
    go_wp2
    go_ret2
    exact ⟨rfl, b1⟩
end Go.Proofs.YtlfjmgniflkapaaGreatDoor
