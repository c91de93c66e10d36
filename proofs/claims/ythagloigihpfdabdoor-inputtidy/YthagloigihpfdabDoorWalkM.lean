/- What the statement's marked answers; the world stays as it was. -/
import Derived.Test.YthagloigihpfdabDoorWalkG
set_option linter.unusedVariables false
set_option linter.unusedSimpArgs false
namespace Go.Proofs.YthagloigihpfdabDoor
open Go.RowKit

theorem marked_short (l : List UInt8) (h : l.length < 3) : markedL l = false := by
  unfold markedL Lib.hasPrefix markB
  match l, h with
  | [], _ => rfl
  | [a], _ => simp [List.isPrefixOf]
  | [a, b], _ => simp [List.isPrefixOf]
theorem marked_take (l : List UInt8) (h : 3 ≤ l.length) : markedL l = (l.take 3 == [239, 187, 191]) := by
  unfold markedL Lib.hasPrefix markB
  match l, h with
  | [], h => simp at h
  | [a], h => simp at h
  | [a, b], h => simp at h
  | a :: b :: c :: r, _ =>
    rw [Bool.eq_iff_iff]
    simp [List.isPrefixOf]
    constructor <;> (rintro ⟨h1, h2, h3⟩; exact ⟨h1.symm, h2.symm, h3.symm⟩)

theorem marked_bytes (s : ByteArray) (h : 3 ≤ s.size) : markedL s.data.toList = (decide (s[0].toNat = 239) && (decide (s[1].toNat = 187) && decide (s[2].toNat = 191))) := by
  have e0 := drop_cons s 0 (by omega)
  rw [List.drop_zero] at e0
  rw [e0, drop_cons s (0 + 1) (by omega), drop_cons s (0 + 1 + 1) (by omega)]
  rw [Bool.eq_iff_iff]
  unfold markedL Lib.hasPrefix markB
  simp [List.isPrefixOf, ← UInt8.toNat_inj]
  constructor <;> (rintro ⟨h1, h2, h3⟩; exact ⟨h1.symm, h2.symm, h3.symm⟩)

set_option maxHeartbeats 1000000 in
theorem marked_any (s : ByteArray) (hs : s.size ≤ 1000000) (w : World) :
    Calls Tryd.prog 7 #[.string s] w fun e w' => e = .returned (.bool (markedL s.data.toList)) ∧ w' = w := by
  by_cases h3 : 3 ≤ s.size
  · rw [marked_bytes s h3]
    have h4 : (3 : Int) ≤ s.size := by omega
    by_cases c0 : s[0].toNat = 239
    · have d0 : ((s[0].toNat : Int) == 239) = true := beq_iff_eq.2 (by omega)
      rw [decide_eq_true c0]
      clear c0
      by_cases c1 : s[1].toNat = 187
      · have d1 : ((s[1].toNat : Int) == 187) = true := beq_iff_eq.2 (by omega)
        rw [decide_eq_true c1]
        clear c1
        by_cases c2 : s[2].toNat = 191
        · have d2 : ((s[2].toNat : Int) == 191) = true := beq_iff_eq.2 (by omega)
          rw [decide_eq_true c2]
          clear c2
          go_enter Tryd.func7, Tryd.ntmps7
          go_wp2
          go_ret
          exact ⟨rfl, rfl⟩
        · have d2 : ((s[2].toNat : Int) == 191) = false := beq_eq_false_iff_ne.2 (by omega)
          rw [decide_eq_false c2]
          clear c2
          go_enter Tryd.func7, Tryd.ntmps7
          go_wp2
          go_ret
          exact ⟨rfl, rfl⟩
      · have d1 : ((s[1].toNat : Int) == 187) = false := beq_eq_false_iff_ne.2 (by omega)
        rw [decide_eq_false c1]
        clear c1
        go_enter Tryd.func7, Tryd.ntmps7
        go_wp2
        go_ret
        exact ⟨rfl, rfl⟩
    · have d0 : ((s[0].toNat : Int) == 239) = false := beq_eq_false_iff_ne.2 (by omega)
      rw [decide_eq_false c0]
      clear c0
      go_enter Tryd.func7, Tryd.ntmps7
      go_wp2
      go_ret
      exact ⟨rfl, rfl⟩
  · rw [marked_short s.data.toList (by rw [← size_list]; omega)]
    have h4 : ¬ (3 : Int) ≤ s.size := by omega
    go_enter Tryd.func7, Tryd.ntmps7
    go_wp2
    go_ret
    exact ⟨rfl, rfl⟩
end Go.Proofs.YthagloigihpfdabDoor
