/- What pieceLength answers: the first piece's length; the world stays as it was. -/
import Derived.Test.YthagloigihpfdabDoorWalkA
set_option linter.unusedVariables false
set_option linter.unusedSimpArgs false
namespace Go.Proofs.YthagloigihpfdabDoor
open Go.RowKit

theorem runL_step (k lo hi : Nat) (c : UInt8) (r : List UInt8) (h : lo ≤ c.toNat ∧ c.toNat ≤ hi) : runL (k + 1) lo hi (c :: r) = 1 + runL k 128 191 r := by simp [runL, h]
theorem runL_stop (k lo hi : Nat) (c : UInt8) (r : List UInt8) (h : ¬ (lo ≤ c.toNat ∧ c.toNat ≤ hi)) : runL k lo hi (c :: r) = 0 := by
  cases k with
  | zero => rfl
  | succ k => simp only [runL, if_neg h]
theorem runL_nil (k lo hi : Nat) : runL k lo hi [] = 0 := by cases k <;> rfl
theorem drop_cons (s : ByteArray) (k : Nat) (h : k < s.size) : s.data.toList.drop k = s[k] :: s.data.toList.drop (k + 1) := by
  rw [List.drop_eq_getElem_cons (by simpa using h)]
  rfl
theorem pieceL_start (s : ByteArray) (h : 0 < s.size) : pieceL s.data.toList = 1 + runL (need s[0].toNat) (lowP s[0].toNat) (highP s[0].toNat) (s.data.toList.drop 1) := by
  have e := drop_cons s 0 h
  rw [List.drop_zero] at e
  have e2 : pieceL s.data.toList = 1 + runL (need s[0].toNat) (secLo s[0].toNat) (secHi s[0].toNat) (s.data.toList.drop 1) := by
    rw [e]; rfl
  rw [e2]
  by_cases hn : need s[0].toNat = 0
  · rw [hn]; rfl
  · simp only [lowP, highP, if_neg hn]

set_option maxHeartbeats 1000000 in
theorem pieceLength_any (s : ByteArray) (hs : s.size ≤ maxLen) (h0 : 0 < s.size) (w : World) :
    Calls Tryd.prog 16 #[.string s] w fun e w' => e = .returned (.int .i64 (pieceL s.data.toList : Nat)) ∧ w' = w := by
  unfold maxLen at hs
  have hst := pieceL_start s h0
  have hlt := s[0].toNat_lt
  have hnd := need_le s[0].toNat
  have HST := hide hst
  clear hst
  go_enter Tryd.func16, Tryd.ntmps16
  go_wp2_with fail
  refine (behindLead_any _ hlt _).mono ?_
  rintro e w' ⟨rfl, rfl⟩
  generalize hm : need s[0].toNat = m at *
  generalize hl : lowP s[0].toNat = l0 at *
  generalize hh : highP s[0].toNat = u0 at *
  have hlb : l0 ≤ 255 ∧ u0 ≤ 255 := by
    constructor
    · rw [← hl]; unfold lowP secLo; (repeat' split) <;> omega
    · rw [← hh]; unfold highP secHi; (repeat' split) <;> omega
  clear hm hl hh
  go_wp2
  go_loop [6, 4, 5] (fun n lo hi => ∃ k l u : Nat, 1 ≤ k ∧ k ≤ s.size ∧ k ≤ m + 1 ∧ l ≤ 255 ∧ u ≤ 255 ∧ n = .int .i64 k ∧ lo = .int .u8 l ∧ hi = .int .u8 u ∧ Hid (pieceL s.data.toList = k + runL (m + 1 - k) l u (s.data.toList.drop k))) (fun n _ _ => s.size - (intOf n).toNat)
  case atStart => exact ⟨1, l0, u0, by omega, by omega, by omega, by omega, by omega, rfl, rfl, rfl, HST⟩
  case round =>
    obtain ⟨k, l, u, hk1, hk2, hk3, hl, hu, rfl, rfl, rfl, HR⟩ := hrel
    by_cases c1 : k ≤ m
    · by_cases c2 : k < s.size
      · have hd := drop_cons s k c2
        have hc := s[k].toNat_lt
        by_cases c3 : l ≤ s[k].toNat
        · by_cases c4 : s[k].toNat ≤ u
          · have HN : Hid (pieceL s.data.toList = (k + 1) + runL (m + 1 - (k + 1)) 128 191 (s.data.toList.drop (k + 1))) := by
              refine hide ?_
              rw [HR.out, hd, show m + 1 - k = (m + 1 - (k + 1)) + 1 by omega, runL_step _ _ _ _ _ ⟨c3, c4⟩]
              omega
            clear HR hd
            go_wp2
            go_round
            case rel => exact ⟨k + 1, 128, 191, by omega, by omega, by omega, by omega, by omega, by go_num, rfl, rfl, HN⟩
            case measure => simp [intOf]; omega
          · have HN : Hid (pieceL s.data.toList = k) := by
              refine hide ?_
              rw [HR.out, hd, runL_stop _ _ _ _ _ (by omega), Nat.add_zero]
            clear HR hd
            go_wp2
            go_ret
            exact ⟨ret_int (by rw [HN.out]), rfl⟩
        · have HN : Hid (pieceL s.data.toList = k) := by
            refine hide ?_
            rw [HR.out, hd, runL_stop _ _ _ _ _ (by omega), Nat.add_zero]
          clear HR hd
          go_wp2
          go_ret
          exact ⟨ret_int (by rw [HN.out]), rfl⟩
      · have HN : Hid (pieceL s.data.toList = k) := by
          refine hide ?_
          rw [HR.out, List.drop_eq_nil_of_le (by simpa using Nat.le_of_not_lt c2), runL_nil, Nat.add_zero]
        clear HR
        go_wp2
        go_ret
        exact ⟨ret_int (by rw [HN.out]), rfl⟩
    · have HN : Hid (pieceL s.data.toList = k) := by
        refine hide ?_
        rw [HR.out, show m + 1 - k = 0 by omega]; rfl
      clear HR
      go_wp2
      go_ret
      exact ⟨ret_int (by rw [HN.out]), rfl⟩
end Go.Proofs.YthagloigihpfdabDoor
