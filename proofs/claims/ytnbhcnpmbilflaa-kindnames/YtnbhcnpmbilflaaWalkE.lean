/- What White and Lower answer, of whatever text; nothing that was there is written. -/
import Derived.Test.YtnbhcnpmbilflaaWalkD
import Derived.Lib.ConvBytes
import Derived.Laws.IdiomStrings
set_option linter.unusedVariables false
set_option linter.unusedSimpArgs false
namespace Go.Proofs.Ytnbhcnpmbilflaa
open Go.RowKit

theorem drop_cons (s : ByteArray) (k : Nat) (h : k < s.size) : s.data.toList.drop k = s[k] :: s.data.toList.drop (k + 1) := by
  have h2 : k < s.data.toList.length := by rw [← size_list]; exact h
  rw [List.drop_eq_getElem_cons h2]
  rfl
theorem white_step (s : ByteArray) (k : Nat) (h : k < s.size) : whiteL (s.data.toList.drop k) = (spaceN s[k].toNat && whiteL (s.data.toList.drop (k + 1))) := by
  rw [drop_cons s k h]; rfl
theorem white_end (s : ByteArray) (k : Nat) (h : s.size ≤ k) : whiteL (s.data.toList.drop k) = true := by
  rw [List.drop_eq_nil_of_le (by rw [← size_list]; exact h)]; rfl

set_option maxHeartbeats 1000000 in
theorem white_any (s : ByteArray) (hs : s.size ≤ 1000000) (w : World) :
    Calls Try.prog 15 #[.string s] w fun e w' => e = .returned (.bool (whiteL s.data.toList)) ∧ w' = w := by
  generalize hV : whiteL s.data.toList = V
  have HV := hide hV
  have HSP := hide space_any
  clear hV
  go_enter Try.func15, Try.ntmps15
  go_wp2
  go_loop [6] (fun i => ∃ k : Nat, k ≤ s.size ∧ i = .int .i64 k ∧ Hid (whiteL (s.data.toList.drop k) = V)) (fun i => s.size - (intOf i).toNat)
  case atStart => exact ⟨0, Nat.zero_le _, rfl, hide (by rw [List.drop_zero]; exact HV.out)⟩
  case round =>
    obtain ⟨k, hk, rfl, HR⟩ := hrel
    by_cases hlt : k < s.size
    · have hlt2 : (k : Int) < s.size := by omega
      have hst := white_step s k hlt
      rw [HR.out] at hst
      have HS := hide hst
      clear hst HR
      have HQ := hide (HSP.out s[k].toNat)
      generalize spaceN s[k].toNat = B at *
      go_wp2_with fail
      refine (HQ.out _).mono ?_
      rintro e w1 ⟨rfl, rfl⟩
      cases B
      · have HR2 : Hid (V = false) := hide (by rw [HS.out, Bool.false_and])
        clear HS
        go_wp2
        go_ret
        exact ⟨ret_bool HR2.out.symm, rfl⟩
      · have HR2 : Hid (whiteL (s.data.toList.drop (k + 1)) = V) := hide (by rw [HS.out, Bool.true_and])
        clear HS
        go_wp2
        go_round
        case rel => exact ⟨k + 1, by omega, by go_num, HR2⟩
        case measure => simp [intOf]; omega
    · have hst := white_end s k (by omega)
      rw [HR.out] at hst
      have HR2 := hide hst
      have hlt2 : ¬ (k : Int) < s.size := by omega
      clear hst HR hlt
      go_wp2
      go_ret
      exact ⟨ret_bool HR2.out.symm, rfl⟩
end Go.Proofs.Ytnbhcnpmbilflaa
