/- What among answers, of whatever name and names; the world stays as it was. -/
import Derived.Test.YthoibenncjbkdaaDoorS6Low6
import Derived.Lib.IndexBytes
set_option linter.unusedVariables false
set_option linter.unusedSimpArgs false
set_option maxRecDepth 4000
namespace Go.Proofs.YthoibenncjbkdaaDoor.S6
open Go.RowKit

theorem str_data (l : List UInt8) : (⟨l.toArray⟩ : ByteArray).data.toList = l := by simp
theorem size_list (s : ByteArray) : s.size = s.data.toList.length := by
  rw [Array.length_toList]; rfl
theorem str_eq (n : ByteArray) (o : List UInt8) : (n.toList == o) = (n.data.toList == o) := by
  rw [Lib.toList_data]

theorem among_step (l : List (List UInt8)) (n : List UInt8) (k : Nat) (h : k < l.length) : amongL (l.drop k) n = (n == l[k] || amongL (l.drop (k + 1)) n) := by
  rw [List.drop_eq_getElem_cons h]; rfl
theorem among_end (l : List (List UInt8)) (n : List UInt8) (k : Nat) (h : l.length ≤ k) : amongL (l.drop k) n = false := by
  rw [List.drop_eq_nil_of_le h]; rfl

set_option maxHeartbeats 1000000 in
theorem among_any (n : ByteArray) (l : List (List UInt8)) (b cap : Nat) (w : World) (hl : l.length ≤ 1000) (hc : ∀ j (hj : j < l.length), w.cell? ⟨b, j, none⟩ = some (.string ⟨(l[j]).toArray⟩)) :
    Calls Tryd.prog 40 #[.string n, .slice (some ⟨b, 0, none⟩) l.length cap] w fun e w' => e = .returned (.bool (amongL l n.data.toList)) ∧ w' = w := by
  have HC := hide hc
  clear hc
  generalize hV : amongL l n.data.toList = V
  have HV := hide hV
  clear hV
  go_enter Tryd.func40, Tryd.ntmps40
  go_wp2
  go_loop [9] (fun i => ∃ k : Nat, k ≤ l.length ∧ i = .int .i64 k ∧ Hid (amongL (l.drop k) n.data.toList = V)) (fun i => l.length - (intOf i).toNat)
  case atStart => exact ⟨0, Nat.zero_le _, rfl, hide (by rw [List.drop_zero]; exact HV.out)⟩
  case round =>
    obtain ⟨k, hk, rfl, HR⟩ := hrel
    by_cases hlt : k < l.length
    · have hcell := HC.out k hlt
      have he := str_eq n l[k]
      have hs := among_step l n.data.toList k hlt
      rw [HR.out] at hs
      have hlt2 : (k : Int) < l.length := by omega
      cases hb : n.data.toList == l[k]
      · rw [hb] at he hs
        rw [Bool.false_or] at hs
        have HR2 := hide hs.symm
        clear hs hb HR
        generalize l[k] = o at *
        clear hlt
        go_wp2
        go_round
        case rel => exact ⟨k + 1, by omega, by go_num, HR2⟩
        case measure => simp [intOf]; omega
      · rw [hb] at he hs
        rw [Bool.true_or] at hs
        have HR2 := hide hs
        clear hs hb HR
        generalize l[k] = o at *
        clear hlt
        go_wp2
        go_ret
        exact ⟨ret_bool HR2.out.symm, rfl⟩
    · have hs := among_end l n.data.toList k (by omega)
      rw [HR.out] at hs
      have HR2 := hide hs
      have hlt2 : ¬ (k : Int) < l.length := by omega
      clear hs HR hlt
      go_wp2
      go_ret
      exact ⟨ret_bool HR2.out.symm, rfl⟩
end Go.Proofs.YthoibenncjbkdaaDoor.S6
