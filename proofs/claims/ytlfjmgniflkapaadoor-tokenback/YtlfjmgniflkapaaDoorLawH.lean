/- What the statements' own small and has answer; the world stays as it was. -/
import Derived.Test.YtlfjmgniflkapaaDoorAlive4
set_option linter.unusedVariables false
set_option linter.unusedSimpArgs false
namespace Go.Proofs.YtlfjmgniflkapaaDoor
open Go.RowKit

def smallL (l : List UInt8) : Bool := l.all smallC && (decide (1 ≤ l.length) && decide (l.length ≤ 20))
theorem all_at (s : ByteArray) (k : Nat) (h : k < s.size) : (s.data.toList.drop k).all smallC = (smallC s[k] && (s.data.toList.drop (k + 1)).all smallC) := by
  rw [drop_cons s k h]
  rfl
set_option maxHeartbeats 1000000 in
theorem small_any (s : ByteArray) (hs : s.size ≤ 9223372036854775807) (w : World) :
    Calls Tryd.prog 11 #[.string s] w fun e w' => e = .returned (.bool (smallL s.data.toList)) ∧ w' = w := by
  unfold smallL
  rw [← size_list]
  generalize hA : s.data.toList.all smallC = A at *
  have HA : Hid ((s.data.toList.drop 0).all smallC = A) := hide (by rw [List.drop_zero]; exact hA)
  clear hA
  go_enter Tryd.func11, Tryd.ntmps11
  go_wp2
  go_loop [3] (fun i => ∃ k : Nat, k ≤ s.size ∧ i = .int .i64 k ∧ Hid ((s.data.toList.drop k).all smallC = A)) (fun i => s.size - (intOf i).toNat)
  case atStart => exact ⟨0, by omega, rfl, HA⟩
  case round =>
    obtain ⟨k, hk, rfl, HR⟩ := hrel
    by_cases hlt : k < s.size
    · have hlt2 : (k : Int) < s.size := by omega
      have hst := all_at s k hlt
      rw [HR.out] at hst
      by_cases h97 : s[k].toNat < 97
      · have hS : smallC s[k] = false := by unfold smallC; rw [show decide (97 ≤ s[k].toNat) = false by simp; omega]; rfl
        have HF : Hid (A = false) := hide (by rw [hst, hS]; rfl)
        have h97' : (s[k].toNat : Int) < 97 := by omega
        clear hst hS HR
        go_wp2
        go_ret
        exact ⟨ret_bool (by rw [HF.out]; rfl), rfl⟩
      · by_cases h122 : 122 < s[k].toNat
        · have hS : smallC s[k] = false := by unfold smallC; rw [show decide (s[k].toNat ≤ 122) = false by simp; omega, Bool.and_false]
          have HF : Hid (A = false) := hide (by rw [hst, hS]; rfl)
          have h97' : ¬ (s[k].toNat : Int) < 97 := by omega
          have h122' : (122 : Int) < (s[k].toNat : Int) := by omega
          clear hst hS HR
          go_wp2
          go_ret
          exact ⟨ret_bool (by rw [HF.out]; rfl), rfl⟩
        · have hS : smallC s[k] = true := by
            unfold smallC
            rw [show decide (97 ≤ s[k].toNat) = true by simp; omega, show decide (s[k].toNat ≤ 122) = true by simp; omega]
            rfl
          have HR2 : Hid ((s.data.toList.drop (k + 1)).all smallC = A) := hide (by rw [hst, hS, Bool.true_and])
          have h97' : ¬ (s[k].toNat : Int) < 97 := by omega
          have h122' : ¬ (122 : Int) < (s[k].toNat : Int) := by omega
          clear hst hS HR
          go_wp2
          go_round
          case rel => exact ⟨k + 1, by omega, by go_num, HR2⟩
          case measure => simp [intOf]; omega
    · have hlt2 : ¬ (k : Int) < s.size := by omega
      have HF : Hid (A = true) := hide (by rw [← HR.out, drop_end s k (by omega)]; rfl)
      clear HR
      by_cases h1 : 1 ≤ s.size
      · have h1' : (1 : Int) ≤ s.size := by omega
        go_wp2
        go_ret
        refine ⟨ret_bool ?_, rfl⟩
        rw [HF.out, Bool.true_and]
        exact decide_eq_decide.2 (by omega)
      · have h1' : ¬ (1 : Int) ≤ s.size := by omega
        go_wp2
        go_ret
        exact ⟨by first | rfl | (rw [HF.out]; rfl), rfl⟩
theorem hasL_short (t : List UInt8) : ∀ l : List UInt8, l.length < t.length → hasL t l = false
  | [], _ => rfl
  | c :: r, h => by
    simp only [List.length_cons] at h
    simp only [hasL]
    rw [hasL_short t r (by omega), Bool.or_false]
    cases hp : t.isPrefixOf (c :: r) with
    | false => rfl
    | true =>
      have := (List.isPrefixOf_iff_prefix.1 hp).length_le
      simp only [List.length_cons] at this
      omega
theorem hasL_at (t s : ByteArray) (k : Nat) (h : k < s.size) : hasL t.data.toList (s.data.toList.drop k) = (t.data.toList.isPrefixOf (s.data.toList.drop k) || hasL t.data.toList (s.data.toList.drop (k + 1))) := by
  rw [drop_cons s k h]
  rfl
theorem pre_take (t l : List UInt8) (h : t.length ≤ l.length) : t.isPrefixOf l = (l.take t.length == t) := by
  rw [Bool.eq_iff_iff, List.isPrefixOf_iff_prefix, List.prefix_iff_eq_take, beq_iff_eq]
  exact eq_comm
set_option maxHeartbeats 1000000 in
theorem lhas_any (s t : ByteArray) (hs : s.size ≤ 100000) (ht : 1 ≤ t.size) (ht2 : t.size ≤ 100000) (w : World) :
    Calls Tryd.prog 14 #[.string s, .string t] w fun e w' => e = .returned (.bool (hasL t.data.toList s.data.toList)) ∧ w' = w := by
  generalize hA : hasL t.data.toList s.data.toList = A at *
  have HA : Hid (hasL t.data.toList (s.data.toList.drop 0) = A) := hide (by rw [List.drop_zero]; exact hA)
  have HSH := hide (hasL_short t.data.toList)
  clear hA
  go_enter Tryd.func14, Tryd.ntmps14
  go_wp2
  go_loop [5] (fun i => ∃ k : Nat, k ≤ s.size ∧ i = .int .i64 k ∧ Hid (hasL t.data.toList (s.data.toList.drop k) = A)) (fun i => s.size - (intOf i).toNat)
  case atStart => exact ⟨0, by omega, rfl, HA⟩
  case round =>
    obtain ⟨k, hk, rfl, HR⟩ := hrel
    by_cases hlt : k + t.size ≤ s.size
    · have hlt2 : (k : Int) + t.size ≤ s.size := by omega
      have hst := hasL_at t s k (by omega)
      rw [HR.out, pre_take _ _ (by rw [List.length_drop, ← size_list, ← size_list]; omega)] at hst
      have hxl : (s.extract k (k + t.size)).data.toList = (s.data.toList.drop k).take t.data.toList.length := by
        rw [Lib.extract_data, Nat.add_sub_cancel_left, ← size_list t]
      have heq : ((s.extract k (k + t.size)).toList == t.toList) = ((s.data.toList.drop k).take t.data.toList.length == t.data.toList) := by rw [Lib.toList_data, Lib.toList_data, hxl]
      cases hB : ((s.data.toList.drop k).take t.data.toList.length == t.data.toList) with
      | true =>
        rw [hB] at heq hst
        have HF : Hid (A = true) := hide (by rw [hst]; rfl)
        clear hst hxl hB HR
        go_wp2
        go_ret
        exact ⟨ret_bool HF.out.symm, rfl⟩
      | false =>
        rw [hB] at heq hst
        have HR2 : Hid (hasL t.data.toList (s.data.toList.drop (k + 1)) = A) := hide (by rw [hst]; rfl)
        clear hst hxl hB HR
        go_wp2
        go_round
        case rel => exact ⟨k + 1, by omega, by go_num, HR2⟩
        case measure => simp [intOf]; omega
    · have hlt2 : ¬ (k : Int) + t.size ≤ s.size := by omega
      have HF : Hid (A = false) := hide (by rw [← HR.out]; exact HSH.out _ (by rw [List.length_drop, ← size_list, ← size_list]; omega))
      clear HR
      go_wp2
      go_ret
      exact ⟨ret_bool HF.out.symm, rfl⟩
end Go.Proofs.YtlfjmgniflkapaaDoor
