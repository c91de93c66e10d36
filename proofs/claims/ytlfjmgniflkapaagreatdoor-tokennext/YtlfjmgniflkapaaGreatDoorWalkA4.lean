/- What the document's own Space, here, find and space answer; the world stays as it was. -/
import Derived.Test.YtlfjmgniflkapaaGreatDoorTokD
import Derived.Test.YtlfjmgniflkapaaGreatDoorBase
set_option linter.unusedVariables false
set_option linter.unusedSimpArgs false
namespace Go.Proofs.YtlfjmgniflkapaaGreatDoor
open Go.RowKit

set_option maxHeartbeats 1000000 in
theorem rspace_any (n : Nat) (w : World) :
    Calls Tryz.prog 34 #[.int .u8 (n : Int)] w fun e w' => e = .returned (.bool (spaceN n)) ∧ w' = w := by
  by_cases h1 : n = 9
  · subst h1; go_enter Tryz.func34, Tryz.ntmps34; go_wp2; go_ret; exact ⟨rfl, rfl⟩
  by_cases h2 : n = 10
  · subst h2; go_enter Tryz.func34, Tryz.ntmps34; go_wp2; go_ret; exact ⟨rfl, rfl⟩
  by_cases h3 : n = 12
  · subst h3; go_enter Tryz.func34, Tryz.ntmps34; go_wp2; go_ret; exact ⟨rfl, rfl⟩
  by_cases h4 : n = 13
  · subst h4; go_enter Tryz.func34, Tryz.ntmps34; go_wp2; go_ret; exact ⟨rfl, rfl⟩
  by_cases h5 : n = 32
  · subst h5; go_enter Tryz.func34, Tryz.ntmps34; go_wp2; go_ret; exact ⟨rfl, rfl⟩
  have e1 := ne_lit n 9 (by omega)
  have e2 := ne_lit n 10 (by omega)
  have e3 := ne_lit n 12 (by omega)
  have e4 := ne_lit n 13 (by omega)
  have e5 := ne_lit n 32 (by omega)
  have hv : spaceN n = false := by simp [spaceN, h1, h2, h3, h4, h5]
  rw [hv]
  clear hv h1 h2 h3 h4 h5
  go_enter Tryz.func34, Tryz.ntmps34
  go_wp2
  go_ret
  exact ⟨rfl, rfl⟩

theorem prefix_take (t l : List UInt8) : t.isPrefixOf l = (decide (t.length ≤ l.length) && (l.take t.length == t)) := by
  rw [Bool.eq_iff_iff, List.isPrefixOf_iff_prefix, Bool.and_eq_true, decide_eq_true_eq, beq_iff_eq]
  constructor
  · intro h
    exact ⟨h.length_le, (List.prefix_iff_eq_take.1 h).symm⟩
  · intro h
    exact List.prefix_iff_eq_take.2 h.2.symm
/-- Does t stand at the place p? -/
def hereL (s t : ByteArray) (p : Nat) : Bool := t.data.toList.isPrefixOf (s.data.toList.drop p)
theorem here_fits (s t : ByteArray) (p : Nat) (h : p + t.size ≤ s.size) : hereL s t p = ((s.extract p (p + t.size)).toList == t.toList) := by
  unfold hereL
  rw [prefix_take, Lib.toList_data, Lib.toList_data, Lib.extract_data, Nat.add_sub_cancel_left, ← size_list, List.length_drop, ← size_list]
  rw [decide_eq_true (by omega), Bool.true_and]
theorem here_not (s t : ByteArray) (p : Nat) (ht : 1 ≤ t.size) (h : ¬ p + t.size ≤ s.size) : hereL s t p = false := by
  unfold hereL
  rw [prefix_take, ← size_list, List.length_drop, ← size_list, decide_eq_false (by omega), Bool.false_and]

set_option maxHeartbeats 1000000 in
theorem here_any (s t : ByteArray) (hs : s.size ≤ 1000000) (ht : 1 ≤ t.size) (ht2 : t.size ≤ 1000000) (p : Nat) (hp : p ≤ 10000000) (w : World) :
    Calls Tryz.prog 28 #[.string s, .int .i64 (p : Int), .string t] w fun e w' => e = .returned (.bool (hereL s t p)) ∧ w' = w := by
  by_cases h : p + t.size ≤ s.size
  · have hv := (here_fits s t p h).symm
    have h2 : (p : Int) + t.size ≤ s.size := by omega
    generalize hereL s t p = B at *
    clear h
    go_enter Tryz.func28, Tryz.ntmps28
    go_wp2
    go_ret
    exact ⟨rfl, rfl⟩
  · rw [here_not s t p ht h]
    have h2 : ¬ (p : Int) + t.size ≤ s.size := by omega
    clear h
    go_enter Tryz.func28, Tryz.ntmps28
    go_wp2
    go_ret
    exact ⟨rfl, rfl⟩
set_option maxHeartbeats 1000000 in
theorem here_neg (s t : ByteArray) (z : Int) (hz : z < 0) (w : World) :
    Calls Tryz.prog 28 #[.string s, .int .i64 z, .string t] w fun e w' => e = .returned (.bool false) ∧ w' = w := by
  have h2 : ¬ 0 ≤ z := by omega
  clear hz
  go_enter Tryz.func28, Tryz.ntmps28
  go_wp2
  go_ret
  exact ⟨rfl, rfl⟩

theorem findR_step (t : ByteArray) (s : ByteArray) (k : Nat) (h : k < s.size) : (findR t.data.toList (s.data.toList.drop k)).2 = if hereL s t k then s.data.toList.drop k else (findR t.data.toList (s.data.toList.drop (k + 1))).2 := by
  unfold hereL
  rw [drop_cons s k h]
  simp only [findR]
  split <;> rfl
set_option maxHeartbeats 1000000 in
theorem find_any (s t : ByteArray) (hs : s.size ≤ 1000000) (ht : 1 ≤ t.size) (ht2 : t.size ≤ 1000000) (p : Nat) (hp : p ≤ s.size) (w : World) :
    Calls Tryz.prog 54 #[.string s, .int .i64 (p : Int), .string t] w fun e w' => e = .returned (.int .i64 (s.size - (findR t.data.toList (s.data.toList.drop p)).2.length : Nat)) ∧ w' = w := by
  generalize hV : (findR t.data.toList (s.data.toList.drop p)).2 = V
  have HV := hide hV
  have HH := hide (fun k (hk : k ≤ 10000000) => here_any s t hs ht ht2 k hk)
  have HLEN : Hid (∀ k, k ≤ s.size → (s.data.toList.drop k).length = s.size - k) := hide (fun k _ => by rw [List.length_drop, ← size_list])
  clear hV
  go_enter Tryz.func54, Tryz.ntmps54
  go_wp2
  go_loop [7] (fun i => ∃ k : Nat, k ≤ s.size ∧ i = .int .i64 k ∧ Hid ((findR t.data.toList (s.data.toList.drop k)).2 = V)) (fun i => s.size - (intOf i).toNat)
  case atStart => exact ⟨p, hp, rfl, HV⟩
  case round =>
    obtain ⟨k, hk, rfl, HR⟩ := hrel
    by_cases hlt : k < s.size
    · have hst := findR_step t s k hlt
      rw [HR.out] at hst
      have hlt2 : (k : Int) < s.size := by omega
      have HQ := hide (HH.out k (by omega))
      have HS := hide hst
      clear hst HR
      generalize hereL s t k = B at *
      go_wp2_with fail
      refine (HQ.out _).mono ?_
      rintro e w1 ⟨rfl, rfl⟩
      cases B
      · have HR2 : Hid ((findR t.data.toList (s.data.toList.drop (k + 1))).2 = V) := hide (by rw [HS.out]; rfl)
        clear HS
        go_wp2
        go_round
        case rel => exact ⟨k + 1, by omega, by go_num, HR2⟩
        case measure => simp [intOf]; omega
      · have HR2 : Hid (V = s.data.toList.drop k) := hide (by rw [HS.out]; rfl)
        clear HS
        go_wp2
        go_ret
        refine ⟨ret_int ?_, rfl⟩
        rw [HR2.out, HLEN.out k hk]
        omega
    · have HR2 : Hid (V = []) := hide (by rw [← HR.out, drop_end s k (by omega)]; rfl)
      have hlt2 : ¬ (k : Int) < s.size := by omega
      clear HR hlt
      go_wp2
      go_ret
      refine ⟨ret_int ?_, rfl⟩
      rw [HR2.out]
      simp

theorem dropSp_step (s : ByteArray) (k : Nat) (h : k < s.size) : (s.data.toList.drop k).dropWhile isSp = if spaceN s[k].toNat then (s.data.toList.drop (k + 1)).dropWhile isSp else s.data.toList.drop k := by
  rw [drop_cons s k h, List.dropWhile_cons]
  rfl
set_option maxHeartbeats 1000000 in
theorem space4_any (s : ByteArray) (hs : s.size ≤ 1000000) (p : Nat) (hp : p ≤ s.size) (w : World) :
    Calls Tryz.prog 56 #[.string s, .int .i64 (p : Int)] w fun e w' => e = .returned (.int .i64 (s.size - ((s.data.toList.drop p).dropWhile isSp).length : Nat)) ∧ w' = w := by
  generalize hV : (s.data.toList.drop p).dropWhile isSp = V
  have HV := hide hV
  have HLEN : Hid (∀ k, k ≤ s.size → (s.data.toList.drop k).length = s.size - k) := hide (fun k _ => by rw [List.length_drop, ← size_list])
  have HSP := hide rspace_any
  clear hV
  go_enter Tryz.func56, Tryz.ntmps56
  go_wp2
  go_loop [1] (fun i => ∃ k : Nat, k ≤ s.size ∧ i = .int .i64 k ∧ Hid ((s.data.toList.drop k).dropWhile isSp = V)) (fun i => s.size - (intOf i).toNat)
  case atStart => exact ⟨p, hp, rfl, HV⟩
  case round =>
    obtain ⟨k, hk, rfl, HR⟩ := hrel
    by_cases hlt : k < s.size
    · have hst := dropSp_step s k hlt
      rw [HR.out] at hst
      have hlt2 : (k : Int) < s.size := by omega
      have HQ := hide (HSP.out s[k].toNat)
      have HS := hide hst
      clear hst HR
      generalize spaceN s[k].toNat = B at *
      go_wp2_with fail
      refine (HQ.out _).mono ?_
      rintro e w1 ⟨rfl, rfl⟩
      cases B
      · have HR2 : Hid (V = s.data.toList.drop k) := hide (by rw [HS.out]; rfl)
        clear HS
        go_wp2
        go_ret
        refine ⟨ret_int ?_, rfl⟩
        rw [HR2.out, HLEN.out k hk]
        omega
      · have HR2 : Hid ((s.data.toList.drop (k + 1)).dropWhile isSp = V) := hide (by rw [HS.out]; rfl)
        clear HS
        go_wp2
        go_round
        case rel => exact ⟨k + 1, by omega, by go_num, HR2⟩
        case measure => simp [intOf]; omega
    · have HR2 : Hid (V = []) := hide (by rw [← HR.out, drop_end s k (by omega)]; rfl)
      have hlt2 : ¬ (k : Int) < s.size := by omega
      have hk2 : s.size ≤ k := by omega
      clear HR hlt
      go_wp2
      go_ret
      refine ⟨ret_int ?_, rfl⟩
      rw [HR2.out]
      simp
      omega
end Go.Proofs.YtlfjmgniflkapaaGreatDoor
