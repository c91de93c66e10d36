/- The walk of PrintBack. -/
import Derived.Test.YthoibenncjbkdaaDoorAl9
import Derived.Test.YthoibenncjbkdaaDoorBk9
import Derived.Test.YthoibenncjbkdaaDoorS4WalkPH
set_option linter.unusedVariables false
set_option linter.unusedSimpArgs false
set_option maxRecDepth 20000
namespace Go.Proofs.YthoibenncjbkdaaDoor
open Go.RowKit

theorem no60 {c : UInt8} (h : c ≠ 60) : ((c.toNat : Int) == 60) = false ∧ ¬ (c.toNat : Int) = 60 ∧ ¬ c.toNat = 60 := by
  have h2 : ¬ c.toNat = 60 := fun e => h (UInt8.toNat_inj.1 (by show c.toNat = 60; omega))
  exact ⟨beq_eq_false_iff_ne.2 (by omega), by omega, h2⟩
theorem no62 {c : UInt8} (h : c ≠ 62) : ((c.toNat : Int) == 62) = false ∧ ¬ (c.toNat : Int) = 62 ∧ ¬ c.toNat = 62 := by
  have h2 : ¬ c.toNat = 62 := fun e => h (UInt8.toNat_inj.1 (by show c.toNat = 62; omega))
  exact ⟨beq_eq_false_iff_ne.2 (by omega), by omega, h2⟩
theorem no34 {c : UInt8} (h : c ≠ 34) : ((c.toNat : Int) == 34) = false ∧ ¬ (c.toNat : Int) = 34 ∧ ¬ c.toNat = 34 := by
  have h2 : ¬ c.toNat = 34 := fun e => h (UInt8.toNat_inj.1 (by show c.toNat = 34; omega))
  exact ⟨beq_eq_false_iff_ne.2 (by omega), by omega, h2⟩
set_option maxHeartbeats 2000000 in
theorem printBack_walk (s : ByteArray) (attr : Bool) (w : World) (ho : S4.OldOk w) :
    Calls Tryd.prog 3 #[.string s, .bool attr] w fun e w' => e = .returned (.bool true) ∧ Below w.heap.size w w' := by
  have HA := hide alive_p
  by_cases hs : s.size ≤ 200
  · have hs2 : ¬ (200 : Int) < s.size := by omega
    have HE := hide (escape_any s (by omega) attr)
    have hz := escL_len attr s.data.toList
    rw [← S5.size_list] at hz
    have HNO := hide (escL_no attr s.data.toList)
    have hB := dec_esc attr s.data.toList
    have hts : (⟨(escL attr s.data.toList).toArray⟩ : ByteArray).size = (escL attr s.data.toList).length := by rw [S5.size_list, S5.str_data]
    have hD := fun (W : World) (hb : Below w.heap.size w W) => S4.decode_any ⟨(escL attr s.data.toList).toArray⟩ (by omega) attr W (ho.below hb)
    rw [S5.str_data, hB, ← S5.str_of s _ rfl] at hD
    have HD := hide hD
    have HBY : Hid (∀ k (h : k < (⟨(escL attr s.data.toList).toArray⟩ : ByteArray).size), (⟨(escL attr s.data.toList).toArray⟩ : ByteArray)[k] ≠ 60 ∧ (⟨(escL attr s.data.toList).toArray⟩ : ByteArray)[k] ≠ 62 ∧ (attr = true → (⟨(escL attr s.data.toList).toArray⟩ : ByteArray)[k] ≠ 34)) := hide (fun k h => HNO.out _ (by
      have hm : (⟨(escL attr s.data.toList).toArray⟩ : ByteArray)[k] ∈ (⟨(escL attr s.data.toList).toArray⟩ : ByteArray).data.toList := by
        show (⟨(escL attr s.data.toList).toArray⟩ : ByteArray).data[k] ∈ _
        exact Array.getElem_mem_toList _
      rwa [S5.str_data] at hm))
    have hsz : (⟨(escL attr s.data.toList).toArray⟩ : ByteArray).size ≤ 1200 := by omega
    clear hB hD hts hz HNO ho
    generalize (⟨(escL attr s.data.toList).toArray⟩ : ByteArray) = t at *
    cases attr
    · have hse : (s.toList == s.toList) = true := by simp
      go_enter Tryd.func3, Tryd.ntmps3
      go_wp2_with fail
      refine (HE.out _).mono ?_
      rintro e w1 ⟨rfl, b1⟩
      go_wp2
      go_loop [6] (fun vi => ∃ i : Nat, vi = .int .i64 (i : Int) ∧ i ≤ t.size) (fun vi => t.size - (intOf vi).toNat)
      case atStart => exact ⟨0, rfl, Nat.zero_le _⟩
      case round =>
        obtain ⟨i, rfl, hi⟩ := hrel
        by_cases hlt : i < t.size
        · have hlt2 : (i : Int) < t.size := by omega
          obtain ⟨n1, n2, n3⟩ := HBY.out i hlt
          generalize hc : t[i] = c at *
          obtain ⟨e1, e1a, e1b⟩ := no60 n1
          obtain ⟨e2, e2a, e2b⟩ := no62 n2
          clear n1 n2 n3
          go_wp2
          go_round
          case rel => exact ⟨i + 1, by go_num, by omega⟩
          case measure => simp [intOf]; omega
        · have hlt2 : ¬ (i : Int) < t.size := by omega
          go_wp2_with fail
          refine (HA.out _).mono ?_
          rintro e w2 ⟨rfl, b2⟩
          have B2 := b1.trans (b2.mono b1.size)
          go_wp2_with fail
          refine (HD.out _ B2).mono ?_
          rintro e w3 ⟨rfl, b3⟩
          go_wp2
          go_ret
          exact ⟨rfl, B2.trans (b3.mono B2.size)⟩
    · have hse : (s.toList == s.toList) = true := by simp
      go_enter Tryd.func3, Tryd.ntmps3
      go_wp2_with fail
      refine (HE.out _).mono ?_
      rintro e w1 ⟨rfl, b1⟩
      go_wp2
      go_loop [6] (fun vi => ∃ i : Nat, vi = .int .i64 (i : Int) ∧ i ≤ t.size) (fun vi => t.size - (intOf vi).toNat)
      case atStart => exact ⟨0, rfl, Nat.zero_le _⟩
      case round =>
        obtain ⟨i, rfl, hi⟩ := hrel
        by_cases hlt : i < t.size
        · have hlt2 : (i : Int) < t.size := by omega
          obtain ⟨n1, n2, n3⟩ := HBY.out i hlt
          generalize hc : t[i] = c at *
          obtain ⟨e1, e1a, e1b⟩ := no60 n1
          obtain ⟨e2, e2a, e2b⟩ := no62 n2
          obtain ⟨e3, e3a, e3b⟩ := no34 (n3 (by first | rfl | trivial))
          clear n1 n2 n3
          go_wp2
          go_round
          case rel => exact ⟨i + 1, by go_num, by omega⟩
          case measure => simp [intOf]; omega
        · have hlt2 : ¬ (i : Int) < t.size := by omega
          go_wp2_with fail
          refine (HA.out _).mono ?_
          rintro e w2 ⟨rfl, b2⟩
          have B2 := b1.trans (b2.mono b1.size)
          go_wp2_with fail
          refine (HD.out _ B2).mono ?_
          rintro e w3 ⟨rfl, b3⟩
          go_wp2
          go_ret
          exact ⟨rfl, B2.trans (b3.mono B2.size)⟩
  · have hs2 : (200 : Int) < s.size := by omega
    go_enter Tryd.func3, Tryd.ntmps3
    go_wp2_with fail
    refine (HA.out _).mono ?_
    rintro e w1 ⟨rfl, b1⟩
    go_wp2
    go_ret
    exact ⟨rfl, b1⟩
end Go.Proofs.YthoibenncjbkdaaDoor
