/- What the document's said answers. -/
import Derived.Test.YtfjganjihapnhaaGreatDoorQd11
import Derived.Test.YtfjganjihapnhaaGreatDoorRk11
import Derived.Deep.RegionHeld2
set_option linter.unusedVariables false
set_option linter.unusedSimpArgs false
set_option maxRecDepth 4000
namespace Go.Proofs.YtfjganjihapnhaaGreatDoor
open Go.RowKit

set_option maxHeartbeats 2000000 in
theorem said_any (t : ByteArray) (l : List Bs) (hl : l.length ≤ 2000) (hx : ∀ x ∈ l, x.length ≤ 1000000) (ht : t.size ≤ 2000000) (v : Value) (w : World) (hW : IsW w v l) :
    Calls Tryz.prog 38 #[.string t, v] w fun e w' => e = .returned (.string ⟨(saidL t.data.toList l).toArray⟩) ∧ w' = w := by
  obtain ⟨a, c, rfl⟩ := hW.form
  have HW := hide hW
  have HL := hide hx
  clear hW hx
  have hE : saidL t.data.toList l = t.data.toList ++ wordsP l ++ [10] := rfl
  rw [hE]
  clear hE
  go_enter Tryz.func38, Tryz.ntmps38
  go_wp2
  go_loop [0, 5] (fun y i => ∃ (k : Nat) (z : ByteArray), k ≤ l.length ∧ i = .int .i64 k ∧ y = .string z ∧ Hid (z.data.toList = t.data.toList ++ wordsP (l.take k))) (fun _ i => l.length - (intOf i).toNat)
  case atStart => exact ⟨0, t, Nat.zero_le _, rfl, rfl, hide (by rw [List.take_zero, show wordsP [] = [] from rfl, List.append_nil])⟩
  case round =>
    obtain ⟨k, z, hk, rfl, rfl, HZ⟩ := hrel
    have hwl := wordsP_len (l.take k) (fun x hx => HL.out x (List.mem_of_mem_take hx))
    rw [List.length_take] at hwl
    have hmin : min k l.length ≤ 2000 := by omega
    have hwl2 : (wordsP (l.take k)).length ≤ 2000 * 1000001 := Nat.le_trans hwl (Nat.mul_le_mul_right _ hmin)
    have hzs : z.size ≤ 2002002000 := by
      rw [size_list, HZ.out, List.length_append, ← size_list]
      omega
    clear hwl hmin hwl2
    by_cases hlt : k < l.length
    · have hlt2 : (k : Int) < l.length := by omega
      obtain ⟨g, o, rfl, hc⟩ := HW.out.at_ k _ (List.getElem?_eq_getElem hlt)
      have hcell := hc w (Below.refl _ _)
      have hxl := HL.out _ (List.getElem_mem hlt)
      have hst := wordsP_step l k hlt
      have hy : (⟨(l[k]).toArray⟩ : ByteArray).data.toList = l[k] := str_data _
      have hys : (⟨(l[k]).toArray⟩ : ByteArray).size ≤ 1000000 := by rw [size_list, hy]; exact hxl
      rw [← hy] at hst
      generalize (⟨(l[k]).toArray⟩ : ByteArray) = y at *
      have HZ2 : Hid ((z ++ (⟨#[32]⟩ : ByteArray) ++ y).data.toList = t.data.toList ++ wordsP (l.take (k + 1))) := hide (by
        have h1 := str_app _ _ _ [32] HZ.out (rfl : (⟨#[32]⟩ : ByteArray).data.toList = [32])
        have h2 := str_app _ _ _ _ h1 (rfl : y.data.toList = y.data.toList)
        rw [h2, hst]
        simp [List.append_assoc])
      have hf1 : z.size + 1 + y.size ≤ 9223372036854775807 := by omega
      have hf2 : ¬ 9223372036854775807 < z.size + 1 := by omega
      have hf3 : ¬ 9223372036854775807 < z.size + 1 + y.size := by omega
      clear hst hy hxl hc HZ
      go_wp2
      go_round
      case rel => exact ⟨k + 1, _, by omega, by go_num, rfl, HZ2⟩
      case measure => simp [intOf]; omega
    · have hlt2 : ¬ (k : Int) < l.length := by omega
      obtain rfl : k = l.length := by omega
      rw [List.take_length] at HZ
      have h1 := str_app _ _ _ [10] HZ.out (rfl : (⟨#[10]⟩ : ByteArray).data.toList = [10])
      have HE : Hid (z ++ (⟨#[10]⟩ : ByteArray) = ⟨(t.data.toList ++ wordsP l ++ [10]).toArray⟩) := hide (by
        rw [← h1])
      have hf2 : ¬ 9223372036854775807 < z.size + 1 := by omega
      clear hlt h1
      go_wp2
      go_ret
      refine ⟨?_, rfl⟩
      have h2 := HE.out
      simp only [List.append_assoc] at h2
      rw [← h2]
      rfl
end Go.Proofs.YtfjganjihapnhaaGreatDoor
