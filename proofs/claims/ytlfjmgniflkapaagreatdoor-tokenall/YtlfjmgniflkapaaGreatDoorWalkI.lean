/- What the document's own Decode answers, of whatever text; nothing that was there is written. -/
import Derived.Test.YtlfjmgniflkapaaGreatDoorWalkH
set_option linter.unusedVariables false
set_option linter.unusedSimpArgs false
namespace Go.Proofs.YtlfjmgniflkapaaGreatDoor
open Go.RowKit

set_option maxHeartbeats 2000000 in
theorem rdecode_any (s : ByteArray) (hs : s.size ≤ 100000) (attr : Bool) (w : World) :
    Calls Tryz.prog 17 #[.string s, .bool attr] w fun e w' => e = .returned (.string ⟨(decL attr s.data.toList).toArray⟩) ∧ Below w.heap.size w w' := by
  generalize hR : decL attr s.data.toList = R
  have HR := hide hR
  clear hR
  have HAT := hide (fun p (hp : p < s.size) => rat_in s (by omega) p hp attr)
  go_enter Tryz.func17, Tryz.ntmps17
  go_wp2
  go_loopw [5, 6] (fun to ti wr => ∃ (acc : ByteArray) (k : Nat), to = .string acc ∧ ti = .int .i64 k ∧ k ≤ s.size ∧ Below w.heap.size w wr ∧ acc.size ≤ 4 * k ∧ Hid (acc.data.toList ++ decL attr (s.data.toList.drop k) = R)) (fun _ ti _ => s.size - (intOf ti).toNat)
  case atStart => exact ⟨_, 0, rfl, rfl, by omega, Below.refl _ _, by decide, hide (by rw [← HR.out]; rfl)⟩
  case round =>
    obtain ⟨acc, k, rfl, rfl, hk, bw, hal, HN⟩ := hrel
    by_cases hp : k < s.size
    · have hlt2 : (k : Int) < s.size := by omega
      have hat := HAT.out k hp
      have hN := HN.out
      rw [drop_cons s k hp] at hN
      by_cases hc : (s[k]).toNat = 38
      · have hc2 : s[k] = 38 := UInt8.toNat_inj.1 hc
        have hb := refL_bd attr (s.data.toList.drop (k + 1))
        have hl4 := refL_len attr (s.data.toList.drop (k + 1))
        rw [at_amp attr s k hp hc] at hat
        rw [hc2, decL_amp, ← hc2, ← drop_cons s k hp, List.drop_drop, ← List.append_assoc] at hN
        rw [List.length_drop, ← size_list] at hb
        generalize refL attr (s.data.toList.drop (k + 1)) = TM at *
        obtain ⟨T, m⟩ := TM
        simp only at hN hb hl4 hat
        have HN2 : Hid ((acc ++ (⟨T.toArray⟩ : ByteArray)).data.toList ++ decL attr (s.data.toList.drop (k + m)) = R) := hide (by rw [str_app acc ⟨T.toArray⟩ _ T rfl (str_data T)]; exact hN)
        have hsz : (⟨T.toArray⟩ : ByteArray).size ≤ 4 := by rw [size_list, str_data]; exact hl4
        have HAL : Hid ((acc ++ (⟨T.toArray⟩ : ByteArray)).size ≤ 4 * (k + m)) := hide (by rw [ByteArray.size_append]; omega)
        have HA := hide hat
        have d4 := ne_lit m 0 (by omega)
        clear hat hN HN hc hc2 hl4
        generalize (⟨T.toArray⟩ : ByteArray) = t at *
        go_wp2_with fail
        refine (HA.out _).mono ?_
        rintro e w1 ⟨rfl, b1⟩
        have b2 := bw.trans (b1.mono bw.size)
        go_wp2
        go_roundw
        case rel => exact ⟨_, k + m, rfl, by go_num, by omega, b2, HAL.out, HN2⟩
        case measure => simp [intOf]; omega
      · rw [at_other attr s k hp hc] at hat
        rw [decL_other attr _ _ (fun e => hc (by rw [e]; rfl))] at hN
        have HN2 : Hid ((acc ++ s.extract k (k + 1)).data.toList ++ decL attr (s.data.toList.drop (k + 1)) = R) := hide (by
          rw [str_app acc (s.extract k (k + 1)) _ _ rfl (one_byte s k hp), List.append_assoc]
          exact hN)
        have hsz : (s.extract k (k + 1)).size = 1 := by rw [size_list, one_byte s k hp]; rfl
        have HAL : Hid ((acc ++ s.extract k (k + 1)).size ≤ 4 * (k + 1)) := hide (by rw [ByteArray.size_append, hsz]; omega)
        have HA := hide hat
        clear hat hN HN hc
        go_wp2_with fail
        refine (HA.out _).mono ?_
        rintro e w1 ⟨rfl, b1⟩
        have b2 := bw.trans (b1.mono bw.size)
        go_wp2
        go_roundw
        case rel => exact ⟨_, k + 1, rfl, by go_num, by omega, b2, HAL.out, HN2⟩
        case measure => simp [intOf]; omega
    · have hE : acc = ⟨R.toArray⟩ := by
        refine str_of acc R ?_
        rw [← HN.out, drop_end s k (by omega), decL_nil, List.append_nil]
      have HE := hide hE
      have hlt2 : ¬ (k : Int) < s.size := by omega
      clear hE HN hp
      go_wp2
      go_ret
      refine ⟨?_, bw⟩
      rw [← HE.out]
      rfl
end Go.Proofs.YtlfjmgniflkapaaGreatDoor
