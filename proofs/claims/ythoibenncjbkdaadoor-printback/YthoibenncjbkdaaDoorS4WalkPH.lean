/- What the program's Decode answers, of whatever text, where the table stands as it was laid; nothing that was there is written. -/
import Derived.Test.YthoibenncjbkdaaDoorS4WalkPG
import Derived.BigCall
set_option linter.unusedVariables false
set_option linter.unusedSimpArgs false
set_option maxRecDepth 4000
namespace Go.Proofs.YthoibenncjbkdaaDoor.S4
open Go.RowKit

theorem byteCells_one (c : UInt8) : Lib.byteCells [c] = [.int .u8 (c.toNat : Int)] := rfl
theorem strCells_list (T : List UInt8) : Lib.strCells ⟨T.toArray⟩ = Lib.byteCells T := by
  simp [Lib.strCells, Lib.byteCells]

set_option maxHeartbeats 1500000 in
theorem decode_any (s : ByteArray) (hs : s.size ≤ 100000) (attr : Bool) (w : World) (ho : OldOk w) :
    Calls Tryd.prog 6 #[.string s, .bool attr] w fun e w' => e = .returned (.string ⟨(decL attr s.data.toList).toArray⟩) ∧ Below w.heap.size w w' := by
  have HAT := hide (fun (z : Int) (W : World) (hb : Below w.heap.size w W) => at_same s (by omega) z attr W (ho.below hb))
  have HD : Hid (decL attr s.data.toList = decL attr s.data.toList) := rfl
  clear ho
  generalize hR : decL attr s.data.toList = R at *
  have HR := hide hR
  clear hR HD
  go_enter Tryd.func6, Tryd.ntmps6
  go_wp2
  go_loopw [6] (fun te wr => ∃ (pos : Nat) (acc : List UInt8), te = .int .i64 pos ∧ Lib.IsBuilderF 37 5 w.heap.size w.heap.size (Lib.byteCells acc) wr ∧ Below w.heap.size w wr ∧ pos ≤ s.size ∧ acc.length ≤ 4 * pos ∧ Hid (acc ++ decL attr (s.data.toList.drop pos) = R)) (fun te _ => s.size - (intOf te).toNat)
  case atStart =>
    refine ⟨0, [], rfl, Lib.IsBuilderF.of (Lib.fresh_isBuilder 37 5 w), (Below.refl _ w).alloc (Nat.le_refl _) _, by omega, by simp, hide ?_⟩
    rw [List.drop_zero, List.nil_append]
    exact HR.out
  case round =>
    obtain ⟨pos, acc, rfl, hI, hbw, hps, hal, HN⟩ := hrel
    have hwz : w.heap.size ≤ wr.heap.size := hbw.size
    by_cases hp : pos < s.size
    · have hp2 : (pos : Int) < s.size := by omega
      have hat := HAT.out (pos : Int) wr hbw
      rw [atZ_in attr _ pos (by rw [← size_list]; exact hp)] at hat
      by_cases hc : (s[pos]).toNat = 38
      · rw [at_amp attr s pos hp hc] at hat
        have hdc := drop_cons s pos hp
        rw [UInt8.toNat_inj.1 (show (s[pos]).toNat = (38 : UInt8).toNat from hc)] at hdc
        have hbd := refL_bd attr (s.data.toList.drop (pos + 1))
        have h4 := refL_len attr (s.data.toList.drop (pos + 1))
        rw [List.length_drop, ← size_list] at hbd
        have HN2 : Hid ((acc ++ (refL attr (s.data.toList.drop (pos + 1))).1) ++ decL attr (s.data.toList.drop (pos + (refL attr (s.data.toList.drop (pos + 1))).2)) = R) := by
          refine hide ?_
          rw [← HN.out, hdc, decL_amp, ← hdc, List.drop_drop, List.append_assoc]
        clear HN hdc hc
        generalize refL attr (s.data.toList.drop (pos + 1)) = Q at *
        obtain ⟨T, n⟩ := Q
        have HA : Hid (Calls Tryd.prog 11 #[.string s, .int .i64 (pos : Int), .bool attr] wr fun e w' => e = .returned (.tuple #[.string ⟨T.toArray⟩, .int .i64 (n : Int)]) ∧ w' = wr) := hide hat
        have HN3 : Hid ((acc ++ T) ++ decL attr (s.data.toList.drop (pos + n)) = R) := HN2
        have hb1 : 1 ≤ n := hbd.1
        have hb2 : n ≤ s.size - (pos + 1) + 1 := hbd.2.1
        have h4' : T.length ≤ 4 := h4
        clear hat HN2 hbd h4
        have e1 := ne_lit n 0 (by omega)
        have hts : (⟨T.toArray⟩ : ByteArray).size = T.length := by rw [size_list, str_data]
        have hsc := strCells_list T
        generalize (⟨T.toArray⟩ : ByteArray) = t at *
        go_wp2_with fail
        refine HA.out.mono ?_
        rintro e w1 ⟨rfl, rfl⟩
        go_wp2_with fail
        refine (Tryd.Builder_WriteString_k w.heap.size w.heap.size _ t _ hI (by rw [Lib.byteCells_length]; omega) hwz).mono ?_
        rintro e W1 ⟨rfl, k1, b1, _⟩
        go_wp2
        go_roundw
        case rel =>
          refine ⟨pos + n, acc ++ T, by go_num, ?_, hbw.trans b1, by omega, by rw [List.length_append]; omega, HN3⟩
          rw [Lib.byteCells_append, ← hsc]
          exact Or.inr k1
        case measure => simp [intOf]; omega
      · rw [at_other attr s pos hp hc] at hat
        have hdc := drop_cons s pos hp
        have HN2 : Hid ((acc ++ [s[pos]]) ++ decL attr (s.data.toList.drop (pos + 1)) = R) := by
          refine hide ?_
          rw [← HN.out, hdc, decL_other _ _ _ (fun e => hc (by rw [e]; rfl)), List.append_assoc]
          rfl
        have HA : Hid (Calls Tryd.prog 11 #[.string s, .int .i64 (pos : Int), .bool attr] wr fun e w' => e = .returned (.tuple #[.string ⟨#[]⟩, .int .i64 0]) ∧ w' = wr) := hide hat
        have hix := run_index_at s pos (pos : Int) rfl hp
        have hb1 := byteCells_one s[pos]
        generalize s[pos] = c at *
        clear HN hdc hc hat
        go_wp2_with fail
        refine HA.out.mono ?_
        rintro e w1 ⟨rfl, rfl⟩
        go_wp2_with fail
        refine (Tryd.Builder_WriteByte_k w.heap.size w.heap.size _ _ _ hI (by rw [Lib.byteCells_length]; omega) hwz).mono ?_
        rintro e W1 ⟨rfl, k1, b1, _⟩
        go_wp2
        go_roundw
        case rel =>
          refine ⟨pos + 1, acc ++ [c], by go_num, ?_, hbw.trans b1, by omega, by rw [List.length_append]; simp; omega, HN2⟩
          rw [Lib.byteCells_append, hb1]
          exact Or.inr k1
        case measure => simp [intOf]; omega
    · have hp2 : ¬ (pos : Int) < s.size := by omega
      have HE : Hid (acc = R) := by
        refine hide ?_
        rw [← HN.out, drop_end s pos (by omega), decL_nil, List.append_nil]
      clear HN
      go_wp2_with fail
      refine (Tryd.Builder_String_any_k w.heap.size w.heap.size acc _ hI hwz).mono ?_
      rintro e W1 ⟨rfl, _, b1, _⟩
      go_wp2
      go_ret
      exact ⟨ret_str HE.out, hbw.trans b1⟩
end Go.Proofs.YthoibenncjbkdaaDoor.S4
