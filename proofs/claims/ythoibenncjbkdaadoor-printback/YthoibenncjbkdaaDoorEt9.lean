/- What the program's Escape answers, of whatever text; nothing that was there is written. -/
import Derived.Test.YthoibenncjbkdaaDoorEs9
set_option linter.unusedVariables false
set_option linter.unusedSimpArgs false
set_option maxRecDepth 4000
namespace Go.Proofs.YthoibenncjbkdaaDoor
open Go.RowKit

theorem strCells9 (T : List UInt8) : Lib.strCells ⟨T.toArray⟩ = Lib.byteCells T := by
  simp [Lib.strCells, Lib.byteCells]
theorem cut_list (s : ByteArray) (k : Nat) : (s.extract k s.size).data.toList = s.data.toList.drop k := by
  rw [Lib.extract_data]
  refine List.take_of_length_le ?_
  rw [List.length_drop, ← S5.size_list]
  omega
theorem cut_size (s : ByteArray) (k : Nat) (h : k ≤ s.size) : (s.extract k s.size).size = s.size - k := by
  rw [S5.size_list, cut_list, List.length_drop, ← S5.size_list]
theorem list_drop (s : ByteArray) (k : Nat) (h : k < s.size) : s.data.toList.drop k = s[k] :: s.data.toList.drop (k + 1) := by
  have h2 : k < s.data.toList.length := by rw [← S5.size_list]; exact h
  rw [List.drop_eq_getElem_cons h2]
  rfl
theorem cut_head (s : ByteArray) (k : Nat) (h : k < s.size) (h2 : 0 < (s.extract k s.size).size) : (s.extract k s.size)[0] = s[k] ∧ (s.extract k s.size).data.toList.drop 1 = s.data.toList.drop (k + 1) := by
  have e := list_head (s.extract k s.size) h2
  rw [cut_list, list_drop s k h] at e
  injection e with e1 e2
  refine ⟨e1.symm, ?_⟩
  rw [cut_list, List.drop_drop]
theorem first_at (s : ByteArray) (k : Nat) (h : k < s.size) (hs : s.size ≤ 100000000) (attr : Bool) : escP attr (s.extract k s.size) (escF attr s[k] (s.data.toList.drop (k + 1))).1 (escF attr s[k] (s.data.toList.drop (k + 1))).2 := by
  have hz := cut_size s k (by omega)
  have h2 : 0 < (s.extract k s.size).size := by omega
  have := first_any (s.extract k s.size) h2 (by omega) attr
  obtain ⟨e1, e2⟩ := cut_head s k h h2
  rw [e1, e2] at this
  exact this
set_option maxHeartbeats 2000000 in
theorem escape_any (s : ByteArray) (hs : s.size ≤ 1000000) (attr : Bool) (w : World) :
    Calls Tryd.prog 5 #[.string s, .bool attr] w fun e w' => e = .returned (.string ⟨(escL attr s.data.toList).toArray⟩) ∧ Below w.heap.size w w' := by
  have HF := hide (fun (k : Nat) (h : k < s.size) => first_at s k h (by omega) attr)
  have HS := hide (fun (k : Nat) (h : k < s.size) => list_drop s k h)
  have HE : Hid (∀ k, s.data.toList.length ≤ k → s.data.toList.drop k = []) := hide (fun k h => List.drop_eq_nil_of_le h)
  have hz := S5.size_list s
  generalize hR : escL attr s.data.toList = R at *
  have HR := hide hR
  have HZ := hide hz
  clear hR hz
  go_enter Tryd.func5, Tryd.ntmps5
  go_wp2
  go_loopw [6] (fun te wr => ∃ (pos : Nat) (acc : List UInt8), te = .int .i64 pos ∧ Lib.IsBuilderF SB.tP SB.tU w.heap.size w.heap.size (Lib.byteCells acc) wr ∧ Below w.heap.size w wr ∧ pos ≤ s.size ∧ acc.length ≤ 6 * pos ∧ Hid (acc ++ escL attr (s.data.toList.drop pos) = R)) (fun te _ => s.size - (intOf te).toNat)
  case atStart =>
    refine ⟨0, [], rfl, SB.fresh_p w, (Below.refl _ w).alloc (Nat.le_refl _) _, by omega, by simp, hide ?_⟩
    rw [List.drop_zero, List.nil_append]
    exact HR.out
  case round =>
    obtain ⟨pos, acc, rfl, hI, hbw, hps, hal, HN⟩ := hrel
    have hwz : w.heap.size ≤ wr.heap.size := hbw.size
    by_cases hp : pos < s.size
    · have hp2 : (pos : Int) < s.size := by omega
      have hps2 : (pos : Int) ≤ s.size := by omega
      have hd := HS.out pos hp
      have hf := HF.out pos hp wr
      have hb := escF_bd attr s[pos] (s.data.toList.drop (pos + 1))
      have hl := escL_first attr s[pos] (s.data.toList.drop (pos + 1))
      rw [← hd, List.drop_drop] at hl
      rw [List.length_drop, ← HZ.out] at hb
      generalize escF attr s[pos] (s.data.toList.drop (pos + 1)) = Q at *
      obtain ⟨T, n⟩ := Q
      simp only at hb hl hf
      have HN2 : Hid ((acc ++ T) ++ escL attr (s.data.toList.drop (pos + n)) = R) := hide (by rw [← HN.out, hl, List.append_assoc])
      have HF2 := hide hf
      have hts : (⟨T.toArray⟩ : ByteArray).size = T.length := by rw [S5.size_list, S5.str_data]
      have HSC := hide (strCells9 T)
      obtain ⟨hb1, hb2, hb3, hb4⟩ := hb
      clear HN hl hf hd
      generalize (⟨T.toArray⟩ : ByteArray) = t at *
      go_wp2_with fail
      refine HF2.out.mono ?_
      rintro e w1 ⟨rfl, rfl⟩
      go_wp2_with fail
      refine (SB.write_k w.heap.size w.heap.size _ t _ hI (by rw [Lib.byteCells_length]; omega) hwz).mono ?_
      rintro e W1 ⟨rfl, k1, b1, _⟩
      go_wp2
      go_roundw
      case rel =>
        refine ⟨pos + n, acc ++ T, by go_num, ?_, hbw.trans b1, by omega, by rw [List.length_append]; omega, HN2⟩
        rw [Lib.byteCells_append, ← HSC.out]
        exact Or.inr k1
      case measure => simp [intOf]; omega
    · have hp2 : ¬ (pos : Int) < s.size := by omega
      have HE2 : Hid (acc = R) := by
        refine hide ?_
        rw [← HN.out, HE.out pos (by rw [← HZ.out]; omega), escL_nil, List.append_nil]
      clear HN
      go_wp2_with fail
      refine (SB.string_any w.heap.size w.heap.size acc _ hI hwz).mono ?_
      rintro e W1 ⟨rfl, b1⟩
      go_wp2
      go_ret
      exact ⟨S5.ret_str HE2.out, hbw.trans b1⟩
end Go.Proofs.YthoibenncjbkdaaDoor
