/- What the document's own Decode answers; nothing that was there is written. -/
import Derived.Test.YthagloigihpfdaaDoorWalkJ
import Derived.Lib.IndexBytes
set_option linter.unusedVariables false
set_option linter.unusedSimpArgs false
namespace Go.Proofs.YthagloigihpfdaaDoor
open Go.RowKit

theorem str_app (a b : ByteArray) (x y : List UInt8) (ha : a.data.toList = x) (hb : b.data.toList = y) : (a ++ b).data.toList = x ++ y := by
  rw [ByteArray.data_append, Array.toList_append, ha, hb]
theorem str_eq {a b : ByteArray} (h : a.data.toList = b.data.toList) : a = b := by
  cases a; cases b
  simpa [ByteArray.mk.injEq, Array.toList_inj] using h

set_option maxHeartbeats 1000000 in
theorem rdecode_loop (s0 s : ByteArray) (hs : s.size ≤ 1000000) (hs0 : s0.size ≤ 1000000) (hm : markedL s0.data.toList = true) (HS : Hid (s = s0.extract 3 s0.size)) (h3 : 3 ≤ s0.size) (R : List UInt8) (HR : Hid (decL s.data.toList = R)) (w : World) :
    Calls Tryd.prog 20 #[.string s0] w fun e w' => (∃ x : ByteArray, e = .returned (.string x) ∧ x.data.toList = R) ∧ Below w.heap.size w w' := by
  have HM := hide (rmarked_any s0 hs0)
  rw [hm] at HM
  clear hm
  go_enter Tryd.func20, Tryd.ntmps20
  go_wp2_with fail
  refine (HM.out _).mono ?_
  rintro e w1 ⟨rfl, rfl⟩
  go_wp2
  rw [← HS.out]
  go_loopw [3, 4] (fun to ta wr => ∃ (acc : ByteArray) (k : Nat), to = .string acc ∧ ta = .int .i64 k ∧ k ≤ s.size ∧ Below w1.heap.size w1 wr ∧ acc.size ≤ 3 * k ∧ Hid (acc.data.toList ++ decL (s.data.toList.drop k) = R)) (fun _ ta _ => s.size - (intOf ta).toNat)
  case atStart => exact ⟨_, 0, rfl, rfl, by omega, Below.refl _ _, by decide, hide (by rw [← HR.out]; rfl)⟩
  case round =>
    obtain ⟨acc, k, rfl, rfl, hk, hbw, hal, HN⟩ := hrel
    by_cases hp : k < s.size
    · have hp2 : k < s.data.toList.length := by rw [← size_list']; exact hp
      have hpb := pieceL_bd _ (drop_ne' hp2)
      rw [List.length_drop, ← size_list'] at hpb
      have hpc := piece_below s k w1.heap.size hs hp
      cases hg : goodL (s.data.toList.drop k)
      · have hds := decL_bad _ (drop_ne' hp2) hg
        have HN2 : Hid ((acc ++ (⟨#[239, 191, 189]⟩ : ByteArray)).data.toList ++ decL (s.data.toList.drop (k + pieceL (s.data.toList.drop k))) = R) := by
          refine hide ?_
          rw [← HN.out, hds, List.drop_drop, str_app acc ⟨#[239, 191, 189]⟩ _ [239, 191, 189] rfl rfl, List.append_assoc]
          rfl
        have hal2 : (acc ++ (⟨#[239, 191, 189]⟩ : ByteArray)).size ≤ 3 * (k + pieceL (s.data.toList.drop k)) := by
          rw [ByteArray.size_append]
          have : (⟨#[239, 191, 189]⟩ : ByteArray).size = 3 := rfl
          omega
        rw [hg] at hpc
        have HPC := hide hpc
        have HAL := hide hal2
        clear hds hpc hg HN hal2
        generalize pieceL (s.data.toList.drop k) = pl at *
        go_wp2_with fail
        refine (HPC.out _).mono ?_
        rintro e w2 ⟨rfl, hb⟩
        go_wp2
        go_roundw
        case rel => exact ⟨_, k + pl, rfl, by go_num, by omega, hbw.trans hb, HAL.out, HN2⟩
        case measure => simp [intOf]; omega
      · have hds := decL_good _ (drop_ne' hp2) hg
        have hex : (s.extract k (k + pieceL (s.data.toList.drop k))).data.toList = (s.data.toList.drop k).take (pieceL (s.data.toList.drop k)) := by
          rw [Lib.extract_data, Nat.add_sub_cancel_left]
        have hez : (s.extract k (k + pieceL (s.data.toList.drop k))).size = pieceL (s.data.toList.drop k) := by
          rw [size_list', hex, List.length_take, List.length_drop, ← size_list']; omega
        have HN2 : Hid ((acc ++ s.extract k (k + pieceL (s.data.toList.drop k))).data.toList ++ decL (s.data.toList.drop (k + pieceL (s.data.toList.drop k))) = R) := by
          refine hide ?_
          rw [← HN.out, hds, List.drop_drop, str_app acc _ _ _ rfl hex, List.append_assoc]
        have hal2 : (acc ++ s.extract k (k + pieceL (s.data.toList.drop k))).size ≤ 3 * (k + pieceL (s.data.toList.drop k)) := by
          rw [ByteArray.size_append, hez]
          omega
        rw [hg] at hpc
        have HPC := hide hpc
        have HAL := hide hal2
        clear hds hpc hg HN hal2 hex hez
        generalize pieceL (s.data.toList.drop k) = pl at *
        go_wp2_with fail
        refine (HPC.out _).mono ?_
        rintro e w2 ⟨rfl, hb⟩
        go_wp2
        go_roundw
        case rel => exact ⟨_, k + pl, rfl, by go_num, by omega, hbw.trans hb, HAL.out, HN2⟩
        case measure => simp [intOf]; omega
    · have HE : Hid (acc.data.toList = R) := by
        refine hide ?_
        rw [← HN.out, List.drop_eq_nil_of_le (by rw [← size_list']; omega), decL_nil, List.append_nil]
      clear HN
      go_wp2
      go_ret
      exact ⟨⟨_, rfl, HE.out⟩, hbw⟩

set_option maxHeartbeats 1000000 in
theorem rdecode_plain (s : ByteArray) (hs : s.size ≤ 1000000) (hm : markedL s.data.toList = false) (R : List UInt8) (HR : Hid (decL s.data.toList = R)) (w : World) :
    Calls Tryd.prog 20 #[.string s] w fun e w' => (∃ x : ByteArray, e = .returned (.string x) ∧ x.data.toList = R) ∧ Below w.heap.size w w' := by
  have HM := hide (rmarked_any s hs)
  rw [hm] at HM
  clear hm
  go_enter Tryd.func20, Tryd.ntmps20
  go_wp2_with fail
  refine (HM.out _).mono ?_
  rintro e w1 ⟨rfl, rfl⟩
  go_wp2
  go_loopw [3, 4] (fun to ta wr => ∃ (acc : ByteArray) (k : Nat), to = .string acc ∧ ta = .int .i64 k ∧ k ≤ s.size ∧ Below w1.heap.size w1 wr ∧ acc.size ≤ 3 * k ∧ Hid (acc.data.toList ++ decL (s.data.toList.drop k) = R)) (fun _ ta _ => s.size - (intOf ta).toNat)
  case atStart => exact ⟨_, 0, rfl, rfl, by omega, Below.refl _ _, by decide, hide (by rw [← HR.out]; rfl)⟩
  case round =>
    obtain ⟨acc, k, rfl, rfl, hk, hbw, hal, HN⟩ := hrel
    by_cases hp : k < s.size
    · have hp2 : k < s.data.toList.length := by rw [← size_list']; exact hp
      have hpb := pieceL_bd _ (drop_ne' hp2)
      rw [List.length_drop, ← size_list'] at hpb
      have hpc := piece_below s k w1.heap.size hs hp
      cases hg : goodL (s.data.toList.drop k)
      · have hds := decL_bad _ (drop_ne' hp2) hg
        have HN2 : Hid ((acc ++ (⟨#[239, 191, 189]⟩ : ByteArray)).data.toList ++ decL (s.data.toList.drop (k + pieceL (s.data.toList.drop k))) = R) := by
          refine hide ?_
          rw [← HN.out, hds, List.drop_drop, str_app acc ⟨#[239, 191, 189]⟩ _ [239, 191, 189] rfl rfl, List.append_assoc]
          rfl
        have hal2 : (acc ++ (⟨#[239, 191, 189]⟩ : ByteArray)).size ≤ 3 * (k + pieceL (s.data.toList.drop k)) := by
          rw [ByteArray.size_append]
          have : (⟨#[239, 191, 189]⟩ : ByteArray).size = 3 := rfl
          omega
        rw [hg] at hpc
        have HPC := hide hpc
        have HAL := hide hal2
        clear hds hpc hg HN hal2
        generalize pieceL (s.data.toList.drop k) = pl at *
        go_wp2_with fail
        refine (HPC.out _).mono ?_
        rintro e w2 ⟨rfl, hb⟩
        go_wp2
        go_roundw
        case rel => exact ⟨_, k + pl, rfl, by go_num, by omega, hbw.trans hb, HAL.out, HN2⟩
        case measure => simp [intOf]; omega
      · have hds := decL_good _ (drop_ne' hp2) hg
        have hex : (s.extract k (k + pieceL (s.data.toList.drop k))).data.toList = (s.data.toList.drop k).take (pieceL (s.data.toList.drop k)) := by
          rw [Lib.extract_data, Nat.add_sub_cancel_left]
        have hez : (s.extract k (k + pieceL (s.data.toList.drop k))).size = pieceL (s.data.toList.drop k) := by
          rw [size_list', hex, List.length_take, List.length_drop, ← size_list']; omega
        have HN2 : Hid ((acc ++ s.extract k (k + pieceL (s.data.toList.drop k))).data.toList ++ decL (s.data.toList.drop (k + pieceL (s.data.toList.drop k))) = R) := by
          refine hide ?_
          rw [← HN.out, hds, List.drop_drop, str_app acc _ _ _ rfl hex, List.append_assoc]
        have hal2 : (acc ++ s.extract k (k + pieceL (s.data.toList.drop k))).size ≤ 3 * (k + pieceL (s.data.toList.drop k)) := by
          rw [ByteArray.size_append, hez]
          omega
        rw [hg] at hpc
        have HPC := hide hpc
        have HAL := hide hal2
        clear hds hpc hg HN hal2 hex hez
        generalize pieceL (s.data.toList.drop k) = pl at *
        go_wp2_with fail
        refine (HPC.out _).mono ?_
        rintro e w2 ⟨rfl, hb⟩
        go_wp2
        go_roundw
        case rel => exact ⟨_, k + pl, rfl, by go_num, by omega, hbw.trans hb, HAL.out, HN2⟩
        case measure => simp [intOf]; omega
    · have HE : Hid (acc.data.toList = R) := by
        refine hide ?_
        rw [← HN.out, List.drop_eq_nil_of_le (by rw [← size_list']; omega), decL_nil, List.append_nil]
      clear HN
      go_wp2
      go_ret
      exact ⟨⟨_, rfl, HE.out⟩, hbw⟩

theorem rdecode_any (s : ByteArray) (hs : s.size ≤ 1000000) (w : World) :
    Calls Tryd.prog 20 #[.string s] w fun e w' => e = .returned (.string ⟨(DecL s.data.toList).toArray⟩) ∧ Below w.heap.size w w' := by
  cases hm : markedL s.data.toList
  · refine (rdecode_plain s hs hm _ rfl w).mono ?_
    rintro e w' ⟨⟨x, rfl, hx⟩, hb⟩
    refine ⟨?_, hb⟩
    have : x = ⟨(DecL s.data.toList).toArray⟩ := str_eq (by rw [hx]; unfold DecL; rw [stripL_not _ hm])
    rw [this]
  · have h3 : 3 ≤ s.size := by
      rcases Nat.lt_or_ge s.size 3 with h | h
      · rw [marked_short _ (by rw [← size_list']; exact h)] at hm; exact absurd hm (by decide)
      · exact h
    have hd := Lib.extract_to_end s 3
    have hz : (s.extract 3 s.size).size ≤ 1000000 := by
      rw [size_list', hd, List.length_drop, ← size_list']; omega
    refine (rdecode_loop s (s.extract 3 s.size) hz hs hm rfl h3 _ rfl w).mono ?_
    rintro e w' ⟨⟨x, rfl, hx⟩, hb⟩
    refine ⟨?_, hb⟩
    have : x = ⟨(DecL s.data.toList).toArray⟩ := str_eq (by rw [hx, hd]; unfold DecL stripL; rw [if_pos hm])
    rw [this]
end Go.Proofs.YthagloigihpfdaaDoor
