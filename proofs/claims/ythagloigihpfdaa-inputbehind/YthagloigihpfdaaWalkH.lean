/- What the document's own Valid, Count and Marked, and the statement's marked, answer; nothing that was there is written. -/
import Derived.Test.YthagloigihpfdaaWalkD
import Derived.Test.YthagloigihpfdaaPieces
import Derived.WalkSmall
set_option linter.unusedVariables false
set_option linter.unusedSimpArgs false
namespace Go.Proofs.Ythagloigihpfdaa
open Go.RowKit

theorem size_list' (s : ByteArray) : s.size = s.data.toList.length := by
  rw [Array.length_toList]; rfl
theorem drop_ne' {l : List UInt8} {p : Nat} (h : p < l.length) : l.drop p ≠ [] := by
  intro e
  have := congrArg List.length e
  simp at this
  omega
theorem drewN_below (w : World) (n : Nat) : Below w.heap.size w (w.drewN n) := below_drewN (Below.refl _ w) n

theorem piece_below (s : ByteArray) (at' B : Nat) (hs : s.size ≤ 1000000) (h0 : at' < s.size) (w : World) :
    Calls Try.prog 20 #[.string s, .int .i64 (at' : Int)] w fun e w' => e = .returned (.tuple #[.int .i64 (pieceL (s.data.toList.drop at') : Nat), .bool (goodL (s.data.toList.drop at'))]) ∧ Below B w w' := by
  refine (piece_any s at' hs h0 w).mono ?_
  rintro e w' ⟨rfl, n, rfl⟩
  exact ⟨rfl, below_drewN (Below.refl _ w) n⟩

set_option maxHeartbeats 1000000 in
theorem rvalid_any (s : ByteArray) (hs : s.size ≤ 1000000) (w : World) :
    Calls Try.prog 10 #[.string s] w fun e w' => e = .returned (.bool (validL s.data.toList)) ∧ Below w.heap.size w w' := by
  generalize hR : validL s.data.toList = R
  have HR := hide hR
  clear hR
  go_enter Try.func10, Try.ntmps10
  go_wp2
  go_loopw [3] (fun ta wr => ∃ k : Nat, ta = .int .i64 k ∧ k ≤ s.size ∧ Below w.heap.size w wr ∧ Hid (validL (s.data.toList.drop k) = R)) (fun ta _ => s.size - (intOf ta).toNat)
  case atStart => exact ⟨0, rfl, by omega, Below.refl _ _, hide (by rw [← HR.out]; rfl)⟩
  case round =>
    obtain ⟨k, rfl, hk, hbw, HN⟩ := hrel
    by_cases hp : k < s.size
    · have hp2 : k < s.data.toList.length := by rw [← size_list']; exact hp
      have hvs := validL_step _ (drop_ne' hp2)
      have hpb := pieceL_bd _ (drop_ne' hp2)
      rw [List.length_drop, ← size_list'] at hpb
      have hpc := piece_below s k w.heap.size hs hp
      cases hg : goodL (s.data.toList.drop k)
      · have HE : Hid (R = false) := by
          refine hide ?_
          rw [← HN.out, hvs, hg]; rfl
        rw [hg] at hpc
        have HPC := hide hpc
        clear hvs hpc hg HN
        generalize pieceL (s.data.toList.drop k) = pl at *
        go_wp2_with fail
        refine (HPC.out _).mono ?_
        rintro e w' ⟨rfl, hb⟩
        go_wp2
        go_ret
        exact ⟨ret_bool HE.out.symm, hbw.trans hb⟩
      · have HN2 : Hid (validL (s.data.toList.drop (k + pieceL (s.data.toList.drop k))) = R) := by
          refine hide ?_
          rw [← HN.out, hvs, hg, List.drop_drop]; rfl
        rw [hg] at hpc
        have HPC := hide hpc
        clear hvs hpc hg HN
        generalize pieceL (s.data.toList.drop k) = pl at *
        go_wp2_with fail
        refine (HPC.out _).mono ?_
        rintro e w' ⟨rfl, hb⟩
        go_wp2
        go_roundw
        case rel => exact ⟨k + pl, by go_num, by omega, hbw.trans hb, HN2⟩
        case measure => simp [intOf]; omega
    · have HE : Hid (R = true) := by
        refine hide ?_
        rw [← HN.out, List.drop_eq_nil_of_le (by rw [← size_list']; omega), validL_nil]
      clear HN
      go_wp2
      go_ret
      exact ⟨ret_bool HE.out.symm, hbw⟩

set_option maxHeartbeats 1000000 in
theorem rcount_any (s : ByteArray) (hs : s.size ≤ 1000000) (w : World) :
    Calls Try.prog 12 #[.string s] w fun e w' => e = .returned (.int .i64 (countL s.data.toList : Nat)) ∧ Below w.heap.size w w' := by
  generalize hR : countL s.data.toList = R
  have HR := hide hR
  clear hR
  go_enter Try.func12, Try.ntmps12
  go_wp2
  go_loopw [3, 4] (fun tn ta wr => ∃ n k : Nat, tn = .int .i64 n ∧ ta = .int .i64 k ∧ n ≤ k ∧ k ≤ s.size ∧ Below w.heap.size w wr ∧ Hid (n + countL (s.data.toList.drop k) = R)) (fun _ ta _ => s.size - (intOf ta).toNat)
  case atStart => exact ⟨0, 0, rfl, rfl, by omega, by omega, Below.refl _ _, hide (by rw [← HR.out]; simp)⟩
  case round =>
    obtain ⟨n, k, rfl, rfl, hnk, hk, hbw, HN⟩ := hrel
    by_cases hp : k < s.size
    · have hp2 : k < s.data.toList.length := by rw [← size_list']; exact hp
      have hcs := countL_step _ (drop_ne' hp2)
      have hpb := pieceL_bd _ (drop_ne' hp2)
      rw [List.length_drop, ← size_list'] at hpb
      have hpc := piece_below s k w.heap.size hs hp
      have HN2 : Hid ((n + 1) + countL (s.data.toList.drop (k + pieceL (s.data.toList.drop k))) = R) := by
        refine hide ?_
        rw [← HN.out, hcs, List.drop_drop]; omega
      have HPC := hide hpc
      clear hcs hpc HN
      generalize pieceL (s.data.toList.drop k) = pl at *
      generalize goodL (s.data.toList.drop k) = gd at *
      go_wp2_with fail
      refine (HPC.out _).mono ?_
      rintro e w' ⟨rfl, hb⟩
      go_wp2
      go_roundw
      case rel => exact ⟨n + 1, k + pl, by go_num, by go_num, by omega, by omega, hbw.trans hb, HN2⟩
      case measure => simp [intOf]; omega
    · have HE : Hid (n = R) := by
        refine hide ?_
        rw [← HN.out, List.drop_eq_nil_of_le (by rw [← size_list']; omega), countL_nil]; rfl
      clear HN
      go_wp2
      go_ret
      exact ⟨ret_int (by rw [HE.out]), hbw⟩
end Go.Proofs.Ythagloigihpfdaa
