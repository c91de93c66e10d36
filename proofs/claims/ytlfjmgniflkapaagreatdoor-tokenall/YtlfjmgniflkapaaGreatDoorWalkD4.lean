/- What the document's own text answers; nothing that was there is written. -/
import Derived.Test.YtlfjmgniflkapaaGreatDoorLow4
import Derived.Test.YtlfjmgniflkapaaGreatDoorWalkI
set_option linter.unusedVariables false
set_option linter.unusedSimpArgs false
namespace Go.Proofs.YtlfjmgniflkapaaGreatDoor
open Go.RowKit

set_option maxHeartbeats 2000000 in
theorem text_any (s : ByteArray) (hs : s.size ≤ 100000) (p : Nat) (hp : p ≤ s.size) (w : World) :
    Calls Tryz.prog 27 #[.string s, .int .i64 (p : Int)] w fun e w' => e = .returned (.tuple #[tokV { kind := 1, text := decL false (spanT (s.data.toList.drop p)).1 } (.slice none 0 0), .int .i64 (s.size - (spanT (s.data.toList.drop p)).2.length : Nat)]) ∧ Below w.heap.size w w' := by
  have hap := spanT_app (s.data.toList.drop p)
  have hcut := cut_at s p hp _ _ hap
  have hd := rdecode_any ⟨((spanT (s.data.toList.drop p)).1).toArray⟩ (by
    have hl := congrArg List.length hap
    rw [List.length_append, List.length_drop, ← size_list] at hl
    rw [size_list, str_data]
    omega) false
  rw [str_data] at hd
  have HB := hide (fun k (hk : k ≤ s.size) => begins_any s (by omega) k hk)
  have HLEN : Hid (∀ k, k ≤ s.size → (s.data.toList.drop k).length = s.size - k) := hide (fun k _ => by rw [List.length_drop, ← size_list])
  generalize hV : (spanT (s.data.toList.drop p)).2 = V at *
  have HV := hide hV
  generalize (spanT (s.data.toList.drop p)).1 = T at *
  have HC := hide hcut
  have HD := hide hd
  clear hV hap hcut hd
  generalize decL false T = X at *
  generalize hN : s.size - V.length = N at *
  have HN := hide hN
  clear hN
  go_enter Tryz.func27, Tryz.ntmps27
  go_wp2
  go_loop [6] (fun i => ∃ k : Nat, p ≤ k ∧ k ≤ s.size ∧ i = .int .i64 k ∧ Hid ((spanT (s.data.toList.drop k)).2 = V)) (fun i => s.size - (intOf i).toNat)
  case atStart => exact ⟨p, Nat.le_refl _, hp, rfl, HV⟩
  case round =>
    obtain ⟨k, hpk, hk, rfl, HR⟩ := hrel
    by_cases hlt : k < s.size
    · have hst := spanT_step s k hlt
      rw [HR.out] at hst
      have hlt2 : (k : Int) < s.size := by omega
      have HQ := hide (HB.out k hk)
      have HS := hide hst
      clear hst HR
      generalize beginsB (s.data.toList.drop k) = B at *
      go_wp2_with fail
      refine (HQ.out _).mono ?_
      rintro e w1 ⟨rfl, rfl⟩
      cases B
      · have HR2 : Hid ((spanT (s.data.toList.drop (k + 1))).2 = V) := hide (by rw [HS.out]; rfl)
        clear HS
        go_wp2
        go_round
        case rel => exact ⟨k + 1, by omega, by omega, by go_num, HR2⟩
        case measure => simp [intOf]; omega
      · have hk2 : k = N := by
          have := HS.out
          rw [if_pos rfl] at this
          rw [← HN.out, this, HLEN.out k hk]
          omega
        subst hk2
        have HD2 : Hid (∀ w, Calls Tryz.prog 17 #[.string (s.extract p k), .bool false] w fun e w' => e = .returned (.string ⟨X.toArray⟩) ∧ Below w.heap.size w w') := hide (by rw [HC.out.1]; exact HD.out)
        clear HS HD HC HN
        go_wp2_with fail
        refine (HD2.out _).mono ?_
        rintro e w2 ⟨rfl, b2⟩
        obtain ⟨hcell, hfz⟩ := bcell b2
        have hz : w.heap.size < w2.heap.size := by have := b2.size; simp at this; omega
        go_wp2
        refine bodyPost_ret (v := .tuple #[tokV { kind := 1, text := X } (.slice none 0 0), .int .i64 (k : Nat)]) ?_ rfl ⟨rfl, ?_⟩
        · rw [results_cell_tmp rfl]; go_simp
          rfl
        · exact below_set5 _ b2 _ _ _ _ _
    · have hk2 : k = N := by
        have := HR.out
        rw [drop_end s k (by omega)] at this
        rw [← HN.out, ← this]
        simp only [spanT, List.length_nil]
        omega
      subst hk2
      have HD2 : Hid (∀ w, Calls Tryz.prog 17 #[.string (s.extract p k), .bool false] w fun e w' => e = .returned (.string ⟨X.toArray⟩) ∧ Below w.heap.size w w') := hide (by rw [HC.out.1]; exact HD.out)
      have hlt2 : ¬ (k : Int) < s.size := by omega
      clear HD HC HN HR
      go_wp2_with fail
      refine (HD2.out _).mono ?_
      rintro e w2 ⟨rfl, b2⟩
      obtain ⟨hcell, hfz⟩ := bcell b2
      have hz : w.heap.size < w2.heap.size := by have := b2.size; simp at this; omega
      go_wp2
      refine bodyPost_ret (v := .tuple #[tokV { kind := 1, text := X } (.slice none 0 0), .int .i64 (k : Nat)]) ?_ rfl ⟨rfl, ?_⟩
      · rw [results_cell_tmp rfl]; go_simp
        rfl
      · exact below_set5 _ b2 _ _ _ _ _
end Go.Proofs.YtlfjmgniflkapaaGreatDoor
