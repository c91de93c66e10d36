/- What the program's own Is answers of the sets that a policy asks about; nothing that was there is written. -/
import Derived.Test.YthopnliaikkhbaaGreatDoorIw10
set_option linter.unusedVariables false
set_option linter.unusedSimpArgs false
set_option maxRecDepth 4000
namespace Go.Proofs.YthopnliaikkhbaaGreatDoor
open Go.RowKit

set_option maxHeartbeats 1000000 in
theorem among_any (n : ByteArray) (l : List (List UInt8)) (b cap : Nat) (w : World) (hl : l.length ≤ 1000) (hc : ∀ j (hj : j < l.length), w.cell? ⟨b, j, none⟩ = some (.string ⟨(l[j]).toArray⟩)) :
    Calls Tryz.prog 81 #[.string n, .slice (some ⟨b, 0, none⟩) l.length cap] w fun e w' => e = .returned (.bool (amongL l n.data.toList)) ∧ w' = w := by
  have HC := hide hc
  clear hc
  generalize hV : amongL l n.data.toList = V
  have HV := hide hV
  clear hV
  go_enter Tryz.func81, Tryz.ntmps81
  go_wp2
  go_loop [9] (fun i => ∃ k : Nat, k ≤ l.length ∧ i = .int .i64 k ∧ Hid (amongL (l.drop k) n.data.toList = V)) (fun i => l.length - (intOf i).toNat)
  case atStart => exact ⟨0, Nat.zero_le _, rfl, hide (by rw [List.drop_zero]; exact HV.out)⟩
  case round =>
    obtain ⟨k, hk, rfl, HR⟩ := hrel
    by_cases hlt : k < l.length
    · have hcell := HC.out k hlt
      have he := str_eq n l[k]
      have hs := among_step l n.data.toList k hlt
      rw [HR.out] at hs
      have hlt2 : (k : Int) < l.length := by omega
      cases hb : n.data.toList == l[k]
      · rw [hb] at he hs
        rw [Bool.false_or] at hs
        have HR2 := hide hs.symm
        clear hs hb HR
        generalize l[k] = o at *
        clear hlt
        go_wp2
        go_round
        case rel => exact ⟨k + 1, by omega, by go_num, HR2⟩
        case measure => simp [intOf]; omega
      · rw [hb] at he hs
        rw [Bool.true_or] at hs
        have HR2 := hide hs
        clear hs hb HR
        generalize l[k] = o at *
        clear hlt
        go_wp2
        go_ret
        exact ⟨ret_bool HR2.out.symm, rfl⟩
    · have hs := among_end l n.data.toList k (by omega)
      rw [HR.out] at hs
      have HR2 := hide hs
      have hlt2 : ¬ (k : Int) < l.length := by omega
      clear hs HR hlt
      go_wp2
      go_ret
      exact ⟨ret_bool HR2.out.symm, rfl⟩
/-- among, of names that were just written out. -/
theorem among_built (n : ByteArray) (l : List (List UInt8)) (hl : l.length ≤ 1000) (V : Bool) (hV : amongL l n.data.toList = V) (w : World) :
    Calls Tryz.prog 81 #[.string n, .slice (some ⟨w.heap.size, 0, none⟩) l.length l.length] (w.alloc (.cells (cellsOf l) 9)) fun e w' => e = .returned (.bool V) ∧ Below w.heap.size w w' :=
  (among_any n l w.heap.size l.length _ hl (built_cell w l)).mono fun e w' ⟨h1, h2⟩ => ⟨by rw [h1, hV], by rw [h2]; exact below_alloc w _⟩
set_option maxHeartbeats 1000000 in
theorem isp_2 (n : ByteArray) (w : World) :
    Calls Tryz.prog 65 #[.int .i64 2, .string n] w fun e w' => e = .returned (.bool (isL 2 n.data.toList)) ∧ Below w.heap.size w w' := by
  generalize hV : isL 2 n.data.toList = V
  rw [is_2] at hV
  have H := hide (among_built n rawN (by decide) V hV w)
  clear hV
  go_enter Tryz.func65, Tryz.ntmps65
  go_wp2_with fail
  refine H.out.mono ?_
  rintro e w1 ⟨rfl, b1⟩
  go_wp2
  go_ret
  exact ⟨rfl, b1⟩
set_option maxHeartbeats 1000000 in
theorem isp_3 (n : ByteArray) (w : World) :
    Calls Tryz.prog 65 #[.int .i64 3, .string n] w fun e w' => e = .returned (.bool (isL 3 n.data.toList)) ∧ Below w.heap.size w w' := by
  generalize hV : isL 3 n.data.toList = V
  rw [is_3] at hV
  have H := hide (among_built n rcdataN (by decide) V hV w)
  clear hV
  go_enter Tryz.func65, Tryz.ntmps65
  go_wp2_with fail
  refine H.out.mono ?_
  rintro e w1 ⟨rfl, b1⟩
  go_wp2
  go_ret
  exact ⟨rfl, b1⟩
set_option maxHeartbeats 1000000 in
theorem isp_9 (n : ByteArray) (w : World) :
    Calls Tryz.prog 65 #[.int .i64 9, .string n] w fun e w' => e = .returned (.bool (isL 9 n.data.toList)) ∧ Below w.heap.size w w' := by
  generalize hV : isL 9 n.data.toList = V
  rw [is_9] at hV
  have H := hide (among_built n tableN (by decide) V hV w)
  clear hV
  go_enter Tryz.func65, Tryz.ntmps65
  go_wp2_with fail
  refine H.out.mono ?_
  rintro e w1 ⟨rfl, b1⟩
  go_wp2
  go_ret
  exact ⟨rfl, b1⟩
set_option maxHeartbeats 1000000 in
theorem isp_12 (n : ByteArray) (w : World) :
    Calls Tryz.prog 65 #[.int .i64 12, .string n] w fun e w' => e = .returned (.bool (isL 12 n.data.toList)) ∧ Below w.heap.size w w' := by
  have H2 := hide (isp_9 n)
  rw [is_12]
  rw [is_9] at H2
  generalize amongL tableN n.data.toList = V at *
  generalize hU : amongL skipN n.data.toList = U
  have H1 := hide (among_built n skipN (by decide) U hU w)
  clear hU
  cases U
  · go_enter Tryz.func65, Tryz.ntmps65
    go_wp2_with fail
    refine H1.out.mono ?_
    rintro e w1 ⟨rfl, b1⟩
    go_wp2_with fail
    refine (H2.out _).mono ?_
    rintro e w2 ⟨rfl, b2⟩
    go_wp2
    go_ret
    exact ⟨ret_bool (Bool.false_or V).symm, b1.trans (b2.mono b1.size)⟩
  · go_enter Tryz.func65, Tryz.ntmps65
    go_wp2_with fail
    refine H1.out.mono ?_
    rintro e w1 ⟨rfl, b1⟩
    go_wp2
    go_ret
    exact ⟨ret_bool (Bool.true_or V).symm, b1⟩
end Go.Proofs.YthopnliaikkhbaaGreatDoor
