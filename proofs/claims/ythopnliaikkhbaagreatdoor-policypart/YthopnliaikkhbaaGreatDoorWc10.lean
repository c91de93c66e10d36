/- What Safe answers, the program's and the document's own, and the live question; nothing that was there is written. -/
import Derived.Test.YthopnliaikkhbaaGreatDoorWb10
set_option linter.unusedVariables false
set_option linter.unusedSimpArgs false
set_option maxRecDepth 4000
namespace Go.Proofs.YthopnliaikkhbaaGreatDoor
open Go.RowKit

set_option maxHeartbeats 1000000 in
theorem safe_any (s : ByteArray) (hs : s.size ≤ 1000000) (l : List (List UInt8)) (hl : l.length ≤ 1000000) (v : Value) (w : World) (hW : IsW w v l) :
    Calls Tryz.prog 52 #[.string s, v] w fun e w' => e = .returned (.bool (safeL s.data.toList l)) ∧ Below w.heap.size w w' := by
  have H1 := hide (of_any s hs)
  unfold safeL
  have H2 := hide (fun n w1 (b : Below w.heap.size w w1) => contains_any n l v w1 hl (hW.below b))
  clear hW
  cases ho : ofL s.data.toList with
  | none =>
    rw [ho] at H1
    have H1' : Hid (∀ w, Calls Tryz.prog 69 #[.string s] w fun e w' => e = .returned (.tuple #[.string ⟨#[]⟩, .bool false]) ∧ Below w.heap.size w w') := H1
    clear H1 ho
    go_enter Tryz.func52, Tryz.ntmps52
    go_wp2_with fail
    refine (H1'.out _).mono ?_
    rintro e w1 ⟨rfl, b1⟩
    go_wp2
    go_ret
    exact ⟨rfl, b1⟩
  | some a =>
    rw [ho] at H1
    have H1' : Hid (∀ w, Calls Tryz.prog 69 #[.string s] w fun e w' => e = .returned (.tuple #[.string ⟨a.toArray⟩, .bool true]) ∧ Below w.heap.size w w') := H1
    have H2' := hide (fun w1 (b : Below w.heap.size w w1) => H2.out ⟨a.toArray⟩ w1 b)
    have e : (⟨a.toArray⟩ : ByteArray).data.toList = a := str_data a
    rw [e] at H2'
    show Calls Tryz.prog 52 #[.string s, v] w fun e w' => e = .returned (.bool (amongL l a)) ∧ Below w.heap.size w w'
    generalize amongL l a = B at *
    generalize (⟨a.toArray⟩ : ByteArray) = x at *
    clear H1 ho H2 e
    go_enter Tryz.func52, Tryz.ntmps52
    go_wp2_with fail
    refine (H1'.out _).mono ?_
    rintro e w1 ⟨rfl, b1⟩
    go_wp2_with fail
    refine (H2'.out _ b1).mono ?_
    rintro e w2 ⟨rfl, rfl⟩
    go_wp2
    go_ret
    exact ⟨rfl, b1⟩

theorem among_step2 (l : List (List UInt8)) (n : List UInt8) (k : Nat) (h : k < l.length) : amongL (l.drop k) n = (l[k] == n || amongL (l.drop (k + 1)) n) := by
  rw [among_step l n k h]
  congr 1
  rw [Bool.eq_iff_iff]
  rw [beq_iff_eq, beq_iff_eq]
  exact eq_comm
set_option maxHeartbeats 1000000 in
theorem rsafe_any (s : ByteArray) (hs : s.size ≤ 1000000) (l : List (List UInt8)) (hl : l.length ≤ 1000000) (v : Value) (w : World) (hW : IsW w v l) :
    Calls Tryz.prog 62 #[.string s, v] w fun e w' => e = .returned (.bool (safeL s.data.toList l)) ∧ Below w.heap.size w w' := by
  have H1 := hide (rof_any s hs)
  unfold safeL
  cases ho : ofL s.data.toList with
  | none =>
    rw [ho] at H1
    have H1' : Hid (∀ w, Calls Tryz.prog 78 #[.string s] w fun e w' => e = .returned (.tuple #[.string ⟨#[]⟩, .bool false]) ∧ Below w.heap.size w w') := H1
    clear H1 ho hW
    go_enter Tryz.func62, Tryz.ntmps62
    go_wp2_with fail
    refine (H1'.out _).mono ?_
    rintro e w1 ⟨rfl, b1⟩
    go_wp2
    go_ret
    exact ⟨rfl, b1⟩
  | some a =>
    rw [ho] at H1
    have H1' : Hid (∀ w, Calls Tryz.prog 78 #[.string s] w fun e w' => e = .returned (.tuple #[.string ⟨a.toArray⟩, .bool true]) ∧ Below w.heap.size w w') := H1
    show Calls Tryz.prog 62 #[.string s, v] w fun e w' => e = .returned (.bool (amongL l a)) ∧ Below w.heap.size w w'
    clear H1 ho
    have e : (⟨a.toArray⟩ : ByteArray).data.toList = a := str_data a
    generalize (⟨a.toArray⟩ : ByteArray) = x at *
    subst e
    rcases hW with ⟨rfl, aa, c, rfl⟩ | ⟨b, o, cap, rfl, hc⟩
    · go_enter Tryz.func62, Tryz.ntmps62
      go_wp2_with fail
      refine (H1'.out _).mono ?_
      rintro e w1 ⟨rfl, b1⟩
      go_wp2
      go_loop [7] (fun i => i = .int .i64 0) (fun i => 0)
      case atStart => rfl
      case round =>
        subst hrel
        go_wp2
        go_ret
        exact ⟨rfl, b1⟩
    · have HC := hide hc
      clear hc
      generalize hV : amongL l x.data.toList = V
      have HV := hide hV
      clear hV
      go_enter Tryz.func62, Tryz.ntmps62
      go_wp2_with fail
      refine (H1'.out _).mono ?_
      rintro e w1 ⟨rfl, b1⟩
      go_wp2
      go_loop [7] (fun i => ∃ k : Nat, k ≤ l.length ∧ i = .int .i64 k ∧ Hid (amongL (l.drop k) x.data.toList = V)) (fun i => l.length - (intOf i).toNat)
      case atStart => exact ⟨0, Nat.zero_le _, rfl, hide (by rw [List.drop_zero]; exact HV.out)⟩
      case round =>
        obtain ⟨k, hk, rfl, HR⟩ := hrel
        by_cases hlt : k < l.length
        · have hc0 := HC.out k hlt
          have hcell : w1.cell? ⟨b, o + k, none⟩ = some (.string ⟨(l[k]).toArray⟩) := by rw [b1.cell (cell_lt hc0)]; exact hc0
          clear hc0
          have he : ((⟨(l[k]).toArray⟩ : ByteArray).toList == x.toList) = (l[k] == x.data.toList) := by rw [Lib.toList_data, Lib.toList_data, str_data]
          have hs := among_step2 l x.data.toList k hlt
          rw [HR.out] at hs
          have hlt2 : (k : Int) < l.length := by omega
          cases hb : l[k] == x.data.toList
          · rw [hb] at he hs
            rw [Bool.false_or] at hs
            have HR2 := hide hs.symm
            clear hs hb HR
            generalize (⟨(l[k]).toArray⟩ : ByteArray) = y at *
            go_wp2
            go_round
            case rel => exact ⟨k + 1, by omega, by go_num, HR2⟩
            case measure => simp [intOf]; omega
          · rw [hb] at he hs
            rw [Bool.true_or] at hs
            have HR2 := hide hs
            clear hs hb HR
            generalize (⟨(l[k]).toArray⟩ : ByteArray) = y at *
            go_wp2
            go_ret
            exact ⟨ret_bool HR2.out.symm, b1⟩
        · have hs := among_end l x.data.toList k (by omega)
          rw [HR.out] at hs
          have HR2 := hide hs
          have hlt2 : ¬ (k : Int) < l.length := by omega
          clear hs HR hlt
          go_wp2
          go_ret
          exact ⟨ret_bool HR2.out.symm, b1⟩

theorem live_of1 : ofL [32, 106, 65, 118, 97, 9, 115, 99, 114, 105, 112, 116, 58, 120] = some [106, 97, 118, 97, 115, 99, 114, 105, 112, 116] := by decide +kernel
theorem live_of2 : ofL [47, 97, 58, 98] = none := by decide +kernel
theorem live_safe1 : safeL [47, 97, 58, 98] [] = true := by decide +kernel
theorem live_safe2 : safeL [97, 58, 98] [] = false := by decide +kernel
end Go.Proofs.YthopnliaikkhbaaGreatDoor
