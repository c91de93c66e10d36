/- What the program's Number answers, of whatever number, where the table of the numbers 128 to 159 stands as it was laid; the world stays as it was. -/
import Derived.Test.YthoibenncjbkdaaDoorS4WalkPA
import Derived.Laws.Runes
set_option linter.unusedVariables false
set_option linter.unusedSimpArgs false
set_option maxRecDepth 4000
namespace Go.Proofs.YthoibenncjbkdaaDoor.S4
open Go.RowKit

theorem encode_str (n : Nat) (hn : n ≤ 1114111) (hs : ¬ (55296 ≤ n ∧ n ≤ 57343)) : Utf8.encode (n : Int) = ⟨(Lib.encodeRune (n : Int)).toArray⟩ := by
  have hv : Utf8.valid (n : Int) = true := by
    unfold Utf8.valid
    simp only [Bool.or_eq_true, Bool.and_eq_true, decide_eq_true_eq]
    omega
  unfold Utf8.encode Lib.encodeRune
  simp only [hv, if_true, Int.toNat_natCast]
  rcases (by omega : n < 128 ∨ (128 ≤ n ∧ n < 2048) ∨ (2048 ≤ n ∧ n < 65536) ∨ 65536 ≤ n) with h | h | h | h
  · rw [Lib.encodeRuneZ_one (r := (n : Int)) (by omega) (by omega), if_pos (by omega)]
    rfl
  · rw [Lib.encodeRuneZ_two (r := (n : Int)) (by omega) (by omega), if_neg (by omega), if_pos (by omega)]
    simp only [List.map_cons, List.map_nil]
    rw [show (192 + (n : Int) / 64).toNat = 192 + n / 64 by omega, show (128 + (n : Int) % 64).toNat = 128 + n % 64 by omega]
  · rw [Lib.encodeRuneZ_three (r := (n : Int)) (by omega), if_neg (by omega), if_neg (by omega), if_pos (by omega)]
    simp only [List.map_cons, List.map_nil]
    rw [show (224 + (n : Int) / 4096).toNat = 224 + n / 4096 by omega, show (128 + (n : Int) / 64 % 64).toNat = 128 + n / 64 % 64 by omega, show (128 + (n : Int) % 64).toNat = 128 + n % 64 by omega]
  · rw [Lib.encodeRuneZ_four (r := (n : Int)) (by omega) (by omega), if_neg (by omega), if_neg (by omega), if_neg (by omega)]
    simp only [List.map_cons, List.map_nil]
    rw [show (240 + (n : Int) / 262144).toNat = 240 + n / 262144 by omega, show (128 + (n : Int) / 4096 % 64).toNat = 128 + n / 4096 % 64 by omega, show (128 + (n : Int) / 64 % 64).toNat = 128 + n / 64 % 64 by omega, show (128 + (n : Int) % 64).toNat = 128 + n % 64 by omega]

/-- The table of the program stands as it was laid. -/
def OldOk (w : World) : Prop := ∀ j : Nat, j < 32 → w.cell? ⟨0, j, none⟩ = some (.int .i32 (oldN.getD j 0 : Nat))
theorem OldOk.below {w W : World} (h : OldOk w) (hb : Below w.heap.size w W) : OldOk W := by
  intro j hj
  rw [hb.cell (cell_lt (h j hj))]
  exact h j hj

set_option maxHeartbeats 2000000 in
theorem number_same (n : Int) (w : World) (ho : OldOk w) :
    Calls Tryd.prog 24 #[.int .i64 n] w fun e w' => e = .returned (.string ⟨(numberL n).toArray⟩) ∧ w' = w := by
  rcases (by omega : n ≤ 0 ∨ 1114111 < n ∨ (55296 ≤ n ∧ n ≤ 57343) ∨ (128 ≤ n ∧ n ≤ 159) ∨ (0 < n ∧ n < 128) ∨ (159 < n ∧ n < 55296) ∨ (57343 < n ∧ n ≤ 1114111)) with h | h | h | h | h | h | h
  · have hv : numberL n = [239, 191, 189] := by unfold numberL cpN; rw [if_pos (by omega)]; decide +kernel
    rw [hv]
    have d0 : n ≤ 0 := by omega
    clear h hv ho
    go_enter Tryd.func24, Tryd.ntmps24
    go_wp2
    go_ret
    exact ⟨rfl, rfl⟩
  · have hv : numberL n = [239, 191, 189] := by unfold numberL cpN; rw [if_pos (by omega)]; decide +kernel
    rw [hv]
    have d0 : ¬ (n ≤ 0) := by omega
    have d1 : 1114111 < n := by omega
    clear h hv ho
    go_enter Tryd.func24, Tryd.ntmps24
    go_wp2
    go_ret
    exact ⟨rfl, rfl⟩
  · have hv : numberL n = [239, 191, 189] := by unfold numberL cpN; rw [if_pos (by omega)]; decide +kernel
    rw [hv]
    have d0 : ¬ (n ≤ 0) := by omega
    have d1 : ¬ (1114111 < n) := by omega
    have d2 : 55296 ≤ n := by omega
    have d3 : n ≤ 57343 := by omega
    clear h hv ho
    go_enter Tryd.func24, Tryd.ntmps24
    go_wp2
    go_ret
    exact ⟨rfl, rfl⟩
  · have hv : numberL n = Lib.encodeRune ((oldN.getD (n - 128).toNat 0 : Nat) : Int) := by
      unfold numberL cpN
      rw [if_neg (by omega), if_pos (by omega)]
    have hr := old_range (n - 128).toNat (by omega)
    have he := encode_str _ hr.1 hr.2
    have hc := ho (n - 128).toNat (by omega)
    rw [hv, ← he]
    clear hv hr he ho
    generalize oldN.getD (n - 128).toNat 0 = c at *
    have d0 : ¬ (n ≤ 0) := by omega
    have d1 : ¬ (1114111 < n) := by omega
    have d2 : ¬ (55296 ≤ n) := by omega
    have d3 : 128 ≤ n := by omega
    have d4 : n ≤ 159 := by omega
    clear h
    go_enter Tryd.func24, Tryd.ntmps24
    go_wp2
    go_ret
    exact ⟨rfl, rfl⟩
  · obtain ⟨m, rfl⟩ : ∃ m : Nat, n = (m : Int) := ⟨n.toNat, by omega⟩
    have hv : numberL (m : Int) = Lib.encodeRune (m : Int) := by
      unfold numberL cpN
      rw [if_neg (by omega), if_neg (by omega)]
    have he := encode_str m (by omega) (by omega)
    rw [hv, ← he]
    clear hv he ho
    have d0 : ¬ ((m : Int) ≤ 0) := by omega
    have d1 : ¬ (1114111 < (m : Int)) := by omega
    have d2 : ¬ (55296 ≤ (m : Int)) := by omega
    have d3 : ¬ (128 ≤ (m : Int)) := by omega
    have d9 : IntKind.i32.wrap (m : Int) = m := by rw [IntKind.wrap]; simp [IntKind.bits, IntKind.signed]; omega
    clear h
    go_enter Tryd.func24, Tryd.ntmps24
    go_wp2
    go_ret
    exact ⟨rfl, rfl⟩
  · obtain ⟨m, rfl⟩ : ∃ m : Nat, n = (m : Int) := ⟨n.toNat, by omega⟩
    have hv : numberL (m : Int) = Lib.encodeRune (m : Int) := by
      unfold numberL cpN
      rw [if_neg (by omega), if_neg (by omega)]
    have he := encode_str m (by omega) (by omega)
    rw [hv, ← he]
    clear hv he ho
    have d0 : ¬ ((m : Int) ≤ 0) := by omega
    have d1 : ¬ (1114111 < (m : Int)) := by omega
    have d2 : ¬ (55296 ≤ (m : Int)) := by omega
    have d3 : 128 ≤ (m : Int) := by omega
    have d4 : ¬ ((m : Int) ≤ 159) := by omega
    have d9 : IntKind.i32.wrap (m : Int) = m := by rw [IntKind.wrap]; simp [IntKind.bits, IntKind.signed]; omega
    clear h
    go_enter Tryd.func24, Tryd.ntmps24
    go_wp2
    go_ret
    exact ⟨rfl, rfl⟩
  · obtain ⟨m, rfl⟩ : ∃ m : Nat, n = (m : Int) := ⟨n.toNat, by omega⟩
    have hv : numberL (m : Int) = Lib.encodeRune (m : Int) := by
      unfold numberL cpN
      rw [if_neg (by omega), if_neg (by omega)]
    have he := encode_str m (by omega) (by omega)
    rw [hv, ← he]
    clear hv he ho
    have d0 : ¬ ((m : Int) ≤ 0) := by omega
    have d1 : ¬ (1114111 < (m : Int)) := by omega
    have d2 : 55296 ≤ (m : Int) := by omega
    have d3 : ¬ ((m : Int) ≤ 57343) := by omega
    have d4 : 128 ≤ (m : Int) := by omega
    have d5 : ¬ ((m : Int) ≤ 159) := by omega
    have d9 : IntKind.i32.wrap (m : Int) = m := by rw [IntKind.wrap]; simp [IntKind.bits, IntKind.signed]; omega
    clear h
    go_enter Tryd.func24, Tryd.ntmps24
    go_wp2
    go_ret
    exact ⟨rfl, rfl⟩
theorem number_any (n : Int) (hn : (Lit.int .i64 n).wf = true) (w : World) (ho : OldOk w) :
    Calls Tryd.prog 24 #[.int .i64 n] w fun e w' => e = .returned (.string ⟨(numberL n).toArray⟩) ∧ Below w.heap.size w w' :=
  (number_same n w ho).mono fun e w' ⟨h1, h2⟩ => ⟨h1, by rw [h2]; exact Below.refl _ _⟩
end Go.Proofs.YthoibenncjbkdaaDoor.S4
