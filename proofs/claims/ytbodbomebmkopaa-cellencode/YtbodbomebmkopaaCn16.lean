/- What the document's Number answers. -/
import Derived.Test.YtbodbomebmkopaaCe16
set_option linter.unusedVariables false
set_option linter.unusedSimpArgs false
set_option maxRecDepth 4000
namespace Go.Proofs.Ytbodbomebmkopaa
open Go.RowKit

theorem num_next (l : Bs) (i : Nat) (h : i < l.length) : numB (l.take (i + 1)) = numB (l.take i) * 256 + l[i].toNat := by
  rw [List.take_succ_eq_append_getElem h]
  unfold numB numF
  rw [List.foldl_append]
  rfl
theorem num_some (l : Bs) (i : Nat) (h : i ≤ l.length) (h8 : l.length ≤ 8) : numB (l.take i) < 256 ^ 8 := by
  refine Nat.lt_of_lt_of_le (num_lt _) (Nat.pow_le_pow_right (by decide) ?_)
  rw [List.length_take]
  omega
set_option maxHeartbeats 4000000 in
theorem rnumber_any (bv : Value) (b : Bs) (w : World) (hY : IsY w bv b) (hl : b.length ≤ 8) : Calls Try.prog 30 #[bv] w fun e w' => e = .returned (.int .u64 (numB b : Int)) ∧ w' = w := by
  obtain ⟨ba, bc, rfl⟩ := hY.form
  have HY := hide hY
  have HS := hide (fun i hi => num_some b i hi hl)
  clear hY
  go_enter Try.func30, Try.ntmps30
  go_wp2
  go_loop [3, 4] (fun nv iv => ∃ (i : Nat), iv = .int .i64 (i : Int) ∧ i ≤ b.length ∧ nv = .int .u64 (numB (b.take i) : Int)) (fun _ iv => b.length - (intOf iv).toNat)
  case atStart => exact ⟨0, rfl, Nat.zero_le _, rfl⟩
  case round =>
    obtain ⟨i, rfl, hi, rfl⟩ := hrel
    by_cases hlt : i < b.length
    · have hlt2 : (i : Int) < b.length := by omega
      have hs1 := HS.out (i + 1) (by omega)
      have hn := num_next b i hlt
      rcases HY.out with ⟨h0, _⟩ | ⟨bb, bo, cap, e, hc1, hc2⟩
      · rw [h0] at hlt; simp at hlt
      injection e with e _ e3
      subst e e3
      have hcell := hc2 i hlt
      have hc0 : b[i].toNat < 256 := b[i].toNat_lt
      rw [hn] at hs1
      clear hc1 hc2
      generalize b[i].toNat = c0 at *
      have HN := hide hn
      clear hn
      generalize numB (b.take i) = N0 at *
      have hs2 : N0 * 256 + c0 < 18446744073709551616 := hs1
      clear hs1
      go_wp2
      go_round
      case rel => exact ⟨i + 1, by go_num, by omega, by rw [HN.out]; go_num⟩
      case measure => simp [intOf]; omega
    · have hlt2 : ¬ (i : Int) < b.length := by omega
      have he : i = b.length := by omega
      subst he
      rw [List.take_length]
      go_wp2
      go_ret
      exact ⟨rfl, rfl⟩
end Go.Proofs.Ytbodbomebmkopaa
