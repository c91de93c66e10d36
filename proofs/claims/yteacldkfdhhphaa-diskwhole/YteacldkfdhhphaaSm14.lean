/- What the statements' own small, pick and bytes answer. -/
import Derived.Test.YteacldkfdhhphaaRw14
import Derived.Test.YteacldkfdhhphaaDj14
set_option linter.unusedVariables false
set_option linter.unusedSimpArgs false
set_option maxRecDepth 40000
namespace Go.Proofs.Yteacldkfdhhphaa
open Go.RowKit

abbrev acC (a : AV) : Array Value := #[.int .i64 a.kind, .int .i64 a.n, a.bv, .bool a.short, a.kv]
abbrev acA (a : AV) : Value := .agg (acC a)
/-- What an act writes. -/
def acB (a : AV) : Bs := if a.short then a.b else blockB a.b
def smallA (a : AV) : Bool := decide (a.b.length ≤ 300) && decide (a.keep.length ≤ 300)
set_option maxHeartbeats 1000000 in
theorem small_any (a : AV) (w : World) (hY : IsY w a.bv a.b) (hF : IsF w a.kv a.keep) :
    Calls Try.prog 12 #[acA a] w fun e w' => e = .returned (.bool (smallA a)) ∧ Below w.heap.size w w' := by
  have BB := hide (below_alloc w (.cells (acC a) 37))
  obtain ⟨kind, n, b, short, keep, bv, kv⟩ := a
  simp only [] at *
  obtain ⟨ba, bc, rfl⟩ := hY.form
  obtain ⟨ka, kc, rfl⟩ := hF.form
  unfold smallA
  simp only []
  clear hY hF
  generalize b.length = bl at *
  generalize keep.length = kl at *
  by_cases h1 : bl ≤ 300
  · have h1i : (bl : Int) ≤ 300 := by omega
    rw [decide_eq_true h1, Bool.true_and]
    by_cases h2 : kl ≤ 300
    · have h2i : (kl : Int) ≤ 300 := by omega
      rw [decide_eq_true h2]
      clear h1 h2
      go_enter Try.func12, Try.ntmps12
      go_wp2
      go_ret
      exact ⟨rfl, BB.out⟩
    · have h2i : ¬ (kl : Int) ≤ 300 := by omega
      rw [decide_eq_false h2]
      clear h1 h2
      go_enter Try.func12, Try.ntmps12
      go_wp2
      go_ret
      exact ⟨rfl, BB.out⟩
  · have h1i : ¬ (bl : Int) ≤ 300 := by omega
    rw [decide_eq_false h1, Bool.false_and]
    clear h1
    go_enter Try.func12, Try.ntmps12
    go_wp2
    go_ret
    exact ⟨rfl, BB.out⟩
theorem pick_bound (n : Int) (k : Int) (hk : 0 < k) : 0 ≤ (n.tmod k + k).tmod k ∧ (n.tmod k + k).tmod k < k := by
  have h1 : -k < n.tmod k ∧ n.tmod k < k := by
    rcases Int.le_total 0 n with h | h
    · have := Int.tmod_lt_of_pos n hk
      have := Int.tmod_nonneg k h
      omega
    · have := Int.tmod_lt_of_pos n hk
      have h3 := Int.tmod_nonneg k (show 0 ≤ -n by omega)
      have h4 := Int.tmod_lt_of_pos (-n) hk
      rw [Int.neg_tmod] at h3 h4
      omega
  exact ⟨Int.tmod_nonneg k (by omega), Int.tmod_lt_of_pos _ hk⟩
def pickN (n k : Int) : Int := (n.tmod k + k).tmod k
set_option maxHeartbeats 1000000 in
theorem pick_any (n k : Int) (hk : 0 < k) (hk2 : k ≤ 1000000) (w : World) :
    Calls Try.prog 9 #[.int .i64 n, .int .i64 k] w fun e w' => e = .returned (.int .i64 (pickN n k)) ∧ w' = w := by
  have hb : -1000000 ≤ n.tmod k ∧ n.tmod k ≤ 1000000 := by
    have h1 : -k < n.tmod k ∧ n.tmod k < k := by
      rcases Int.le_total 0 n with h | h
      · have := Int.tmod_lt_of_pos n hk
        have := Int.tmod_nonneg k h
        omega
      · have := Int.tmod_lt_of_pos n hk
        have h3 := Int.tmod_nonneg k (show 0 ≤ -n by omega)
        have h4 := Int.tmod_lt_of_pos (-n) hk
        rw [Int.neg_tmod] at h3 h4
        omega
    omega
  have hk0 : (k == 0) = false := by rw [beq_eq_false_iff_ne]; omega
  have hk1 : (k == -1) = false := by rw [beq_eq_false_iff_ne]; omega
  have hk00 : ¬ k = 0 := by omega
  have hk11 : ¬ k = -1 := by omega
  unfold pickN
  generalize hm : n.tmod k = m at *
  have hw : wrap64 (m + k) = m + k := by unfold wrap64; omega
  go_enter Try.func9, Try.ntmps9
  go_wp2
  go_ret
  exact ⟨by first | rfl | simp_all, rfl⟩
end Go.Proofs.Yteacldkfdhhphaa
