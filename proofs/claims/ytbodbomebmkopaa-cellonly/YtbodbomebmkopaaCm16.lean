/- How a cell lies there; what the document's May, Many and Sum answer. -/
import Derived.Test.YtbodbomebmkopaaCb16
import Derived.Test.YtbodbomebmkopaaCu15
set_option linter.unusedVariables false
set_option linter.unusedSimpArgs false
set_option maxRecDepth 4000
namespace Go.Proofs.Ytbodbomebmkopaa
open Go.RowKit

/-- A cell as it is handed on: its numbers, and where its bytes lie. -/
abbrev clC (c : CL) (dv : Value) : Array Value := #[.int .u64 (c.ep : Int), .int .u64 (c.li : Int), .int .i64 c.part, .int .i64 c.of, dv]
abbrev clA (c : CL) (dv : Value) : Value := .agg (clC c dv)
/-- A cell's numbers are such as the language's types hold, and its bytes lie there. -/
structure IsC (w : World) (c : CL) (dv : Value) : Prop where
  ep : c.ep < 18446744073709551616
  li : c.li < 18446744073709551616
  part : -9223372036854775808 ≤ c.part ∧ c.part ≤ 9223372036854775807
  of : -9223372036854775808 ≤ c.of ∧ c.of ≤ 9223372036854775807
  d : IsY w dv c.data
theorem IsC.below {w W : World} {c : CL} {dv : Value} (h : IsC w c dv) (hb : Below w.heap.size w W) : IsC W c dv := ⟨h.ep, h.li, h.part, h.of, h.d.below hb⟩
set_option maxHeartbeats 1000000 in
theorem rmany_any (n : Nat) (hn : n ≤ 1000000000) (w : World) : Calls Try.prog 31 #[.int .i64 (n : Int)] w fun e w' => e = .returned (.int .i64 (((n + 38) / 39 : Nat) : Int)) ∧ w' = w := by
  have h1 : ((n : Int) + 38).tdiv 39 = (((n + 38) / 39 : Nat) : Int) := by rw [Int.tdiv_eq_ediv_of_nonneg (by omega)]; omega
  go_enter Try.func31, Try.ntmps31
  go_wp2
  go_ret
  refine ⟨?_, rfl⟩
  show Ending.returned (Value.int IntKind.i64 (((n : Int) + 39 - 1) / 39)) = _
  rw [show ((n : Int) + 39 - 1) / 39 = (((n + 38) / 39 : Nat) : Int) by omega]
set_option maxHeartbeats 1000000 in
theorem rsum_any (bv : Value) (b : Bs) (w : World) (hY : IsY w bv b) (hl : b.length ≤ 1000000) : Calls Try.prog 26 #[bv] w fun e w' => e = .returned (.int .u32 ((sumB b).toNat : Int)) ∧ w' = w := by
  have HM := hide (rmore_any 0 (by decide) bv b w hY hl)
  obtain ⟨a, c, rfl⟩ := hY.form
  rw [moreD_is, show BitVec.ofNat 32 0 = 0#32 from rfl, show moreB 0#32 b = sumB b from rfl] at HM
  generalize (sumB b).toNat = R at *
  clear hY
  go_enter Try.func26, Try.ntmps26
  go_wp2_with fail
  refine HM.out.mono ?_
  rintro e w1 ⟨rfl, rfl⟩
  go_wp2
  go_ret
  exact ⟨rfl, rfl⟩
set_option maxHeartbeats 1000000 in
theorem rmay_any (c : CL) (dv : Value) (w : World) (hC : IsC w c dv) : Calls Try.prog 24 #[clA c dv] w fun e w' => e = .returned (.bool (decide (mayC c))) ∧ Below w.heap.size w w' := by
  have BB := hide (below_alloc w (.cells (clC c dv) 25))
  obtain ⟨a, k, rfl⟩ := hC.d.form
  have hM : decide (mayC c) = (decide (0 ≤ c.part) && (decide (c.part < c.of) && (decide (c.of ≤ 65535) && decide (((c.data.length : Nat) : Int) ≤ 39)))) := by
    rw [← Bool.decide_and, ← Bool.decide_and, ← Bool.decide_and]
    apply decide_eq_decide.2
    unfold mayC
    omega
  rw [hM]
  clear hM hC
  obtain ⟨ep, li, part, of, data⟩ := c
  simp only [] at *
  generalize data.length = m at *
  by_cases h1 : 0 ≤ part
  · rw [decide_eq_true h1, Bool.true_and]
    by_cases h2 : part < of
    · rw [decide_eq_true h2, Bool.true_and]
      by_cases h3 : of ≤ 65535
      · rw [decide_eq_true h3, Bool.true_and]
        by_cases h4 : (m : Int) ≤ 39
        · rw [decide_eq_true h4]
          go_enter Try.func24, Try.ntmps24
          go_wp2
          go_ret
          exact ⟨rfl, BB.out⟩
        · rw [decide_eq_false h4]
          go_enter Try.func24, Try.ntmps24
          go_wp2
          go_ret
          exact ⟨rfl, BB.out⟩
      · rw [decide_eq_false h3, Bool.false_and]
        go_enter Try.func24, Try.ntmps24
        go_wp2
        go_ret
        exact ⟨rfl, BB.out⟩
    · rw [decide_eq_false h2, Bool.false_and]
      go_enter Try.func24, Try.ntmps24
      go_wp2
      go_ret
      exact ⟨rfl, BB.out⟩
  · rw [decide_eq_false h1, Bool.false_and]
    go_enter Try.func24, Try.ntmps24
    go_wp2
    go_ret
    exact ⟨rfl, BB.out⟩
end Go.Proofs.Ytbodbomebmkopaa
