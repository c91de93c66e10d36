/- What the program's mayBe, number, bytes.Clone and bytes.Equal answer. -/
import Derived.Test.YtbodbomebmkopaaCo16
set_option linter.unusedVariables false
set_option linter.unusedSimpArgs false
set_option maxRecDepth 40000
namespace Go.Proofs.Ytbodbomebmkopaa
open Go.RowKit

set_option maxHeartbeats 1000000 in
theorem pmay_any (c : CL) (dv : Value) (w : World) (hC : IsC w c dv) : Calls Try.prog 21 #[clA c dv] w fun e w' => e = .returned (.bool (decide (mayC c))) ∧ Below w.heap.size w w' := by
  have BB := hide (below_alloc w (.cells (clC c dv) 25))
  obtain ⟨a, k, rfl⟩ := hC.d.form
  have hM : decide (mayC c) = (decide (0 ≤ c.part) && (decide (c.part < c.of) && (decide (c.of ≤ 65535) && decide (((c.data.length : Nat) : Int) ≤ 39)))) := by
    rw [← Bool.decide_and, ← Bool.decide_and, ← Bool.decide_and]
    apply decide_eq_decide.2
    unfold mayC
    omega
  rw [hM]
  clear hM hC
  obtain ⟨ep, li, part, of, data⟩ := c
  simp only [] at *
  generalize data.length = m at *
  by_cases h1 : 0 ≤ part
  · rw [decide_eq_true h1, Bool.true_and]
    by_cases h2 : part < of
    · rw [decide_eq_true h2, Bool.true_and]
      by_cases h3 : of ≤ 65535
      · rw [decide_eq_true h3, Bool.true_and]
        by_cases h4 : (m : Int) ≤ 39
        · rw [decide_eq_true h4]
          go_enter Try.func21, Try.ntmps21
          go_wp2
          go_ret
          exact ⟨rfl, BB.out⟩
        · rw [decide_eq_false h4]
          go_enter Try.func21, Try.ntmps21
          go_wp2
          go_ret
          exact ⟨rfl, BB.out⟩
      · rw [decide_eq_false h3, Bool.false_and]
        go_enter Try.func21, Try.ntmps21
        go_wp2
        go_ret
        exact ⟨rfl, BB.out⟩
    · rw [decide_eq_false h2, Bool.false_and]
      go_enter Try.func21, Try.ntmps21
      go_wp2
      go_ret
      exact ⟨rfl, BB.out⟩
  · rw [decide_eq_false h1, Bool.false_and]
    go_enter Try.func21, Try.ntmps21
    go_wp2
    go_ret
    exact ⟨rfl, BB.out⟩
/-- A byte behind a number that was moved up by eight bits. -/
theorem or_byte (n : Nat) (c : UInt8) (h : n * 256 + c.toNat < 18446744073709551616) : bits BinOp.or IntKind.u64 ((n * 256 : Nat) : Int) (c.toNat : Int) = ((n * 256 + c.toNat : Nat) : Int) := by
  have hc := c.toNat_lt
  have h1 : BitVec.ofInt 64 ((n * 256 : Nat) : Int) = BitVec.ofNat 64 (n * 256) := by rw [BitVec.ofInt_natCast]
  have h2 : BitVec.ofInt 64 (c.toNat : Int) = BitVec.ofNat 64 c.toNat := by rw [BitVec.ofInt_natCast]
  show IntKind.u64.wrap ((BitVec.ofInt 64 ((n * 256 : Nat) : Int) ||| BitVec.ofInt 64 (c.toNat : Int)).toNat : Int) = _
  rw [h1, h2, BitVec.toNat_or, BitVec.toNat_ofNat, BitVec.toNat_ofNat, Nat.mod_eq_of_lt (show n * 256 < 2 ^ 64 by omega), Nat.mod_eq_of_lt (show c.toNat < 2 ^ 64 by omega)]
  have h3 : n * 256 ||| c.toNat = n * 256 + c.toNat := by
    have h4 := Nat.shiftLeft_add_eq_or_of_lt (show c.toNat < 2 ^ 8 by omega) n
    rw [Nat.shiftLeft_eq] at h4
    exact h4.symm
  rw [h3]
  simp only [IntKind.wrap]
  rw [show IntKind.u64.signed = false from rfl, Bool.false_and, if_neg (by simp)]
  show ((n * 256 + c.toNat : Nat) : Int) % 18446744073709551616 = _
  omega
set_option maxHeartbeats 4000000 in
theorem pnumber_any (bv : Value) (b : Bs) (w : World) (hY : IsY w bv b) (hl : b.length ≤ 8) : Calls Try.prog 27 #[bv] w fun e w' => e = .returned (.int .u64 (numB b : Int)) ∧ w' = w := by
  obtain ⟨ba, bc, rfl⟩ := hY.form
  have HY := hide hY
  have HS := hide (fun i hi => num_some b i hi hl)
  clear hY
  go_enter Try.func27, Try.ntmps27
  go_wp2
  go_loop [3, 8] (fun nv iv => ∃ (i : Nat), iv = .int .i64 (i : Int) ∧ i ≤ b.length ∧ nv = .int .u64 (numB (b.take i) : Int)) (fun _ iv => b.length - (intOf iv).toNat)
  case atStart => exact ⟨0, rfl, Nat.zero_le _, rfl⟩
  case round =>
    obtain ⟨i, rfl, hi, rfl⟩ := hrel
    by_cases hlt : i < b.length
    · have hlt2 : (i : Int) < b.length := by omega
      have hs1 := HS.out (i + 1) (by omega)
      have hn := num_next b i hlt
      rcases HY.out with ⟨h0, _⟩ | ⟨bb, bo, cap, e, hc1, hc2⟩
      · rw [h0] at hlt; simp at hlt
      injection e with e _ e3
      subst e e3
      have hcell := hc2 i hlt
      have hc0 : b[i].toNat < 256 := b[i].toNat_lt
      rw [hn] at hs1
      have hor := or_byte (numB (b.take i)) b[i] hs1
      clear hc1 hc2
      generalize b[i].toNat = c0 at *
      have HN := hide hn
      have HOR := hide hor
      clear hn hor
      generalize numB (b.take i) = N0 at *
      have hs2 : N0 * 256 + c0 < 18446744073709551616 := hs1
      clear hs1
      go_wp2
      go_round
      case rel => exact ⟨i + 1, by go_num, by omega, by rw [HN.out]; first | (rw [← HOR.out]; go_num) | (rw [← HOR.out]; rfl) | trace_state⟩
      case measure => simp [intOf]; omega
    · have hlt2 : ¬ (i : Int) < b.length := by omega
      have he : i = b.length := by omega
      subst he
      rw [List.take_length]
      go_wp2
      go_ret
      exact ⟨rfl, rfl⟩
/-- A row of bytes lies in a block from B on, or nowhere. -/
def NewV (w w' : World) (v : Value) : Prop := ∀ k, v.ownBlock = some k → w.heap.size ≤ k ∧ k < w'.heap.size
def CloneR (w : World) (b : Bs) (e : Ending) (w' : World) : Prop := ∃ a c, e = .returned (.slice a b.length c) ∧ IsY w' (.slice a b.length c) b ∧ NewV w w' (.slice a b.length c) ∧ Below w.heap.size w w'
set_option maxHeartbeats 4000000 in
theorem pclone_any (bv : Value) (b : Bs) (w : World) (hY : IsY w bv b) (hl : b.length ≤ 1000000) : Calls Try.prog 28 #[bv] w (CloneR w b) := by
  obtain ⟨ba, bc, rfl⟩ := hY.form
  cases ba with
  | none =>
    rcases hY with ⟨rfl, _⟩ | ⟨bb, bo, cap, e, _⟩
    · have hnv : NewV w w (.slice none 0 0) := fun k hk => by cases hk
      have HF : Hid (CloneR w [] (Ending.returned (.slice none 0 0)) w) := hide ⟨none, 0, rfl, .inl ⟨rfl, _, _, rfl⟩, hnv, Below.refl _ _⟩
      have hq : ∀ W, (binOp BinOp.eql 23 (.slice none 0 bc) (.slice none 0 0)).run Try.prog W = .ok (.bool true) W := fun W => Lib.run_eql_slice_nil W 23 5 none 0 bc 0 0 Try.underlying23
      go_enter Try.func28, Try.ntmps28
      go_wp2
      go_ret
      exact HF.out
    · cases e
  | some ad =>
    obtain ⟨a, c, w1, hr, ho, hb⟩ := copyC w _ b hY hl
    have HF : Hid (CloneR w b (Ending.returned (.slice a b.length c)) w1) := hide ⟨a, c, rfl, owns_isY ho, fun k hk => ho.lt k hk, hb⟩
    have HRUN := hide hr
    clear hr ho hb hY hl
    generalize b.length = m at *
    have hq : ∀ W, (binOp BinOp.eql 23 (.slice (some ad) m bc) (.slice none 0 0)).run Try.prog W = .ok (.bool false) W := fun W => Lib.run_eql_slice_nil W 23 5 (some ad) m bc 0 0 Try.underlying23
    go_enter Try.func28, Try.ntmps28
    go_wp2_with (at_builtin; refine wpList_append_run rfl _ _ 23 rfl _ _ _ _ rfl rfl HRUN.out ?_)
    go_ret
    exact HF.out
set_option maxHeartbeats 4000000 in
theorem pequal_any (av bv : Value) (a b : Bs) (w : World) (hA : IsY w av a) (hB : IsY w bv b) : Calls Try.prog 29 #[av, bv] w fun e w' => e = .returned (.bool (decide (a = b))) ∧ w' = w := by
  have h1 := conv_isYC hA
  have h2 := conv_isYC hB
  have HE : Hid ((a == b) = decide (a = b)) := hide (by by_cases h : a = b <;> simp [h])
  obtain ⟨aa, ac, rfl⟩ := hA.form
  obtain ⟨ba, bc, rfl⟩ := hB.form
  generalize a.length = n at *
  generalize b.length = m at *
  clear hA hB
  generalize hV : decide (a = b) = V at *
  clear hV
  go_enter Try.func29, Try.ntmps29
  go_wp2
  go_ret
  exact ⟨by rw [← HE.out]; rfl, rfl⟩
end Go.Proofs.Ytbodbomebmkopaa
