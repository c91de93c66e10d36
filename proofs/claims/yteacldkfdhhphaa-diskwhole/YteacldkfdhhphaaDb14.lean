/- What the document's spend and Arm answer. -/
import Derived.Test.YteacldkfdhhphaaDa14
set_option linter.unusedVariables false
set_option linter.unusedSimpArgs false
set_option maxRecDepth 4000
namespace Go.Proofs.Yteacldkfdhhphaa
open Go.RowKit

theorem spend_lists (d : DM) : (spendD d).1.safe = d.safe ∧ (spendD d).1.l = d.l := by
  unfold spendD
  split
  · exact ⟨rfl, rfl⟩
  · simp only []
    split <;> exact ⟨rfl, rfl⟩
theorem arm_lists (d : DM) (k : Int) : (armD d k).safe = d.safe ∧ (armD d k).l = d.l := by
  unfold armD
  split <;> exact ⟨rfl, rfl⟩
theorem below_two (w : World) (o1 o2 : Obj) : Below w.heap.size w ((w.alloc o1).alloc o2) := (below_alloc w o1).trans ((below_alloc (w.alloc o1) o2).mono (below_alloc w o1).size)
set_option maxHeartbeats 2000000 in
theorem rspend_any (d : DV) (w : World) (hI : IsD w d) (hl : -9223372036854775808 < d.m.left ∧ d.m.left ≤ 9223372036854775807) :
    Calls Try.prog 39 #[dkA d] w fun e w' => e = .returned (.tuple #[dkA { d with m := (spendD d.m).1 }, .bool (spendD d.m).2]) ∧ Below w.heap.size w w' := by
  have BB := hide (below_two w)
  obtain ⟨⟨safe, l, left, fuse, off⟩, sv, lv⟩ := d
  have gs : IsW w sv safe := hI.s
  have gl : IsP w lv l := hI.l
  obtain ⟨sa, sc, rfl⟩ := gs.form
  obtain ⟨la, lc, rfl⟩ := gl.form
  simp only [] at *
  generalize safe.length = k1 at *
  generalize l.length = k2 at *
  clear gs gl hI
  obtain ⟨hl1, hl2⟩ := hl
  cases off
  · cases fuse
    · show Calls Try.prog _ _ w fun e w' => e = .returned (.tuple #[.agg #[.slice sa k1 sc, .slice la k2 lc, .int .i64 left, .bool false, .bool false], .bool true]) ∧ _
      go_enter Try.func39, Try.ntmps39
      go_wp2
      refine bodyPost_ret (v := .tuple #[.agg #[.slice sa k1 sc, .slice la k2 lc, .int .i64 left, .bool false, .bool false], .bool true]) ?_ rfl ⟨rfl, BB.out _ _⟩
      simp [results, Try.results39, go_sem]
    · by_cases h0 : left = 0
      · subst h0
        show Calls Try.prog _ _ w fun e w' => e = .returned (.tuple #[.agg #[.slice sa k1 sc, .slice la k2 lc, .int .i64 0, .bool false, .bool true], .bool false]) ∧ _
        go_enter Try.func39, Try.ntmps39
        go_wp2
        refine bodyPost_ret (v := .tuple #[.agg #[.slice sa k1 sc, .slice la k2 lc, .int .i64 0, .bool false, .bool true], .bool false]) ?_ rfl ⟨rfl, BB.out _ _⟩
        simp [results, Try.results39, go_sem]
      · have h0b : (left == 0) = false := by simp [h0]
        have hs : spendD ⟨safe, l, left, true, false⟩ = (⟨safe, l, left - 1, true, false⟩, true) := by simp [spendD, h0]
        rw [hs]
        show Calls Try.prog _ _ w fun e w' => e = .returned (.tuple #[.agg #[.slice sa k1 sc, .slice la k2 lc, .int .i64 (left - 1), .bool true, .bool false], .bool true]) ∧ _
        clear hs h0
        go_enter Try.func39, Try.ntmps39
        go_wp2
        refine bodyPost_ret (v := .tuple #[.agg #[.slice sa k1 sc, .slice la k2 lc, .int .i64 (left - 1), .bool true, .bool false], .bool true]) ?_ rfl ⟨rfl, BB.out _ _⟩
        simp [results, Try.results39, go_sem]
  · show Calls Try.prog _ _ w fun e w' => e = .returned (.tuple #[.agg #[.slice sa k1 sc, .slice la k2 lc, .int .i64 left, .bool false, .bool true], .bool false]) ∧ _
    go_enter Try.func39, Try.ntmps39
    go_wp2
    refine bodyPost_ret (v := .tuple #[.agg #[.slice sa k1 sc, .slice la k2 lc, .int .i64 left, .bool false, .bool true], .bool false]) ?_ rfl ⟨rfl, BB.out _ _⟩
    simp [results, Try.results39, go_sem]
set_option maxHeartbeats 2000000 in
theorem rarm_any (d : DV) (k : Int) (w : World) (hI : IsD w d) :
    Calls Try.prog 31 #[dkA d, .int .i64 k] w fun e w' => e = .returned (dkA { d with m := armD d.m k }) ∧ Below w.heap.size w w' := by
  have BB := hide (below_two w)
  obtain ⟨⟨safe, l, left, fuse, off⟩, sv, lv⟩ := d
  have gs : IsW w sv safe := hI.s
  have gl : IsP w lv l := hI.l
  obtain ⟨sa, sc, rfl⟩ := gs.form
  obtain ⟨la, lc, rfl⟩ := gl.form
  simp only [] at *
  generalize safe.length = k1 at *
  generalize l.length = k2 at *
  clear gs gl hI
  cases off
  · by_cases h0 : k < 0
    · have hs : armD ⟨safe, l, left, fuse, false⟩ k = ⟨safe, l, 0, true, false⟩ := by simp [armD, h0]
      rw [hs]
      clear hs
      go_enter Try.func31, Try.ntmps31
      go_wp2
      refine bodyPost_ret (v := .agg #[.slice sa k1 sc, .slice la k2 lc, .int .i64 0, .bool true, .bool false]) ?_ rfl ⟨rfl, BB.out _ _⟩
      simp [results, Try.results31, go_sem]
    · have hs : armD ⟨safe, l, left, fuse, false⟩ k = ⟨safe, l, k, true, false⟩ := by simp [armD, h0]
      rw [hs]
      clear hs
      go_enter Try.func31, Try.ntmps31
      go_wp2
      refine bodyPost_ret (v := .agg #[.slice sa k1 sc, .slice la k2 lc, .int .i64 k, .bool true, .bool false]) ?_ rfl ⟨rfl, BB.out _ _⟩
      simp [results, Try.results31, go_sem]
  · have hs : armD ⟨safe, l, left, fuse, true⟩ k = ⟨safe, l, left, fuse, true⟩ := by simp [armD]
    rw [hs]
    clear hs
    go_enter Try.func31, Try.ntmps31
    go_wp2
    refine bodyPost_ret (v := .agg #[.slice sa k1 sc, .slice la k2 lc, .int .i64 left, .bool fuse, .bool true]) ?_ rfl ⟨rfl, BB.out _ _⟩
    simp [results, Try.results31, go_sem]
end Go.Proofs.Yteacldkfdhhphaa
