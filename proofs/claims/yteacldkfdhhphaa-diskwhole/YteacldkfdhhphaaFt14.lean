/- What is done to a disk keeps it not too great. No program in it. -/
import Derived.Test.YteacldkfdhhphaaBk14
set_option linter.unusedVariables false
set_option linter.unusedSimpArgs false
namespace Go.Proofs.Yteacldkfdhhphaa

theorem spend_left {d : DM} (h : 0 ≤ d.left ∧ d.left ≤ 9223372036854775807) : 0 ≤ (spendD d).1.left ∧ (spendD d).1.left ≤ 9223372036854775807 := by
  unfold spendD
  split
  · exact h
  · rename_i hc
    simp only []
    split
    · rename_i hf
      simp only [hf, Bool.true_and, Bool.or_eq_true, decide_eq_true_eq, not_or] at hc
      show 0 ≤ d.left - 1 ∧ d.left - 1 ≤ _
      omega
    · exact h
theorem Fit.new {n : Nat} (h : n ≤ 4096) : Fit (newD n) := ⟨ok_new n, by show (List.replicate (n * 4) noughtB).length ≤ _; rw [List.length_replicate]; omega, by show 0 ≤ 100000; omega, by show (0 : Int) ≤ 0 ∧ (0 : Int) ≤ _; omega⟩
theorem write_size (d : DM) (n : Int) (b : Bs) : (writeD d n b).1.safe = d.safe ∧ (writeD d n b).1.l.length ≤ d.l.length + 4 := by
  obtain ⟨e1, e2⟩ := sp_lists d
  unfold writeD
  split
  · split
    · refine ⟨e1, ?_⟩
      show ((spendD d).1.l ++ piecesL n.toNat b).length ≤ _
      rw [List.length_append, pieces_len, e2]
      omega
    · exact ⟨e1, by rw [e2]; omega⟩
  · exact ⟨rfl, Nat.le_add_right _ _⟩
theorem Fit.write {d : DM} (h : Fit d) (hl : d.l.length + 4 ≤ 100000) (n : Int) (b : Bs) : Fit (writeD d n b).1 := by
  obtain ⟨e1, e2⟩ := write_size d n b
  refine ⟨ok_write h.ok n b, by rw [e1]; exact h.s, by omega, ?_⟩
  unfold writeD
  have := spend_left h.left
  split
  · split
    · exact this
    · exact this
  · exact h.left
theorem flush_size (d : DM) : (flushD d).1.safe.length = d.safe.length ∧ (flushD d).1.l.length ≤ d.l.length := by
  obtain ⟨e1, e2⟩ := sp_lists d
  unfold flushD
  split
  · refine ⟨?_, Nat.zero_le _⟩
    show (nowL (spendD d).1.safe (spendD d).1.l).length = _
    rw [nowL_len, e1]
  · exact ⟨by rw [e1], by rw [e2]; omega⟩
theorem Fit.flush {d : DM} (h : Fit d) : Fit (flushD d).1 := by
  obtain ⟨e1, e2⟩ := flush_size d
  refine ⟨ok_flush h.ok, by rw [e1]; exact h.s, Nat.le_trans e2 h.l, ?_⟩
  unfold flushD
  have := spend_left h.left
  split
  · exact this
  · exact this
theorem Fit.arm {d : DM} (h : Fit d) (k : Int) (hk : k ≤ 9223372036854775807) : Fit (armD d k) := by
  have h0 := ok_arm h.ok k
  unfold armD at *
  split
  · exact h
  · rename_i hc
    rw [if_neg hc] at h0
    refine ⟨h0, h.s, h.l, ?_⟩
    show 0 ≤ (if k < 0 then 0 else k) ∧ (if k < 0 then 0 else k) ≤ _
    split <;> omega
theorem arm_size (d : DM) (k : Int) : (armD d k).safe = d.safe ∧ (armD d k).l = d.l := by
  unfold armD
  split <;> exact ⟨rfl, rfl⟩
theorem Fit.crash {d : DM} (h : Fit d) (k : List Bool) : Fit (crashD d k) := ⟨ok_crash h.ok k, by show (crashL d.safe d.l k).length ≤ _; rw [crashL_len]; exact h.s, Nat.zero_le _, by show (0 : Int) ≤ 0 ∧ (0 : Int) ≤ _; omega⟩
theorem crash_size (d : DM) (k : List Bool) : (crashD d k).safe.length = d.safe.length ∧ (crashD d k).l = [] := ⟨crashL_len _ _ _, rfl⟩
theorem model_size (d : DM) (a : AV) : (modelD d a).1.safe.length = d.safe.length ∧ (modelD d a).1.l.length ≤ d.l.length + 4 := by
  unfold modelD
  split
  · obtain ⟨e1, e2⟩ := write_size d a.n (acB a)
    exact ⟨by rw [e1], e2⟩
  · split
    · obtain ⟨e1, e2⟩ := flush_size d
      exact ⟨e1, by omega⟩
    · split
      · obtain ⟨e1, e2⟩ := arm_size d a.n
        exact ⟨by show (armD d a.n).safe.length = _; rw [e1], by show (armD d a.n).l.length ≤ _; rw [e2]; omega⟩
      · split
        · obtain ⟨e1, e2⟩ := crash_size d a.keep
          exact ⟨e1, by show (crashD d a.keep).l.length ≤ _; rw [e2]; exact Nat.zero_le _⟩
        · split
          · exact ⟨rfl, Nat.le_add_right _ _⟩
          · exact ⟨rfl, Nat.le_add_right _ _⟩
theorem Fit.model {d : DM} (h : Fit d) (hl : d.l.length + 4 ≤ 100000) (a : AV) (hn : a.n ≤ 9223372036854775807) : Fit (modelD d a).1 := by
  unfold modelD
  split
  · exact h.write hl _ _
  · split
    · exact h.flush
    · split
      · exact h.arm _ hn
      · split
        · exact h.crash _
        · split
          · exact h
          · exact h
/- The live question. -/
def liv0 : DM := newD 1
def liv1 : DM := (writeD liv0 0 (blockB [1])).1
def liv2 : DM := (flushD liv1).1
def liv3 : DM := (writeD liv2 0 (blockB [2])).1
def liv4 : DM := crashD liv3 [false, true]
theorem liv2_l : liv2.l.length = 0 := by kernel_rfl
theorem liv_fit : Fit liv0 ∧ Fit liv1 ∧ Fit liv2 ∧ Fit liv3 ∧ Fit liv4 := by
  have h0 : Fit liv0 := Fit.new (by decide)
  have h1 : Fit liv1 := h0.write (by decide) _ _
  have h2 : Fit liv2 := h1.flush
  have h3 : Fit liv3 := h2.write (by rw [liv2_l]; decide) _ _
  exact ⟨h0, h1, h2, h3, h3.crash _⟩
theorem liv_told : (writeD liv0 0 (blockB [1])).2 = 0 ∧ (flushD liv1).2 = 0 ∧ (writeD liv2 0 (blockB [2])).2 = 0 := ⟨by kernel_rfl, by kernel_rfl, by kernel_rfl⟩
theorem liv_read : (readD liv4 0).2 = 0 ∧ (readD liv4 0).1.length = 256 ∧ (readD liv4 0).1[0]? = some 1 ∧ (readD liv4 0).1[64]? = some 2 ∧ (readD liv4 0).1[128]? = some 1 := ⟨by kernel_rfl, by kernel_rfl, by kernel_rfl, by kernel_rfl, by kernel_rfl⟩
theorem liv_end : liv4.l.length = 0 ∧ liv4.safe.length / 4 = 1 := ⟨by kernel_rfl, by kernel_rfl⟩
end Go.Proofs.Yteacldkfdhhphaa
