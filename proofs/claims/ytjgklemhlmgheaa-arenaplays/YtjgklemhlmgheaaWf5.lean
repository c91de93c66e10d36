/- What stays true of arenas whatever is done to them. No program in it. -/
import Derived.Test.YtjgklemhlmgheaaPJ5
set_option linter.unusedVariables false
set_option linter.unusedSimpArgs false
namespace Go.Proofs.Ytjgklemhlmgheaa
open Go.RowKit

theorem inT_nat {T : TR} {z : Int} (h : inT T z) : z.toNat < T.length ∧ z = (z.toNat : Int) := by unfold inT at h; omega
theorem makeL_wf {T : TR} (h : WF T) (d : ND) : WF (makeL T d).1 := by
  unfold makeL
  split
  · exact h.push d
  · exact h
theorem copyL_wf {T : TR} (h : WF T) (z : Int) : WF (copyL T z).1 := by
  unfold copyL
  split
  · exact makeL_wf h _
  · exact h
theorem removeZ_wf {T : TR} (h : WF T) (z : Int) : WF (removeZ T z).1 := by
  unfold removeZ
  split
  · split
    · exact h.out _
    · exact h
  · exact h
theorem addZ_wf {T : TR} (h : WF T) (z : Int) (s : List UInt8) : WF (addZ T z s).1 := by
  unfold addZ
  split
  · split
    · exact h.add _ _
    · exact h
  · exact h
theorem appendZ_wf {T : TR} (h : WF T) (zp zc : Int) : WF (appendZ T zp zc).1 := by
  unfold appendZ
  split
  · rename_i hh
    obtain ⟨h1, h2⟩ := inT_nat hh.1
    obtain ⟨h3, h4⟩ := inT_nat hh.2
    split
    · rename_i hb
      simp only [Bool.and_eq_true, Bool.not_eq_true', beq_eq_false_iff_ne] at hb
      obtain ⟨_, hc, hw⟩ := hb
      exact h.append h1 h3 (by omega) (fun hu => by rw [(within_iff h h1).2 hu] at hw; cases hw)
    · exact h
  · exact h
theorem beforeZ_wf {T : TR} (h : WF T) (zr zc : Int) : WF (beforeZ T zr zc).1 := by
  unfold beforeZ
  split
  · rename_i hh
    obtain ⟨h1, h2⟩ := inT_nat hh.1
    obtain ⟨h3, h4⟩ := inT_nat hh.2
    cases hp : parentN T zr.toNat with
    | none => exact h
    | some p =>
      show WF (if _ then _ else _ : TR × Int).1
      split
      · rename_i hb
        simp only [Bool.and_eq_true, Bool.not_eq_true', beq_eq_false_iff_ne] at hb
        obtain ⟨hc, hw⟩ := hb
        exact h.before (parent_some hp) h3 (by omega) (fun hu => by rw [(within_iff h h1).2 hu] at hw; cases hw)
      · exact h
  · exact h
theorem moveZ_wf {T : TR} (h : WF T) (za zb : Int) : WF (moveZ T za zb).1 := by
  unfold moveZ
  split
  · rename_i hh
    obtain ⟨h1, h2⟩ := inT_nat hh.1
    obtain ⟨h3, h4⟩ := inT_nat hh.2
    split
    · rename_i hb
      simp only [Bool.and_eq_true, Bool.not_eq_true'] at hb
      obtain ⟨_, hw⟩ := hb
      exact h.move h1 h3 (fun hu => by rw [(within_iff h h3).2 hu] at hw; cases hw)
    · exact h
  · exact h
theorem makeL_len (T : TR) (d : ND) : T.length ≤ (makeL T d).1.length ∧ (makeL T d).1.length ≤ T.length + 1 ∧ (T.length ≤ 2000 → (makeL T d).1.length ≤ 2000) := by
  unfold makeL
  split
  · simp [pushL]
    omega
  · exact ⟨Nat.le_refl _, Nat.le_succ _, fun h => h⟩
theorem copyL_len (T : TR) (z : Int) : T.length ≤ (copyL T z).1.length ∧ (copyL T z).1.length ≤ T.length + 1 ∧ (T.length ≤ 2000 → (copyL T z).1.length ≤ 2000) := by
  unfold copyL
  split
  · exact makeL_len _ _
  · exact ⟨Nat.le_refl _, Nat.le_succ _, fun h => h⟩
theorem removeZ_len (T : TR) (z : Int) : (removeZ T z).1.length = T.length := by
  unfold removeZ
  split
  · split
    · exact out_len _ _
    · rfl
  · rfl
theorem addZ_len (T : TR) (z : Int) (s : List UInt8) : (addZ T z s).1.length = T.length := by
  unfold addZ
  split
  · split
    · simp [addL]
    · rfl
  · rfl
theorem appendZ_len (T : TR) (a b : Int) : (appendZ T a b).1.length = T.length := by
  unfold appendZ
  split
  · split
    · exact append_len _ _ _
    · rfl
  · rfl
theorem beforeZ_len (T : TR) (a b : Int) : (beforeZ T a b).1.length = T.length := by
  unfold beforeZ
  split
  · cases parentN T a.toNat with
    | none => rfl
    | some p =>
      show (if _ then _ else _ : TR × Int).1.length = _
      split
      · exact before_len _ _ _ _
      · rfl
  · rfl
theorem moveZ_len (T : TR) (a b : Int) : (moveZ T a b).1.length = T.length := by
  unfold moveZ
  split
  · split
    · exact move_len _ _ _
    · rfl
  · rfl

/-! The arena in blocks from n0 on. -/
theorem PT.tight {A : Nat → Prop} {w : World} {pb : Nat} {T : TR} (h : PT A w pb T) : PT (fun k => A k ∧ k < w.heap.size) w pb T := by
  obtain ⟨g, cap, rs, hR, hP⟩ := h
  exact ⟨g, cap, rs, hR, { hP with inA := fun s k e => ⟨hP.inA s k e, hP.lt s k e⟩ }⟩
def fromN (n0 : Nat) (w : World) : Nat → Prop := fun k => n0 ≤ k ∧ k < w.heap.size
def Own (n0 : Nat) (w : World) (pb : Nat) (T : TR) : Prop := PT (fromN n0 w) w pb T
theorem own_lt' {n0 : Nat} {w : World} : ∀ k, fromN n0 w k → k < w.heap.size := fun k h => h.2
theorem Own.below {n0 : Nat} {w W : World} {pb : Nat} {T : TR} (h : Own n0 w pb T) (hb : Below w.heap.size w W) : Own n0 W pb T := (PT.below h hb).mono fun k hk => ⟨hk.1, Nat.lt_of_lt_of_le hk.2 hb.size⟩
theorem own_acted {n0 : Nat} {w w' : World} {pb : Nat} {r : TR} (hn : n0 ≤ w.heap.size) (h : PT (andNew (fromN n0 w) w.heap.size) w' pb r) (hb : ButA (fromN n0 w) w w') : Own n0 w' pb r ∧ Below n0 w w' := by
  refine ⟨(PT.tight h).mono ?_, hb.below (fun k h => h.1) hn⟩
  rintro k ⟨h1 | h1, h2⟩
  · exact ⟨h1.1, h2⟩
  · exact ⟨by omega, h2⟩
end Go.Proofs.Ytjgklemhlmgheaa
