/- Spaces, plainly: which numbers are taken, as a list. No program in it. -/
import Derived.Test.YtkopfigagnagoaaBa15
set_option linter.unusedVariables false
set_option linter.unusedSimpArgs false
namespace Go.Proofs.Ytkopfigagnagoaa

abbrev SL := List Bool
/-- The least free number, from a place on. -/
def leastS : SL → Nat → Option Nat
  | [], _ => none
  | b :: r, i => if b then leastS r (i + 1) else some i
def takenS (l : SL) (i : Int) : Bool := decide (0 ≤ i) && (decide (i < (l.length : Int)) && l.getD i.toNat false)
def takeS (l : SL) : SL × Nat × Int := match leastS l 0 with
  | some i => (l.set i true, i, 0)
  | none => (l, 0, 3)
def giveS (l : SL) (i : Int) : SL × Int := if takenS l i then (l.set i.toNat false, 0) else (l, 1)
/-- What Only has laid so far: nothing, if one is none or stands there twice. -/
def onlyF (n : Nat) : List Int → SL → Option SL
  | [], o => some o
  | z :: r, o => if decide (0 ≤ z) && (decide (z < (n : Int)) && !o.getD z.toNat false) then onlyF n r (o.set z.toNat true) else none
def onlyS (l : SL) (of : List Int) : SL × Int := match onlyF l.length of (List.replicate l.length false) with
  | some o => (o, 0)
  | none => (l, 1)
def freeS (l : SL) : Nat := l.count false
def newS (n : Nat) : SL := List.replicate n false
theorem least_none : ∀ {l : SL} {i : Nat}, leastS l i = none → ∀ b ∈ l, b = true
  | [], _, _, _, h => by cases h
  | true :: r, i, h, b, hb => by
    rcases List.mem_cons.1 hb with rfl | hb
    · rfl
    · exact least_none (l := r) (i := i + 1) h b hb
  | false :: r, i, h, b, hb => by cases h
theorem least_some : ∀ {l : SL} {i k : Nat}, leastS l i = some k → i ≤ k ∧ k < i + l.length ∧ l[k - i]? = some false ∧ ∀ j, j < k - i → l[j]? = some true
  | [], _, _, h => by cases h
  | true :: r, i, k, h => by
    obtain ⟨h1, h2, h3, h4⟩ := least_some (l := r) (i := i + 1) (k := k) h
    have e : k - i = (k - (i + 1)) + 1 := by omega
    refine ⟨by omega, by simp only [List.length_cons]; omega, ?_, ?_⟩
    · rw [e, List.getElem?_cons_succ]; exact h3
    · intro j hj
      cases j with
      | zero => rfl
      | succ j => rw [List.getElem?_cons_succ]; exact h4 j (by omega)
  | false :: r, i, k, h => by
    obtain rfl : i = k := by simpa [leastS] using h
    refine ⟨Nat.le_refl _, by simp only [List.length_cons]; omega, by rw [Nat.sub_self]; rfl, fun j hj => by omega⟩
/-- From a place on at which all before are taken. -/
theorem least_drop (l : SL) (i : Nat) (hi : i < l.length) : leastS (l.drop i) i = if l[i] then leastS (l.drop (i + 1)) (i + 1) else some i := by
  rw [List.drop_eq_getElem_cons hi]
  rfl
theorem least_end (l : SL) (i : Nat) (hi : l.length ≤ i) : leastS (l.drop i) i = none := by
  rw [List.drop_of_length_le hi]
  rfl
theorem only_len (n : Nat) : ∀ (of : List Int) (o p : SL), onlyF n of o = some p → p.length = o.length
  | [], o, p, h => by cases h; rfl
  | z :: r, o, p, h => by
    unfold onlyF at h
    split at h
    · have := only_len n r _ p h
      rw [this, List.length_set]
    · cases h
theorem take_len (l : SL) : (takeS l).1.length = l.length := by
  unfold takeS
  split
  · exact List.length_set
  · rfl
theorem give_len (l : SL) (i : Int) : (giveS l i).1.length = l.length := by
  unfold giveS
  split
  · exact List.length_set
  · rfl
theorem onlyS_len (l : SL) (of : List Int) : (onlyS l of).1.length = l.length := by
  unfold onlyS
  cases h : onlyF l.length of (List.replicate l.length false) with
  | none => rfl
  | some o => exact (only_len _ _ _ _ h).trans List.length_replicate
theorem free_set_true (l : SL) (i : Nat) (h : l[i]? = some false) : freeS (l.set i true) + 1 = freeS l := by
  unfold freeS
  obtain ⟨hi, e⟩ := List.getElem?_eq_some_iff.1 h
  rw [List.count_set hi, e]
  have hp : 0 < l.count false := List.count_pos_iff.2 (e ▸ List.getElem_mem hi)
  simp
  omega
theorem free_set_false (l : SL) (i : Nat) (h : l[i]? = some true) : freeS (l.set i false) = freeS l + 1 := by
  unfold freeS
  obtain ⟨hi, e⟩ := List.getElem?_eq_some_iff.1 h
  rw [List.count_set hi, e]
  simp
theorem free_take (l : SL) (i : Nat) (hi : i < l.length) : freeS (l.take (i + 1)) = freeS (l.take i) + if l[i] then 0 else 1 := by
  unfold freeS
  rw [List.take_succ_eq_append_getElem hi, List.count_append]
  cases l[i] <;> rfl
theorem free_le (l : SL) : freeS l ≤ l.length := List.count_le_length
end Go.Proofs.Ytkopfigagnagoaa
