/- How a list of texts comes in. -/
import Derived.Test.YtfjganjihapnhaaGreatDoorIw10
import Derived.Deep.SlicePairs
import Derived.WalkKit
import Derived.ProofKit
import Derived.OpenShut
import Derived.ShutString
import Derived.ChangeOld
import Derived.Below
import Derived.Lay
import Derived.LaidMore
import Derived.Deep.DeepHandedRow
import Derived.Lib.SmallJoins
set_option linter.unusedVariables false
set_option linter.unusedSimpArgs false
set_option maxRecDepth 4000
namespace Go.Proofs.YtfjganjihapnhaaGreatDoor
open Go.RowKit Go.ChangeShapes Go.WideShapes Go.Deep

theorem str_of (x : ByteArray) (R : List UInt8) (h : x.data.toList = R) : x = ⟨R.toArray⟩ := by
  subst h
  cases x
  simp
theorem str_selfV (s : ByteArray) : (⟨s.data.toList.toArray⟩ : ByteArray) = s := (str_of s _ rfl).symm
theorem addr_addo (b o j : Nat) : (⟨b, o, none⟩ : Addr).add j = ⟨b, o + j, none⟩ := by unfold Addr.add; split <;> simp_all
set_option maxRecDepth 100000 in
theorem names_of {H : Type} {enc : TypeId × Value → H} {W : World} {fuel : Nat} {v : Value} {x : DataW H × List MemPlace} (h : DataW.trod enc Tryz.prog W 0 (fun _ => true) true fuel 23 [v] = some x) :
    ∃ xs : List (List UInt8), IsW W v xs := by
  rcases Deep.open_slice Tryz.underlying23 h with ⟨hcs, _⟩ | ⟨a, len, cap, m, n, D, Pl, hcs, hb, hl, hm, hmm, _, hx⟩
  · obtain rfl : v = .slice none 0 0 := by simpa using hcs
    exact ⟨[], .inl ⟨rfl, _, _, rfl⟩⟩
  · obtain rfl : v = .slice (some a) len cap := by simpa using hcs
    by_cases h0 : len = 0
    · subst h0
      exact ⟨[], .inl ⟨rfl, _, _, rfl⟩⟩
    · have hlm : len ≤ m := by rw [hmm]; split <;> omega
      have each : ∀ i, i < len → ∃ y : List UInt8, W.cell? (a.add i) = some (.string ⟨y.toArray⟩) := by
        intro i hi
        obtain ⟨cs', h1, h2⟩ := hx i (by omega)
        rw [show Tryz.prog.cellsOf 9 = 1 by kernel_rfl] at h1
        obtain ⟨_, hlen, hcell⟩ := World.cells?_some h1
        match cs', hlen with
        | [v0], _ =>
          obtain ⟨z0, e0, _⟩ := DataW.trod_string Tryz.underlying9 h2
          simp only [List.cons.injEq, and_true] at e0
          subst e0
          have f0 := hcell 0 (by omega)
          rw [add_add, Nat.add_zero, Nat.mul_one] at f0
          exact ⟨z0.data.toList, by rw [str_selfV]; exact f0⟩
      obtain ⟨f, hf⟩ := Deep.choose_lt each
      obtain ⟨b, o, sp⟩ := a
      have hsp : sp = none := by
        have h1 := hf 0 (by omega)
        cases sp with
        | none => rfl
        | some z =>
          exfalso
          have h2 : W.cell? ⟨b, o, some z⟩ = some (.string ⟨(f 0).toArray⟩) := by simpa [Addr.add] using h1
          unfold World.cell? at h2
          split at h2 <;> simp at h2
      subst hsp
      refine ⟨(List.range len).map f, .inr ⟨b, o, cap, by simp, fun j hj => ?_⟩⟩
      have hj2 : j < len := by simpa using hj
      have h1 := hf j hj2
      rw [addr_addo] at h1
      simp only [List.getElem_map, List.getElem_range]
      exact h1
end Go.Proofs.YtfjganjihapnhaaGreatDoor
