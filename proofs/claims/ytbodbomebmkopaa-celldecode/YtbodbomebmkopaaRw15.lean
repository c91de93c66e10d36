/- How bytes come in: from the row's reading to what the walks ask. -/
import Derived.Test.YtbodbomebmkopaaBa15
import Derived.Deep.SlicePairs
import Derived.Deep.Slices
import Derived.ProofKit
import Derived.OpenShut
set_option linter.unusedVariables false
set_option linter.unusedSimpArgs false
set_option maxRecDepth 100000
namespace Go.Proofs.Ytbodbomebmkopaa
open Go.RowKit Go.ChangeShapes Go.WideShapes Go.Deep

theorem wf_int {k : IntKind} {z : Int} (h : (Lit.int k z).wf = true) : k.min ≤ z ∧ z ≤ k.max := by
  unfold Lit.wf at h
  rw [Bool.and_eq_true] at h
  exact ⟨of_decide_eq_true h.1, of_decide_eq_true h.2⟩
theorem sub_none {W : World} {b o : Nat} {sp : Option Nat} {v : Value} (h : W.cell? ((⟨b, o, sp⟩ : Addr).add 0) = some v) (hv : v.oneCell' = true) : sp = none := by
  cases sp with
  | none => rfl
  | some z =>
    exfalso
    have h2 : W.cell? ⟨b, o, some z⟩ = some v := by simpa [Addr.add] using h
    unfold World.cell? at h2
    split at h2 <;> simp at h2
theorem bytes_in {H : Type} {enc : TypeId × Value → H} {W : World} {fuel : Nat} {v : Value} {x : DataW H × List MemPlace} (h : DataW.trod enc Try.prog W 0 (fun _ => true) true fuel 23 [v] = some x) :
    ∃ l : Bs, IsY W v l ∧ l.length ≤ 9223372036854775807 := by
  rcases Deep.open_slice Try.underlying23 h with ⟨hcs, _⟩ | ⟨a, len, cap, m, n, D, Pl, hcs, hb, hl, hm, hmm, _, hx⟩
  · obtain rfl : v = .slice none 0 0 := by simpa using hcs
    exact ⟨[], .inl ⟨rfl, _, _, rfl⟩, by decide⟩
  · obtain rfl : v = .slice (some a) len cap := by simpa using hcs
    by_cases h0 : len = 0
    · subst h0
      exact ⟨[], .inl ⟨rfl, _, _, rfl⟩, by decide⟩
    · have hlm : len ≤ m := by rw [hmm]; split <;> omega
      have each : ∀ i, i < len → ∃ y : UInt8, W.cell? (a.add i) = some (.int .u8 (y.toNat : Int)) := by
        intro i hi
        obtain ⟨cs', h1, h2⟩ := hx i (by omega)
        rw [show Try.prog.cellsOf 5 = 1 by kernel_rfl] at h1
        obtain ⟨_, hlen, hcell⟩ := World.cells?_some h1
        match cs', hlen with
        | [v0], _ =>
          obtain ⟨z, e, _, hw⟩ := DataW.trod_int Try.underlying5 h2
          simp only [List.cons.injEq, and_true] at e
          subst e
          have f0 := hcell 0 (by omega)
          rw [add_add, Nat.add_zero, Nat.mul_one] at f0
          have hz : 0 ≤ z ∧ z < 256 := by
            have hh := wf_int hw
            rw [show IntKind.u8.min = 0 from rfl, show IntKind.u8.max = 255 from rfl] at hh
            omega
          refine ⟨UInt8.ofNat z.toNat, ?_⟩
          rw [f0]
          simp
          omega
      obtain ⟨f, hf⟩ := @Deep.choose_lt UInt8 ⟨0⟩ _ _ each
      obtain ⟨b, o, sp⟩ := a
      have hsp : sp = none := sub_none (hf 0 (by omega)) rfl
      subst hsp
      refine ⟨(List.range len).map f, .inr ⟨b, o, cap, by simp, by simpa using hl, fun j hj => ?_⟩, by simp; unfold maxLen at hm; omega⟩
      have hj2 : j < len := by simpa using hj
      have h1 := hf j hj2
      rw [addr_addo] at h1
      simp only [List.getElem_map, List.getElem_range]
      exact h1
end Go.Proofs.Ytbodbomebmkopaa
