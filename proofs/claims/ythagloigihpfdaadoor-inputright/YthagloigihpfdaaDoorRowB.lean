/- A list of bytes that came in reads as bytes; what Decode and Text make of it. -/
import Derived.Test.YthagloigihpfdaaDoorWalkT
import Derived.OpenShut
set_option linter.unusedVariables false
namespace Go.Proofs.YthagloigihpfdaaDoor
open Go.RowKit

/-- What a slice of bytes that came in reads as. -/
def IsRow (w : World) (a : Option Addr) (len cap : Nat) (zs : List Int) : Prop :=
  (a = none ∧ len = 0 ∧ cap = 0 ∧ zs = []) ∨
  ∃ x, a = some x ∧ len ≤ cap ∧ cap ≤ maxLen ∧ zs.length = cap ∧ (∀ i, i < zs.length → w.cell? (x.add i) = some (.int .u8 (zs.getD i 0))) ∧ ∀ n ∈ zs, (Lit.int .u8 n).wf = true

theorem isRow_isB (w : World) (a : Option Addr) (len cap : Nat) (zs : List Int) (h : IsRow w a len cap zs) : ∃ l : List UInt8, l.length = len ∧ IsB w (.slice a len cap) l := by
  rcases h with ⟨rfl, rfl, rfl, rfl⟩ | ⟨x, rfl, h1, h2, h3, h4, h5⟩
  · exact ⟨[], rfl, .inl ⟨rfl, rfl⟩⟩
  · have hlen : ((zs.take len).map fun n => UInt8.ofNat n.toNat).length = len := by simp; omega
    refine ⟨_, hlen, .inr ⟨x, cap, by rw [hlen], ?_⟩⟩
    intro j hj
    rw [hlen] at hj
    have hjz : j < zs.length := by omega
    rw [h4 j hjz]
    have hw := h5 zs[j] (List.getElem_mem hjz)
    have hbd : 0 ≤ zs[j] ∧ zs[j] < 256 := by
      have := bounds_u8 hw
      omega
    simp only [List.getElem_map, List.getElem_take, List.getD_eq_getElem?_getD, List.getElem?_eq_getElem hjz, Option.getD_some]
    congr 2
    rw [UInt8.toNat_ofNat']
    omega
theorem str_data (l : List UInt8) : (⟨l.toArray⟩ : ByteArray).data.toList = l := rfl
theorem str_len (l : List UInt8) (n : Nat) (h : l.length ≤ n) : (⟨l.toArray⟩ : ByteArray).size ≤ n := by
  rw [size_list]; exact h
end Go.Proofs.YthagloigihpfdaaDoor
