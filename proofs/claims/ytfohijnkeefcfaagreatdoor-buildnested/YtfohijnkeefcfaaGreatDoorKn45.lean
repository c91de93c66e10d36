import Derived.Test.YtfohijnkeefcfaaGreatDoorKn44
import Derived.Deep.SlicePairs
import Derived.Lib.SmallJoins
import Derived.ProofKit
set_option linter.unusedVariables false
set_option linter.unusedSimpArgs false
set_option maxRecDepth 100000
set_option maxHeartbeats 8000000
namespace Go.Proofs.YtfohijnkeefcfaaGreatDoor
open Go.RowKit Go.ChangeShapes Go.WideShapes Go.Deep
def IsZ2 (w : World) (v : Value) (zs : List Int) : Prop := S7.IsZ w v zs /\ zs.length <= 9223372036854775807
theorem ints_in {H : Type} {enc : TypeId × Value -> H} {W : World} {fuel : Nat} {v : Value} {x : DataW H × List MemPlace} (h : DataW.trod enc Tryz.prog W 0 (fun _ => true) true fuel 22 [v] = some x) :
    ∃ xs : List Int, IsZ2 W v xs := by
  rcases Deep.open_slice Tryz.underlying22 h with ⟨hcs, _⟩ | ⟨a, len, cap, m, n, D, Pl, hcs, hb, hl, hm, hmm, _, hx⟩
  · obtain rfl : v = .slice none 0 0 := by simpa using hcs
    exact ⟨[], .inl ⟨rfl, _, _, rfl⟩, Nat.zero_le _⟩
  · obtain rfl : v = .slice (some a) len cap := by simpa using hcs
    by_cases h0 : len = 0
    · subst h0
      exact ⟨[], .inl ⟨rfl, _, _, rfl⟩, Nat.zero_le _⟩
    · have hlm : len <= m := by rw [hmm]; split <;> omega
      have each : ∀ i, i < len -> ∃ y : Int, W.cell? (a.add i) = some (.int .i64 y) := by
        intro i hi
        obtain ⟨cs', h1, h2⟩ := hx i (by omega)
        rw [show Tryz.prog.cellsOf 3 = 1 by kernel_rfl] at h1
        obtain ⟨_, hlen, hcell⟩ := World.cells?_some h1
        match cs', hlen with
        | [v0], _ =>
          obtain ⟨z0, e0, _⟩ := DataW.trod_int Tryz.underlying3 h2
          simp only [List.cons.injEq, and_true] at e0
          subst e0
          have f0 := hcell 0 (by omega)
          rw [add_add, Nat.add_zero, Nat.mul_one] at f0
          exact ⟨z0, f0⟩
      obtain ⟨f, hf⟩ := Deep.choose_lt each
      obtain ⟨b, o, sp⟩ := a
      have hsp : sp = none := by
        have h1 := hf 0 (by omega)
        cases sp with
        | none => rfl
        | some z =>
          exfalso
          have h2 : W.cell? ⟨b, o, some z⟩ = some (.int .i64 (f 0)) := by simpa [Addr.add] using h1
          unfold World.cell? at h2
          split at h2 <;> simp at h2
      subst hsp
      refine ⟨(List.range len).map f, .inr ⟨b, o, cap, by simp, fun j hj => ?_⟩, ?_⟩
      · have hj2 : j < len := by simpa using hj
        have h1 := hf j hj2
        rw [addr_add9] at h1
        simp only [List.getElem_map, List.getElem_range]
        exact h1
      · rw [List.length_map, List.length_range]
        unfold maxLen at *
        omega
theorem nested_row (v : Value) (zs : List Int) (w : World) (he : S4.Env w) (hZ : IsZ2 w v zs) :
    Calls Tryz.prog 3 #[v] w fun e w' => e = .returned (.bool true) /\ Below w.heap.size w w' := nested_any v zs w he hZ.1 hZ.2
end Go.Proofs.YtfohijnkeefcfaaGreatDoor
