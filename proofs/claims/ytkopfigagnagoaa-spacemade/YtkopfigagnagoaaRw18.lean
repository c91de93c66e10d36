/- How a list of numbers, and a script of acts on a space, come in: from the row's reading to what the walks ask. -/
import Derived.Test.YtkopfigagnagoaaLp18
import Derived.Deep.SlicePairs
import Derived.Deep.Slices
import Derived.ProofKit
import Derived.OpenShut
set_option linter.unusedVariables false
set_option linter.unusedSimpArgs false
set_option maxRecDepth 100000
namespace Go.Proofs.Ytkopfigagnagoaa
open Go.RowKit Go.ChangeShapes Go.WideShapes Go.Deep

theorem sub_none {W : World} {b o : Nat} {sp : Option Nat} {v : Value} (h : W.cell? ((⟨b, o, sp⟩ : Addr).add 0) = some v) (hv : v.oneCell' = true) : sp = none := by
  cases sp with
  | none => rfl
  | some z =>
    exfalso
    have h2 : W.cell? ⟨b, o, some z⟩ = some v := by simpa [Addr.add] using h
    unfold World.cell? at h2
    split at h2 <;> simp at h2
theorem ints_in {H : Type} {enc : TypeId × Value → H} {W : World} {fuel : Nat} {v : Value} {x : DataW H × List MemPlace} (h : DataW.trod enc Try.prog W 0 (fun _ => true) true fuel 31 [v] = some x) :
    ∃ l : List Int, IsZ W v l ∧ l.length ≤ 9223372036854775807 := by
  rcases Deep.open_slice Try.underlying31 h with ⟨hcs, _⟩ | ⟨a, len, cap, m, n, D, Pl, hcs, hb, hl, hm, hmm, _, hx⟩
  · obtain rfl : v = .slice none 0 0 := by simpa using hcs
    exact ⟨[], .inl ⟨rfl, _, _, rfl⟩, by decide⟩
  · obtain rfl : v = .slice (some a) len cap := by simpa using hcs
    by_cases h0 : len = 0
    · subst h0
      exact ⟨[], .inl ⟨rfl, _, _, rfl⟩, by decide⟩
    · have hlm : len ≤ m := by rw [hmm]; split <;> omega
      have each : ∀ i, i < len → ∃ y : Int, W.cell? (a.add i) = some (.int .i64 y) := by
        intro i hi
        obtain ⟨cs', h1, h2⟩ := hx i (by omega)
        rw [show Try.prog.cellsOf 3 = 1 by kernel_rfl] at h1
        obtain ⟨_, hlen, hcell⟩ := World.cells?_some h1
        match cs', hlen with
        | [v0], _ =>
          obtain ⟨z, e, _, hw⟩ := DataW.trod_int Try.underlying3 h2
          simp only [List.cons.injEq, and_true] at e
          subst e
          have f0 := hcell 0 (by omega)
          rw [add_add, Nat.add_zero, Nat.mul_one] at f0
          exact ⟨z, f0⟩
      obtain ⟨f, hf⟩ := @Deep.choose_lt Int ⟨0⟩ _ _ each
      obtain ⟨b, o, sp⟩ := a
      have hsp : sp = none := sub_none (hf 0 (by omega)) rfl
      subst hsp
      refine ⟨(List.range len).map f, .inr ⟨b, o, cap, by simp, fun j hj => ?_⟩, by simp; unfold maxLen at hm; omega⟩
      have hj2 : j < len := by simpa using hj
      have h1 := hf j hj2
      rw [addr_addo] at h1
      simp only [List.getElem_map, List.getElem_range]
      exact h1
theorem script_in {H : Type} {enc : TypeId × Value → H} {W : World} {fuel : Nat} {v : Value} {x : DataW H × List MemPlace} (h : DataW.trod enc Try.prog W 0 (fun _ => true) true fuel 22 [v] = some x) :
    ∃ l : List AV, IsS W v l ∧ l.length ≤ 9223372036854775807 := by
  rcases Deep.open_slice Try.underlying22 h with ⟨hcs, _⟩ | ⟨a, len, cap, m, n, D, Pl, hcs, hb, hl, hm, hmm, _, hx⟩
  · obtain rfl : v = .slice none 0 0 := by simpa using hcs
    exact ⟨[], ⟨.inl ⟨rfl, _, _, rfl⟩, fun x hx => by cases hx⟩, by decide⟩
  · obtain rfl : v = .slice (some a) len cap := by simpa using hcs
    by_cases h0 : len = 0
    · subst h0
      exact ⟨[], ⟨.inl ⟨rfl, _, _, rfl⟩, fun x hx => by cases hx⟩, by decide⟩
    · have hlm : len ≤ m := by rw [hmm]; split <;> omega
      have each : ∀ i, i < len → ∃ y : AV, (W.cell? (a.add (i * 3)) = some (.int .i64 y.kind) ∧ W.cell? (a.add (i * 3 + 1)) = some (.int .i64 y.n) ∧ W.cell? (a.add (i * 3 + 2)) = some y.lv) ∧ IsZ W y.lv y.l ∧ y.l.length ≤ 9223372036854775807 := by
        intro i hi
        obtain ⟨cs', h1, h2⟩ := hx i (by omega)
        rw [show Try.prog.cellsOf 33 = 3 by kernel_rfl] at h1
        obtain ⟨_, hlen, hcell⟩ := World.cells?_some h1
        obtain ⟨xs, k, hk, hxy, _, hxl, hf⟩ := DataW.trod_struct Try.underlying33 h2
        match cs', hlen with
        | [v0, v1, v2], _ =>
          have g0 := hf 0 _ rfl
          have g1 := hf 1 _ rfl
          have g2 := hf 2 _ rfl
          have cI : Try.prog.cellsOf 3 = 1 := by kernel_rfl
          have cB : Try.prog.cellsOf 31 = 1 := by kernel_rfl
          match xs, hxl with
          | [y0, y1, y2], _ =>
            have g0' : DataW.trod enc Try.prog W 0 (fun _ => true) true k 3 [v0] = some y0 := by simpa [cI] using g0
            have g1' : DataW.trod enc Try.prog W 0 (fun _ => true) true k 3 [v1] = some y1 := by simpa [cI] using g1
            have g2' : DataW.trod enc Try.prog W 0 (fun _ => true) true k 31 [v2] = some y2 := by simpa [cB] using g2
            obtain ⟨z0, e0, _, w0⟩ := DataW.trod_int Try.underlying3 g0'
            obtain ⟨z1, e1, _, w1⟩ := DataW.trod_int Try.underlying3 g1'
            obtain ⟨zs, hY, hYl⟩ := ints_in g2'
            simp only [List.cons.injEq, and_true] at e0 e1
            subst e0 e1
            have f0 := hcell 0 (by omega)
            have f1 := hcell 1 (by omega)
            have f2 := hcell 2 (by omega)
            rw [add_add] at f0 f1 f2
            exact ⟨⟨z0, z1, zs, v2⟩, ⟨by rw [Nat.add_zero] at f0; exact f0, f1, f2⟩, hY, hYl⟩
      obtain ⟨f, hf⟩ := @Deep.choose_lt AV ⟨⟨0, 0, [], .bool false⟩⟩ _ _ each
      obtain ⟨b, o, sp⟩ := a
      have hsp : sp = none := by
        have h1 := (hf 0 (by omega)).1.1
        rw [Nat.zero_mul] at h1
        exact sub_none h1 rfl
      subst hsp
      refine ⟨(List.range len).map f, ⟨.inr ⟨b, o, cap, by simp, fun j hj => ?_⟩, fun x hx => ?_⟩, by simp; unfold maxLen at hm; omega⟩
      · have hj2 : j < len := by simpa using hj
        obtain ⟨⟨h1, h2, h3⟩, -⟩ := hf j hj2
        rw [addr_addo] at h1 h2 h3
        simp only [List.getElem_map, List.getElem_range]
        exact ⟨h1, by rw [Nat.add_assoc]; exact h2, by rw [Nat.add_assoc]; exact h3⟩
      · obtain ⟨j, hj, rfl⟩ := List.mem_map.1 hx
        exact (hf j (List.mem_range.1 hj)).2
end Go.Proofs.Ytkopfigagnagoaa
