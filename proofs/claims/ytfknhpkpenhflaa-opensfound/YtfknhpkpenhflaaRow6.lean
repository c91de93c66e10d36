/- Lists of open elements and of texts that came in, opened: from the row's reading to what the walks ask. -/
import Derived.Test.YtfknhpkpenhflaaPC6
import Derived.Deep.SlicePairs
import Derived.Lib.SmallJoins
import Derived.ProofKit
set_option linter.unusedVariables false
set_option linter.unusedSimpArgs false
namespace Go.Proofs.Ytfknhpkpenhflaa
open Go.RowKit Go.ChangeShapes Go.WideShapes Go.Deep

theorem str_of (x : ByteArray) (R : List UInt8) (h : x.data.toList = R) : x = ⟨R.toArray⟩ := by
  subst h
  cases x
  simp
theorem str_selfV (s : ByteArray) : (⟨s.data.toList.toArray⟩ : ByteArray) = s := (str_of s _ rfl).symm
theorem addr_addo (b o j : Nat) : (⟨b, o, none⟩ : Addr).add j = ⟨b, o + j, none⟩ := by unfold Addr.add; split <;> simp_all
set_option maxRecDepth 100000 in
theorem opens_of {H : Type} {enc : TypeId × Value → H} {W : World} {fuel : Nat} {v : Value} {x : DataW H × List MemPlace} (h : DataW.trod enc Try.prog W 0 (fun _ => true) true fuel 29 [v] = some x) :
    ∃ xs : List OV, IsO W v xs := by
  rcases Deep.open_slice Try.underlying29 h with ⟨hcs, _⟩ | ⟨a, len, cap, m, n, D, Pl, hcs, hb, hl, hm, hmm, _, hx⟩
  · obtain rfl : v = .slice none 0 0 := by simpa using hcs
    exact ⟨[], .inl ⟨rfl, _, _, rfl⟩⟩
  · obtain rfl : v = .slice (some a) len cap := by simpa using hcs
    by_cases h0 : len = 0
    · subst h0
      exact ⟨[], .inl ⟨rfl, _, _, rfl⟩⟩
    · have hlm : len ≤ m := by rw [hmm]; split <;> omega
      have each : ∀ i, i < len → ∃ y : OV, W.cell? (a.add (i * 3)) = some (.int .i64 y.id) ∧ W.cell? (a.add (i * 3 + 1)) = some (.int .i64 y.sp) ∧ W.cell? (a.add (i * 3 + 2)) = some (.string y.nm) := by
        intro i hi
        obtain ⟨cs', h1, h2⟩ := hx i (by omega)
        rw [show Try.prog.cellsOf 24 = 3 by kernel_rfl] at h1
        obtain ⟨_, hlen, hcell⟩ := World.cells?_some h1
        obtain ⟨xs, k, hk, hxy, _, hxl, hf⟩ := DataW.trod_struct Try.underlying24 h2
        match cs', hlen with
        | [v0, v1, v2], _ =>
          have g0 := hf 0 _ rfl
          have g1 := hf 1 _ rfl
          have g2 := hf 2 _ rfl
          have cI : Try.prog.cellsOf 3 = 1 := by kernel_rfl
          have cS : Try.prog.cellsOf 22 = 1 := by kernel_rfl
          have cT : Try.prog.cellsOf 9 = 1 := by kernel_rfl
          match xs, hxl with
          | [y0, y1, y2], _ =>
            have g0' : DataW.trod enc Try.prog W 0 (fun _ => true) true k 3 [v0] = some y0 := by simpa [cI, cS, cT] using g0
            have g1' : DataW.trod enc Try.prog W 0 (fun _ => true) true k 22 [v1] = some y1 := by simpa [cI, cS, cT] using g1
            have g2' : DataW.trod enc Try.prog W 0 (fun _ => true) true k 9 [v2] = some y2 := by simpa [cI, cS, cT] using g2
            obtain ⟨z0, e0, _⟩ := DataW.trod_int Try.underlying3 g0'
            obtain ⟨z1, e1, _⟩ := DataW.trod_int Try.underlying22 g1'
            obtain ⟨z2, e2, _⟩ := DataW.trod_string Try.underlying9 g2'
            simp only [List.cons.injEq, and_true] at e0 e1 e2
            subst e0 e1 e2
            have f0 := hcell 0 (by omega)
            have f1 := hcell 1 (by omega)
            have f2 := hcell 2 (by omega)
            rw [add_add] at f0 f1 f2
            exact ⟨⟨z0, z1, z2⟩, by rw [Nat.add_zero] at f0; exact f0, f1, f2⟩
      obtain ⟨f, hf⟩ := @Deep.choose_lt OV ⟨⟨0, 0, ByteArray.empty⟩⟩ _ _ each
      obtain ⟨b, o, sp⟩ := a
      have hsp : sp = none := by
        have h1 := (hf 0 (by omega)).1
        cases sp with
        | none => rfl
        | some z =>
          exfalso
          have h2 : W.cell? ⟨b, o, some z⟩ = some (.int .i64 (f 0).id) := by simpa [Addr.add] using h1
          unfold World.cell? at h2
          split at h2 <;> simp at h2
      subst hsp
      refine ⟨(List.range len).map f, .inr ⟨b, o, cap, by simp, fun j hj => ?_⟩⟩
      have hj2 : j < len := by simpa using hj
      obtain ⟨h1, h2, h3⟩ := hf j hj2
      rw [addr_addo] at h1 h2 h3
      simp only [List.getElem_map, List.getElem_range]
      exact ⟨h1, by rw [Nat.add_assoc]; exact h2, by rw [Nat.add_assoc]; exact h3⟩
theorem names_of {H : Type} {enc : TypeId × Value → H} {W : World} {fuel : Nat} {v : Value} {x : DataW H × List MemPlace} (h : DataW.trod enc Try.prog W 0 (fun _ => true) true fuel 30 [v] = some x) :
    ∃ xs : List (List UInt8), IsW W v xs := by
  rcases Deep.open_slice Try.underlying30 h with ⟨hcs, _⟩ | ⟨a, len, cap, m, n, D, Pl, hcs, hb, hl, hm, hmm, _, hx⟩
  · obtain rfl : v = .slice none 0 0 := by simpa using hcs
    exact ⟨[], .inl ⟨rfl, _, _, rfl⟩⟩
  · obtain rfl : v = .slice (some a) len cap := by simpa using hcs
    by_cases h0 : len = 0
    · subst h0
      exact ⟨[], .inl ⟨rfl, _, _, rfl⟩⟩
    · have hlm : len ≤ m := by rw [hmm]; split <;> omega
      have each : ∀ i, i < len → ∃ y : List UInt8, W.cell? (a.add i) = some (.string ⟨y.toArray⟩) := by
        intro i hi
        obtain ⟨cs', h1, h2⟩ := hx i (by omega)
        rw [show Try.prog.cellsOf 9 = 1 by kernel_rfl] at h1
        obtain ⟨_, hlen, hcell⟩ := World.cells?_some h1
        match cs', hlen with
        | [v0], _ =>
          obtain ⟨z0, e0, _⟩ := DataW.trod_string Try.underlying9 h2
          simp only [List.cons.injEq, and_true] at e0
          subst e0
          have f0 := hcell 0 (by omega)
          rw [add_add, Nat.add_zero, Nat.mul_one] at f0
          exact ⟨z0.data.toList, by rw [str_selfV]; exact f0⟩
      obtain ⟨f, hf⟩ := Deep.choose_lt each
      obtain ⟨b, o, sp⟩ := a
      have hsp : sp = none := by
        have h1 := hf 0 (by omega)
        cases sp with
        | none => rfl
        | some z =>
          exfalso
          have h2 : W.cell? ⟨b, o, some z⟩ = some (.string ⟨(f 0).toArray⟩) := by simpa [Addr.add] using h1
          unfold World.cell? at h2
          split at h2 <;> simp at h2
      subst hsp
      refine ⟨(List.range len).map f, .inr ⟨b, o, cap, by simp, fun j hj => ?_⟩⟩
      have hj2 : j < len := by simpa using hj
      have h1 := hf j hj2
      rw [addr_addo] at h1
      simp only [List.getElem_map, List.getElem_range]
      exact h1
end Go.Proofs.Ytfknhpkpenhflaa
