/- A script that came in, opened: from the row's reading to what the walks ask. -/
import Derived.Test.YtjgklemhlmgheaaDoP5
import Derived.Deep.SlicePairs
import Derived.Lib.SmallJoins
import Derived.ProofKit
set_option linter.unusedVariables false
set_option linter.unusedSimpArgs false
namespace Go.Proofs.Ytjgklemhlmgheaa
open Go.RowKit Go.ChangeShapes Go.WideShapes Go.Deep

theorem str_selfV (s : ByteArray) : (⟨s.data.toList.toArray⟩ : ByteArray) = s := (str_of s _ rfl).symm
theorem addr_addo (b o j : Nat) : (⟨b, o, none⟩ : Addr).add j = ⟨b, o + j, none⟩ := by unfold Addr.add; split <;> simp_all
theorem attrs_of {H : Type} {enc : TypeId × Value → H} {W : World} {fuel : Nat} {v : Value} {x : DataW H × List MemPlace} (h : DataW.trod enc Try.prog W 0 (fun _ => true) true fuel 31 [v] = some x) :
    ∃ aa : AttrL, IsV W v aa := by
  rcases Deep.open_slice_pairs Try.underlying31 Try.underlying80 (by kernel_rfl) rfl rfl (by kernel_rfl) (by kernel_rfl) h with ⟨hcs, _⟩ | ⟨a, len, cap, m, n, V0, V1, D0, D1, P0, P1, hcs, _, hl, hm, hmm, _, hc⟩
  · obtain rfl : v = .slice none 0 0 := by simpa using hcs
    exact ⟨[], .inl (.inl ⟨rfl, rfl⟩)⟩
  · obtain rfl : v = .slice (some a) len cap := by simpa using hcs
    by_cases h0 : len = 0
    · subst h0
      exact ⟨[], .inr ⟨rfl, _, _, rfl⟩⟩
    · have hm2 : m = cap := by rw [hmm]; rfl
      have each : ∀ i, i < len → ∃ p : List UInt8 × List UInt8, W.cell? (a.add (i * 2)) = some (.string ⟨p.1.toArray⟩) ∧ W.cell? (a.add (i * 2 + 1)) = some (.string ⟨p.2.toArray⟩) := by
        intro i hi
        obtain ⟨c0, c1, t0, t1⟩ := hc i (by omega)
        obtain ⟨s0, e0, _⟩ := DataW.trod_string Try.underlying9 t0
        obtain ⟨s1, e1, _⟩ := DataW.trod_string Try.underlying9 t1
        have e0' : V0 i = .string s0 := by simpa using e0
        have e1' : V1 i = .string s1 := by simpa using e1
        exact ⟨(s0.data.toList, s1.data.toList), by rw [c0, e0', str_selfV], by rw [c1, e1', str_selfV]⟩
      obtain ⟨f, hf⟩ := Deep.choose_lt each
      obtain ⟨b, o, sp⟩ := a
      have hsp : sp = none := by
        have h1 := (hf 0 (by omega)).1
        cases sp with
        | none => rfl
        | some z =>
          exfalso
          have h2 : W.cell? ⟨b, o, some z⟩ = some (.string ⟨(f 0).1.toArray⟩) := by simpa [Addr.add] using h1
          unfold World.cell? at h2
          split at h2 <;> simp at h2
      subst hsp
      refine ⟨(List.range len).map f, .inl (.inr ⟨b, o, cap, by simp, by simpa using hl, fun j hj => ?_⟩)⟩
      have hj2 : j < len := by simpa using hj
      obtain ⟨h1, h2⟩ := hf j hj2
      rw [addr_addo] at h1 h2
      simp only [List.getElem_map, List.getElem_range]
      exact ⟨h1, by rw [Nat.add_assoc]; exact h2⟩
set_option maxRecDepth 100000 in
theorem acts_of {H : Type} {enc : TypeId × Value → H} {W : World} {fuel : Nat} {v : Value} {x : DataW H × List MemPlace} (h : DataW.trod enc Try.prog W 0 (fun _ => true) true fuel 22 [v] = some x) :
    ∃ xs : List AV, IsS W v xs := by
  rcases Deep.open_slice Try.underlying22 h with ⟨hcs, _⟩ | ⟨a, len, cap, m, n, D, Pl, hcs, hb, hl, hm, hmm, _, hx⟩
  · obtain rfl : v = .slice none 0 0 := by simpa using hcs
    exact ⟨[], .inl ⟨rfl, _, _, rfl⟩⟩
  · obtain rfl : v = .slice (some a) len cap := by simpa using hcs
    by_cases h0 : len = 0
    · subst h0
      exact ⟨[], .inl ⟨rfl, _, _, rfl⟩⟩
    · have hlm : len ≤ m := by rw [hmm]; split <;> omega
      have each : ∀ i, i < len → ∃ y : AV, (∀ j, j < 6 → W.cell? (a.add (i * 6 + j)) = (y.cells)[j]?) ∧ IsV W y.av y.aa := by
        intro i hi
        obtain ⟨cs', h1, h2⟩ := hx i (by omega)
        rw [show Try.prog.cellsOf 33 = 6 by kernel_rfl] at h1
        obtain ⟨_, hlen, hcell⟩ := World.cells?_some h1
        obtain ⟨xs, k, hk, hxy, _, hxl, hf⟩ := DataW.trod_struct Try.underlying33 h2
        match cs', hlen with
        | [v0, v1, v2, v3, v4, v5], _ =>
          have g0 := hf 0 _ rfl
          have g1 := hf 1 _ rfl
          have g2 := hf 2 _ rfl
          have g3 := hf 3 _ rfl
          have g4 := hf 4 _ rfl
          have g5 := hf 5 _ rfl
          have cI : Try.prog.cellsOf 3 = 1 := by kernel_rfl
          have cS : Try.prog.cellsOf 30 = 1 := by kernel_rfl
          have cT : Try.prog.cellsOf 9 = 1 := by kernel_rfl
          have cA : Try.prog.cellsOf 31 = 1 := by kernel_rfl
          match xs, hxl with
          | [y0, y1, y2, y3, y4, y5], _ =>
            have g0' : DataW.trod enc Try.prog W 0 (fun _ => true) true k 3 [v0] = some y0 := by simpa [cI, cS, cT, cA] using g0
            have g1' : DataW.trod enc Try.prog W 0 (fun _ => true) true k 3 [v1] = some y1 := by simpa [cI, cS, cT, cA] using g1
            have g2' : DataW.trod enc Try.prog W 0 (fun _ => true) true k 3 [v2] = some y2 := by simpa [cI, cS, cT, cA] using g2
            have g3' : DataW.trod enc Try.prog W 0 (fun _ => true) true k 30 [v3] = some y3 := by simpa [cI, cS, cT, cA] using g3
            have g4' : DataW.trod enc Try.prog W 0 (fun _ => true) true k 9 [v4] = some y4 := by simpa [cI, cS, cT, cA] using g4
            have g5' : DataW.trod enc Try.prog W 0 (fun _ => true) true k 31 [v5] = some y5 := by simpa [cI, cS, cT, cA] using g5
            obtain ⟨z0, e0, _⟩ := DataW.trod_int Try.underlying3 g0'
            obtain ⟨z1, e1, _⟩ := DataW.trod_int Try.underlying3 g1'
            obtain ⟨z2, e2, _⟩ := DataW.trod_int Try.underlying3 g2'
            obtain ⟨z3, e3, _⟩ := DataW.trod_int Try.underlying30 g3'
            obtain ⟨z4, e4, _⟩ := DataW.trod_string Try.underlying9 g4'
            obtain ⟨aa, hV⟩ := attrs_of g5'
            simp only [List.cons.injEq, and_true] at e0 e1 e2 e3 e4
            subst e0 e1 e2 e3 e4
            refine ⟨⟨z0, z1, z2, z3, z4, aa, v5⟩, fun j hj => ?_, hV⟩
            have e := hcell j hj
            rw [add_add] at e
            rw [show (i * 6 + j) = i * 6 + j from rfl, e]
            match j, hj with
            | 0, _ => rfl
            | 1, _ => rfl
            | 2, _ => rfl
            | 3, _ => rfl
            | 4, _ => rfl
            | 5, _ => rfl
      obtain ⟨f, hf⟩ := @Deep.choose_lt AV ⟨⟨0, 0, 0, 0, ByteArray.empty, [], .bool false⟩⟩ _ _ each
      obtain ⟨b, o, sp⟩ := a
      have hsp : sp = none := by
        have h1 : W.cell? ((⟨b, o, sp⟩ : Addr).add (0 * 6 + 0)) = some (.int .i64 (f 0).k) := (hf 0 (by omega)).1 0 (by omega)
        cases sp with
        | none => rfl
        | some z =>
          exfalso
          have h2 : W.cell? ⟨b, o, some z⟩ = some (.int .i64 (f 0).k) := by simpa [Addr.add] using h1
          unfold World.cell? at h2
          split at h2 <;> simp at h2
      subst hsp
      refine ⟨(List.range len).map f, .inr ⟨b, o, cap, by simp, fun j hj => ?_⟩⟩
      have hj2 : j < len := by simpa using hj
      obtain ⟨h1, h2⟩ := hf j hj2
      simp only [List.getElem_map, List.getElem_range]
      refine ⟨fun i hi => ?_, h2⟩
      have := h1 i hi
      rw [addr_addo] at this
      rw [Nat.add_assoc]
      exact this
end Go.Proofs.Ytjgklemhlmgheaa
