/- Lists of attributes, of marks and of numbers that came in, opened: from the row's reading to what the walks ask. -/
import Derived.Test.YtihpjalbdkiecaaRC7
import Derived.Deep.SlicePairs
import Derived.Lib.SmallJoins
import Derived.ProofKit
set_option linter.unusedVariables false
set_option linter.unusedSimpArgs false
namespace Go.Proofs.Ytihpjalbdkiecaa
open Go.RowKit Go.ChangeShapes Go.WideShapes Go.Deep

theorem str_of (x : ByteArray) (R : List UInt8) (h : x.data.toList = R) : x = ⟨R.toArray⟩ := by
  subst h
  cases x
  simp
theorem str_selfV (s : ByteArray) : (⟨s.data.toList.toArray⟩ : ByteArray) = s := (str_of s _ rfl).symm
theorem spot_none {W : World} {b o : Nat} {sp : Option Nat} {v : Value} (h : W.cell? ⟨b, o, sp⟩ = some v) (hv : v.oneCell' = true) : sp = none := by
  cases sp with
  | none => rfl
  | some z =>
    exfalso
    unfold World.cell? at h
    split at h <;> simp at h
theorem attrs_of {H : Type} {enc : TypeId × Value → H} {W : World} {fuel : Nat} {v : Value} {x : DataW H × List MemPlace} (h : DataW.trod enc Try.prog W 0 (fun _ => true) true fuel 22 [v] = some x) :
    ∃ aa : AttrL, IsQ W v aa := by
  rcases Deep.open_slice_pairs Try.underlying22 Try.underlying43 (by kernel_rfl) rfl rfl (by kernel_rfl) (by kernel_rfl) h with ⟨hcs, _⟩ | ⟨a, len, cap, m, n, V0, V1, D0, D1, P0, P1, hcs, _, hl, hm, hmm, _, hc⟩
  · obtain rfl : v = .slice none 0 0 := by simpa using hcs
    exact ⟨[], .inl ⟨rfl, _, _, rfl⟩⟩
  · obtain rfl : v = .slice (some a) len cap := by simpa using hcs
    by_cases h0 : len = 0
    · subst h0
      exact ⟨[], .inl ⟨rfl, _, _, rfl⟩⟩
    · have hm2 : m = cap := by rw [hmm]; rfl
      have each : ∀ i, i < len → ∃ p : List UInt8 × List UInt8, W.cell? (a.add (i * 2)) = some (.string ⟨p.1.toArray⟩) ∧ W.cell? (a.add (i * 2 + 1)) = some (.string ⟨p.2.toArray⟩) := by
        intro i hi
        obtain ⟨c0, c1, t0, t1⟩ := hc i (by omega)
        obtain ⟨s0, e0, _⟩ := DataW.trod_string Try.underlying9 t0
        obtain ⟨s1, e1, _⟩ := DataW.trod_string Try.underlying9 t1
        have e0' : V0 i = .string s0 := by simpa using e0
        have e1' : V1 i = .string s1 := by simpa using e1
        exact ⟨(s0.data.toList, s1.data.toList), by rw [c0, e0', str_selfV], by rw [c1, e1', str_selfV]⟩
      obtain ⟨f, hf⟩ := Deep.choose_lt each
      obtain ⟨b, o, sp⟩ := a
      have hsp : sp = none := spot_none (by simpa [Addr.add] using (hf 0 (by omega)).1) rfl
      subst hsp
      refine ⟨(List.range len).map f, .inr ⟨b, o, cap, by simp, fun j hj => ?_⟩⟩
      have hj2 : j < len := by simpa using hj
      obtain ⟨h1, h2⟩ := hf j hj2
      rw [addr_add] at h1 h2
      simp only [List.getElem_map, List.getElem_range]
      exact ⟨h1, by rw [Nat.add_assoc]; exact h2⟩
set_option maxRecDepth 100000 in
theorem marks_of {H : Type} {enc : TypeId × Value → H} {W : World} {fuel : Nat} {v : Value} {x : DataW H × List MemPlace} (h : DataW.trod enc Try.prog W 0 (fun _ => true) true fuel 25 [v] = some x) :
    ∃ xs : List MV, RowM W v xs ∧ OkM W xs := by
  rcases Deep.open_slice Try.underlying25 h with ⟨hcs, _⟩ | ⟨a, len, cap, m, n, D, Pl, hcs, hb, hl, hm, hmm, _, hx⟩
  · obtain rfl : v = .slice none 0 0 := by simpa using hcs
    exact ⟨[], .inl ⟨rfl, _, _, rfl⟩, fun x hx => by cases hx⟩
  · obtain rfl : v = .slice (some a) len cap := by simpa using hcs
    by_cases h0 : len = 0
    · subst h0
      exact ⟨[], .inl ⟨rfl, _, _, rfl⟩, fun x hx => by cases hx⟩
    · have hlm : len ≤ m := by rw [hmm]; split <;> omega
      have each : ∀ i, i < len → ∃ y : MV, (W.cell? (a.add (i * 3)) = some (.int .i64 y.id) ∧ W.cell? (a.add (i * 3 + 1)) = some (.string y.nm) ∧ W.cell? (a.add (i * 3 + 2)) = some y.av) ∧ IsQ W y.av y.aa := by
        intro i hi
        obtain ⟨cs', h1, h2⟩ := hx i (by omega)
        rw [show Try.prog.cellsOf 27 = 3 by kernel_rfl] at h1
        obtain ⟨_, hlen, hcell⟩ := World.cells?_some h1
        obtain ⟨xs, k, hk, hxy, _, hxl, hf⟩ := DataW.trod_struct Try.underlying27 h2
        match cs', hlen with
        | [v0, v1, v2], _ =>
          have g0 := hf 0 _ rfl
          have g1 := hf 1 _ rfl
          have g2 := hf 2 _ rfl
          have cI : Try.prog.cellsOf 3 = 1 := by kernel_rfl
          have cA : Try.prog.cellsOf 22 = 1 := by kernel_rfl
          have cT : Try.prog.cellsOf 9 = 1 := by kernel_rfl
          match xs, hxl with
          | [y0, y1, y2], _ =>
            have g0' : DataW.trod enc Try.prog W 0 (fun _ => true) true k 3 [v0] = some y0 := by simpa [cI, cA, cT] using g0
            have g1' : DataW.trod enc Try.prog W 0 (fun _ => true) true k 9 [v1] = some y1 := by simpa [cI, cA, cT] using g1
            have g2' : DataW.trod enc Try.prog W 0 (fun _ => true) true k 22 [v2] = some y2 := by simpa [cI, cA, cT] using g2
            obtain ⟨z0, e0, _⟩ := DataW.trod_int Try.underlying3 g0'
            obtain ⟨z1, e1, _⟩ := DataW.trod_string Try.underlying9 g1'
            obtain ⟨aa, hV⟩ := attrs_of g2'
            simp only [List.cons.injEq, and_true] at e0 e1
            subst e0 e1
            have f0 := hcell 0 (by omega)
            have f1 := hcell 1 (by omega)
            have f2 := hcell 2 (by omega)
            rw [add_add] at f0 f1 f2
            exact ⟨⟨z0, z1, aa, v2⟩, ⟨by rw [Nat.add_zero] at f0; exact f0, f1, f2⟩, hV⟩
      obtain ⟨f, hf⟩ := @Deep.choose_lt MV ⟨⟨0, ByteArray.empty, [], .bool false⟩⟩ _ _ each
      obtain ⟨b, o, sp⟩ := a
      have hsp : sp = none := spot_none (by simpa [Addr.add] using (hf 0 (by omega)).1.1) rfl
      subst hsp
      refine ⟨(List.range len).map f, .inr ⟨b, o, cap, by simp, by simpa using hl, fun j hj => ?_⟩, fun x hx => ?_⟩
      · have hj2 : j < len := by simpa using hj
        obtain ⟨⟨h1, h2, h3⟩, -⟩ := hf j hj2
        rw [addr_add] at h1 h2 h3
        simp only [List.getElem_map, List.getElem_range]
        exact ⟨h1, by rw [Nat.add_assoc]; exact h2, by rw [Nat.add_assoc]; exact h3⟩
      · obtain ⟨j, hj, rfl⟩ := List.mem_map.1 hx
        exact (hf j (List.mem_range.1 hj)).2
theorem ints_of {H : Type} {enc : TypeId × Value → H} {W : World} {fuel : Nat} {v : Value} {x : DataW H × List MemPlace} (h : DataW.trod enc Try.prog W 0 (fun _ => true) true fuel 37 [v] = some x) :
    ∃ xs : List Int, IsZ W v xs := by
  rcases Deep.open_slice Try.underlying37 h with ⟨hcs, _⟩ | ⟨a, len, cap, m, n, D, Pl, hcs, hb, hl, hm, hmm, _, hx⟩
  · obtain rfl : v = .slice none 0 0 := by simpa using hcs
    exact ⟨[], .inl ⟨rfl, _, _, rfl⟩⟩
  · obtain rfl : v = .slice (some a) len cap := by simpa using hcs
    by_cases h0 : len = 0
    · subst h0
      exact ⟨[], .inl ⟨rfl, _, _, rfl⟩⟩
    · have hlm : len ≤ m := by rw [hmm]; split <;> omega
      have each : ∀ i, i < len → ∃ y : Int, W.cell? (a.add i) = some (.int .i64 y) := by
        intro i hi
        obtain ⟨cs', h1, h2⟩ := hx i (by omega)
        rw [show Try.prog.cellsOf 3 = 1 by kernel_rfl] at h1
        obtain ⟨_, hlen, hcell⟩ := World.cells?_some h1
        match cs', hlen with
        | [v0], _ =>
          obtain ⟨z0, e0, _⟩ := DataW.trod_int Try.underlying3 h2
          simp only [List.cons.injEq, and_true] at e0
          subst e0
          have f0 := hcell 0 (by omega)
          rw [add_add, Nat.add_zero, Nat.mul_one] at f0
          exact ⟨z0, f0⟩
      obtain ⟨f, hf⟩ := Deep.choose_lt each
      obtain ⟨b, o, sp⟩ := a
      have hsp : sp = none := spot_none (by simpa [Addr.add] using hf 0 (by omega)) rfl
      subst hsp
      refine ⟨(List.range len).map f, .inr ⟨b, o, cap, by simp, fun j hj => ?_⟩⟩
      have hj2 : j < len := by simpa using hj
      have h1 := hf j hj2
      rw [addr_add] at h1
      simp only [List.getElem_map, List.getElem_range]
      exact h1
end Go.Proofs.Ytihpjalbdkiecaa
