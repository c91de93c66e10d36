import Derived.Test.YtpppdfjdngmaoaaGreatDoorKh09
import Derived.Deep.SlicePairs
import Derived.Deep.Slices
import Derived.Lib.SmallJoins
import Derived.ProofKit
set_option linter.unusedVariables false
set_option linter.unusedSimpArgs false
set_option maxRecDepth 100000
set_option maxHeartbeats 8000000
namespace Go.Proofs.YtpppdfjdngmaoaaGreatDoor.G5
open Go.RowKit Go.ChangeShapes Go.WideShapes Go.Deep
theorem str_selfV (s : ByteArray) : (⟨s.data.toList.toArray⟩ : ByteArray) = s := (str_of s _ rfl).symm
theorem addr_add8 (b o j : Nat) : (⟨b, o, none⟩ : Addr).add j = ⟨b, o + j, none⟩ := by
  unfold Addr.add
  split
  · next h => simp_all
  · rfl
theorem spot_none {W : World} {b o : Nat} {sp : Option Nat} {v : Value} (h : W.cell? ⟨b, o, sp⟩ = some v) (hv : v.oneCell' = true) : sp = none := by
  cases sp with
  | none => rfl
  | some z =>
    exfalso
    unfold World.cell? at h
    split at h <;> simp at h
theorem attrs_in {H : Type} {enc : TypeId × Value → H} {W : World} {fuel : Nat} {v : Value} {x : DataW H × List MemPlace} (h : DataW.trod enc Tryz.prog W 0 (fun _ => true) true fuel 44 [v] = some x) :
    ∃ aa : AttrL, IsAB (fun k => k < W.heap.size) W v aa ∧ aa.length ≤ 9223372036854775807 := by
  rcases Deep.open_slice_pairs Tryz.underlying44 Tryz.underlying66 (by kernel_rfl) rfl rfl (by kernel_rfl) (by kernel_rfl) h with ⟨hcs, _⟩ | ⟨a, len, cap, m, n, V0, V1, D0, D1, P0, P1, hcs, _, hl, hm, hmm, _, hc⟩
  · obtain rfl : v = .slice none 0 0 := by simpa using hcs
    exact ⟨[], ⟨.inl ⟨⟨_, _, rfl⟩, rfl⟩, .inl rfl⟩, Nat.zero_le _⟩
  · obtain rfl : v = .slice (some a) len cap := by simpa using hcs
    by_cases h0 : len = 0
    · subst h0
      exact ⟨[], ⟨.inl ⟨⟨_, _, rfl⟩, rfl⟩, .inl rfl⟩, Nat.zero_le _⟩
    · have hm2 : m = cap := by rw [hmm]; rfl
      have each : ∀ i, i < len → ∃ p : List UInt8 × List UInt8, W.cell? (a.add (i * 2)) = some (.string ⟨p.1.toArray⟩) ∧ W.cell? (a.add (i * 2 + 1)) = some (.string ⟨p.2.toArray⟩) := by
        intro i hi
        obtain ⟨c0, c1, t0, t1⟩ := hc i (by omega)
        obtain ⟨s0, e0, _⟩ := DataW.trod_string Tryz.underlying9 t0
        obtain ⟨s1, e1, _⟩ := DataW.trod_string Tryz.underlying9 t1
        have e0' : V0 i = .string s0 := by simpa using e0
        have e1' : V1 i = .string s1 := by simpa using e1
        exact ⟨(s0.data.toList, s1.data.toList), by rw [c0, e0', str_selfV], by rw [c1, e1', str_selfV]⟩
      obtain ⟨f, hf⟩ := Deep.choose_lt each
      obtain ⟨b, o, sp⟩ := a
      have hsp : sp = none := spot_none (by simpa [Addr.add] using (hf 0 (by omega)).1) rfl
      subst hsp
      have hcell : ∀ j (hj : j < ((List.range len).map f).length), W.cell? ⟨b, o + j * 2, none⟩ = some (.string ⟨((List.range len).map f)[j].1.toArray⟩) ∧ W.cell? ⟨b, o + j * 2 + 1, none⟩ = some (.string ⟨((List.range len).map f)[j].2.toArray⟩) := by
        intro j hj
        have hj2 : j < len := by simpa using hj
        obtain ⟨h1, h2⟩ := hf j hj2
        rw [addr_add8] at h1 h2
        simp only [List.getElem_map, List.getElem_range]
        exact ⟨h1, by rw [Nat.add_assoc]; exact h2⟩
      refine ⟨(List.range len).map f, ⟨.inr ⟨b, o, cap, by simp, by simpa using hl, hcell⟩, .inr fun k e => ?_⟩, ?_⟩
      · have : b = k := by simpa [Value.ownBlock] using e
        rw [← this]
        exact cell_lt (hcell 0 (by simp; omega)).1
      · rw [List.length_map, List.length_range]
        unfold maxLen at hm
        omega
theorem nodes_in {H : Type} {enc : TypeId × Value → H} {W : World} : ∀ (m fuel : Nat) {v : Value} {x : DataW H × List MemPlace}, fuel ≤ 2 * m + 1 → DataW.trod enc Tryz.prog W 0 (fun _ => true) true fuel 22 [v] = some x →
    ∃ ts : List (NT m), IsK (fun k => k < W.heap.size) W ts v ∧ ts.length ≤ 9223372036854775807 ∧ OkTs ts := by
  intro m
  induction m with
  | zero =>
    intro fuel v x hfu h
    rcases DataW.trod_slice Tryz.underlying22 h with ⟨hcs, _⟩ | ⟨a, len, cap, elems, rest, n, hn, hcs, _, _, hl, hm, hlen, hel, _, _⟩
    · obtain rfl : v = .slice none 0 0 := by simpa using hcs
      exact ⟨[], .inl ⟨⟨_, _, rfl⟩, rfl⟩, Nat.zero_le _, fun x hx => absurd hx List.not_mem_nil⟩
    · obtain rfl : v = .slice (some a) len cap := by simpa using hcs
      by_cases h0 : len = 0
      · subst h0
        exact ⟨[], .inl ⟨⟨_, _, rfl⟩, rfl⟩, Nat.zero_le _, fun x hx => absurd hx List.not_mem_nil⟩
      · exfalso
        have h1 := hel 0 (by omega)
        rw [List.getElem?_eq_getElem (by omega)] at h1
        obtain ⟨cs', _, h2⟩ := Option.bind_eq_some_iff.1 h1
        obtain ⟨xs, k, hk, _⟩ := DataW.trod_struct Tryz.underlying46 h2
        omega
  | succ m ih =>
    intro fuel v x hfu h
    rcases DataW.trod_slice Tryz.underlying22 h with ⟨hcs, _⟩ | ⟨a, len, cap, elems, rest, n, hn, hcs, _, _, hl, hm, hlen, hel, _, _⟩
    · obtain rfl : v = .slice none 0 0 := by simpa using hcs
      exact ⟨[], .inl ⟨⟨_, _, rfl⟩, rfl⟩, Nat.zero_le _, fun x hx => absurd hx List.not_mem_nil⟩
    · obtain rfl : v = .slice (some a) len cap := by simpa using hcs
      by_cases h0 : len = 0
      · subst h0
        exact ⟨[], .inl ⟨⟨_, _, rfl⟩, rfl⟩, Nat.zero_le _, fun x hx => absurd hx List.not_mem_nil⟩
      · have each : ∀ i, i < len → ∃ y : NT (m + 1), (∃ vs : List Value, (∀ q, q < 6 → W.cell? (a.add (i * 6 + q)) = vs[q]?) ∧ IsN (fun k => k < W.heap.size) W y vs) ∧ OkT y := by
          intro i hi
          have h1 := hel i hi
          rw [List.getElem?_eq_getElem (by omega)] at h1
          obtain ⟨cs', h1, h2⟩ := Option.bind_eq_some_iff.1 h1
          rw [show Tryz.prog.cellsOf 46 = 6 by kernel_rfl] at h1
          obtain ⟨_, hlen2, hcell⟩ := World.cells?_some h1
          obtain ⟨xs, k, hk, hxy, _, hxl, hf⟩ := DataW.trod_struct Tryz.underlying46 h2
          match cs', hlen2 with
          | [v0, v1, v2, v3, v4, v5], _ =>
            have g0 := hf 0 _ rfl
            have g1 := hf 1 _ rfl
            have g2 := hf 2 _ rfl
            have g3 := hf 3 _ rfl
            have g4 := hf 4 _ rfl
            have g5 := hf 5 _ rfl
            have cK : Tryz.prog.cellsOf 43 = 1 := by kernel_rfl
            have cS : Tryz.prog.cellsOf 35 = 1 := by kernel_rfl
            have cA : Tryz.prog.cellsOf 44 = 1 := by kernel_rfl
            have cT : Tryz.prog.cellsOf 9 = 1 := by kernel_rfl
            have cN : Tryz.prog.cellsOf 22 = 1 := by kernel_rfl
            match xs, hxl with
            | [y0, y1, y2, y3, y4, y5], _ =>
              have g0' : DataW.trod enc Tryz.prog W 0 (fun _ => true) true k 43 [v0] = some y0 := by simpa [cK, cS, cA, cT, cN] using g0
              have g1' : DataW.trod enc Tryz.prog W 0 (fun _ => true) true k 35 [v1] = some y1 := by simpa [cK, cS, cA, cT, cN] using g1
              have g2' : DataW.trod enc Tryz.prog W 0 (fun _ => true) true k 9 [v2] = some y2 := by simpa [cK, cS, cA, cT, cN] using g2
              have g3' : DataW.trod enc Tryz.prog W 0 (fun _ => true) true k 44 [v3] = some y3 := by simpa [cK, cS, cA, cT, cN] using g3
              have g4' : DataW.trod enc Tryz.prog W 0 (fun _ => true) true k 9 [v4] = some y4 := by simpa [cK, cS, cA, cT, cN] using g4
              have g5' : DataW.trod enc Tryz.prog W 0 (fun _ => true) true k 22 [v5] = some y5 := by simpa [cK, cS, cA, cT, cN] using g5
              obtain ⟨z0, e0, _⟩ := DataW.trod_int Tryz.underlying43 g0'
              obtain ⟨z1, e1, _⟩ := DataW.trod_int Tryz.underlying35 g1'
              obtain ⟨z2, e2, _⟩ := DataW.trod_string Tryz.underlying9 g2'
              obtain ⟨aa, hV, hVl⟩ := attrs_in g3'
              obtain ⟨z4, e4, _⟩ := DataW.trod_string Tryz.underlying9 g4'
              obtain ⟨ks, hK, hKl, hKo⟩ := ih k (by omega) g5'
              simp only [List.cons.injEq, and_true] at e0 e1 e2 e4
              subst e0 e1 e2 e4
              refine ⟨.mk ⟨z0, z1, z2.data.toList, aa, z4.data.toList⟩ ks, ⟨[.int .i64 z0, .int .i64 z1, .string z2, v3, .string z4, v5], fun q hq => ?_, ?_⟩, ⟨hVl, hKl, hKo⟩⟩
              · have f := hcell q (by omega)
                rw [add_add] at f
                exact f
              · rw [isN_iff]
                refine ⟨v3, v5, ?_, hV, hK⟩
                unfold nodeC
                simp only [str_selfV]
        obtain ⟨f, hf⟩ := @Deep.choose_lt (NT (m + 1)) ⟨.mk {} []⟩ _ _ each
        obtain ⟨b, o, sp⟩ := a
        obtain ⟨vs0, c0, n0⟩ := (hf 0 (by omega)).1
        obtain ⟨q1, q2, q3, q4, q5, q6, q7, q8, q9, q10, rfl⟩ := n0.form
        have hc0 := c0 0 (by omega)
        have hsp : sp = none := spot_none (v := .int .i64 q1) (by simpa [Addr.add] using hc0) rfl
        subst hsp
        have hb : b < W.heap.size := by
          rw [addr_add8] at hc0
          exact cell_lt (v := .int .i64 q1) hc0
        refine ⟨(List.range len).map f, .inr ⟨b, o, cap, by simp, by simpa using hl, .inr hb, IsNs.of o _ fun j hj => ?_⟩, ?_, fun x hx => ?_⟩
        · have hj2 : j < len := by simpa using hj
          obtain ⟨vs, h1, h2⟩ := (hf j hj2).1
          refine ⟨vs, fun i hi => ?_, by simpa using h2⟩
          have := h1 i hi
          rw [addr_add8] at this
          rw [Nat.add_assoc]
          exact this
        · rw [List.length_map, List.length_range]
          unfold maxLen at hm
          omega
        · obtain ⟨j, hj, rfl⟩ := List.mem_map.1 hx
          exact (hf j (List.mem_range.1 hj)).2
end Go.Proofs.YtpppdfjdngmaoaaGreatDoor.G5
