/- How a cell, and a list of cells, come in: from the row's reading to what the walks ask. -/
import Derived.Test.YtbodbomebmkopaaRw15
import Derived.Test.YtbodbomebmkopaaCh16
import Derived.Lib.SmallJoins
set_option linter.unusedVariables false
set_option linter.unusedSimpArgs false
set_option maxRecDepth 100000
namespace Go.Proofs.Ytbodbomebmkopaa
open Go.RowKit Go.ChangeShapes Go.WideShapes Go.Deep Go.WideElems Go.Joins

theorem array5 {α : Type} {cs : Array α} (h : cs.size = 5) : ∃ c0 c1 c2 c3 c4, cs = #[c0, c1, c2, c3, c4] := by
  obtain ⟨l⟩ := cs
  match l, h with
  | [c0, c1, c2, c3, c4], _ => exact ⟨c0, c1, c2, c3, c4, rfl⟩
theorem trod_struct5 {H : Type} {enc : TypeId × Value → H} {P : Program} {w : World} {base : Nat} {spare : Nat → Bool} {held : Bool} {t : TypeId} {f0 f1 f2 f3 f4 : Field} {fuel : Nat} {cs : List Value} {x : DataW H × List MemPlace} (ht : P.underlying t = some (.struct #[f0, f1, f2, f3, f4])) (h : DataW.trod enc P w base spare held fuel t cs = some x) :
    ∃ y0 y1 y2 y3 y4 n, x = (.agg [y0.1, y1.1, y2.1, y3.1, y4.1], y0.2 ++ (y1.2 ++ (y2.2 ++ (y3.2 ++ y4.2)))) ∧ DataW.trod enc P w base spare held n f0.type ((cs.drop f0.offset).take (P.cellsOf f0.type)) = some y0 ∧
      DataW.trod enc P w base spare held n f1.type ((cs.drop f1.offset).take (P.cellsOf f1.type)) = some y1 ∧ DataW.trod enc P w base spare held n f2.type ((cs.drop f2.offset).take (P.cellsOf f2.type)) = some y2 ∧
      DataW.trod enc P w base spare held n f3.type ((cs.drop f3.offset).take (P.cellsOf f3.type)) = some y3 ∧ DataW.trod enc P w base spare held n f4.type ((cs.drop f4.offset).take (P.cellsOf f4.type)) = some y4 := by
  obtain ⟨xs, n, _, rfl, hl, hlen, hf⟩ := DataW.trod_struct ht h
  match xs, hlen with
  | [y0, y1, y2, y3, y4], _ => exact ⟨y0, y1, y2, y3, y4, n, by simp, by simpa using hf 0 f0 rfl, by simpa using hf 1 f1 rfl, by simpa using hf 2 f2 rfl, by simpa using hf 3 f3 rfl, by simpa using hf 4 f4 rfl⟩
theorem open_agg5 {H : Type} {enc : TypeId × Value → H} {P : Program} {w : World} {base : Nat} {spare : Nat → Bool} {held : Bool} {r : Reach} {b0 : Nat} {t : TypeId} {f0 f1 f2 f3 f4 : Field} {v : Value} {d : DataW H} {p : List MemPlace} (hs : P.underlying t = some (.struct #[f0, f1, f2, f3, f4])) (hone : Deep.oneCellFields P #[f0, f1, f2, f3, f4] = true) (hC : P.cellsOf t = 5)
    (hv : Value.okWide P w r b0 t v) (h : DataW.Trod enc P w base spare held t v d p) :
    ∃ (v0 v1 v2 v3 v4 : Value) (y0 y1 y2 y3 y4 : DataW H × List MemPlace) (n : Nat), v = .agg #[v0, v1, v2, v3, v4] ∧ d = .agg [y0.1, y1.1, y2.1, y3.1, y4.1] ∧ p = y0.2 ++ (y1.2 ++ (y2.2 ++ (y3.2 ++ y4.2))) ∧
      DataW.trod enc P w base spare held n f0.type [v0] = some y0 ∧ DataW.trod enc P w base spare held n f1.type [v1] = some y1 ∧ DataW.trod enc P w base spare held n f2.type [v2] = some y2 ∧ DataW.trod enc P w base spare held n f3.type [v3] = some y3 ∧ DataW.trod enc P w base spare held n f4.type [v4] = some y4 := by
  obtain ⟨cs, rfl, hsz⟩ := okWide_struct hs hv
  obtain ⟨c0, c1, c2, c3, c4, rfl⟩ := array5 (hsz.trans hC)
  obtain ⟨fuel, hf⟩ := h
  obtain ⟨y0, y1, y2, y3, y4, n, hx, h0, h1, h2, h3, h4⟩ := trod_struct5 hs hf
  obtain ⟨o0, k0⟩ := hone_of hone 0 f0 rfl
  obtain ⟨o1, k1⟩ := hone_of hone 1 f1 rfl
  obtain ⟨o2, k2⟩ := hone_of hone 2 f2 rfl
  obtain ⟨o3, k3⟩ := hone_of hone 3 f3 rfl
  obtain ⟨o4, k4⟩ := hone_of hone 4 f4 rfl
  simp only [Prod.mk.injEq] at hx
  exact ⟨c0, c1, c2, c3, c4, y0, y1, y2, y3, y4, n, rfl, hx.1, hx.2, by simpa [Value.cells, o0, k0] using h0, by simpa [Value.cells, o1, k1] using h1, by simpa [Value.cells, o2, k2] using h2, by simpa [Value.cells, o3, k3] using h3, by simpa [Value.cells, o4, k4] using h4⟩
theorem cell_in {H : Type} {enc : TypeId × Value → H} {W : World} {m : Nat} {c0 c1 c2 c3 c4 : Value} {y0 y1 y2 y3 y4 : DataW H × List MemPlace} (g0 : DataW.trod enc Try.prog W 0 (fun _ => true) true m 22 [c0] = some y0) (g1 : DataW.trod enc Try.prog W 0 (fun _ => true) true m 22 [c1] = some y1) (g2 : DataW.trod enc Try.prog W 0 (fun _ => true) true m 3 [c2] = some y2) (g3 : DataW.trod enc Try.prog W 0 (fun _ => true) true m 3 [c3] = some y3) (g4 : DataW.trod enc Try.prog W 0 (fun _ => true) true m 23 [c4] = some y4) :
    ∃ c : CL, c0 = .int .u64 (c.ep : Int) ∧ c1 = .int .u64 (c.li : Int) ∧ c2 = .int .i64 c.part ∧ c3 = .int .i64 c.of ∧ IsC W c c4 ∧ c.data.length ≤ 9223372036854775807 := by
  obtain ⟨z0, e0, _, w0⟩ := DataW.trod_int Try.underlying22 g0
  obtain ⟨z1, e1, _, w1⟩ := DataW.trod_int Try.underlying22 g1
  obtain ⟨z2, e2, _, w2⟩ := DataW.trod_int Try.underlying3 g2
  obtain ⟨z3, e3, _, w3⟩ := DataW.trod_int Try.underlying3 g3
  obtain ⟨bs, hY, hYl⟩ := bytes_in g4
  simp only [List.cons.injEq, and_true] at e0 e1 e2 e3
  subst e0 e1 e2 e3
  have h0 := wf_int w0
  have h1 := wf_int w1
  have h2 := wf_int w2
  have h3 := wf_int w3
  rw [show IntKind.u64.min = 0 from rfl, show IntKind.u64.max = 18446744073709551615 from rfl] at h0 h1
  rw [show IntKind.i64.min = -9223372036854775808 from rfl, show IntKind.i64.max = 9223372036854775807 from rfl] at h2 h3
  have e0 : ((z0.toNat : Nat) : Int) = z0 := by omega
  have e1 : ((z1.toNat : Nat) : Int) = z1 := by omega
  exact ⟨⟨z0.toNat, z1.toNat, z2, z3, bs⟩, by rw [e0], by rw [e1], rfl, rfl, ⟨by show z0.toNat < _; omega, by show z1.toNat < _; omega, h2, h3, hY⟩, hYl⟩
theorem cells_in {H : Type} {enc : TypeId × Value → H} {W : World} {fuel : Nat} {v : Value} {x : DataW H × List MemPlace} (h : DataW.trod enc Try.prog W 0 (fun _ => true) true fuel 36 [v] = some x) :
    ∃ l : List (CL × Value), IsL W v l ∧ l.length ≤ 9223372036854775807 := by
  rcases Deep.open_slice Try.underlying36 h with ⟨hcs, _⟩ | ⟨a, len, cap, m, n, D, Pl, hcs, hb, hl, hm, hmm, _, hx⟩
  · obtain rfl : v = .slice none 0 0 := by simpa using hcs
    exact ⟨[], ⟨.inl ⟨rfl, _, _, rfl⟩, fun x hx => by cases hx⟩, by decide⟩
  · obtain rfl : v = .slice (some a) len cap := by simpa using hcs
    by_cases h0 : len = 0
    · subst h0
      exact ⟨[], ⟨.inl ⟨rfl, _, _, rfl⟩, fun x hx => by cases hx⟩, by decide⟩
    · have hlm : len ≤ m := by rw [hmm]; split <;> omega
      have each : ∀ i, i < len → ∃ y : CL × Value, (W.cell? (a.add (i * 5)) = some (.int .u64 (y.1.ep : Int)) ∧ W.cell? (a.add (i * 5 + 1)) = some (.int .u64 (y.1.li : Int)) ∧ W.cell? (a.add (i * 5 + 2)) = some (.int .i64 y.1.part) ∧ W.cell? (a.add (i * 5 + 3)) = some (.int .i64 y.1.of) ∧ W.cell? (a.add (i * 5 + 4)) = some y.2) ∧ IsC W y.1 y.2 := by
        intro i hi
        obtain ⟨cs', h1, h2⟩ := hx i (by omega)
        rw [show Try.prog.cellsOf 25 = 5 by kernel_rfl] at h1
        obtain ⟨_, hlen, hcell⟩ := World.cells?_some h1
        obtain ⟨xs, k, hk, hxy, _, hxl, hf⟩ := DataW.trod_struct Try.underlying25 h2
        match cs', hlen with
        | [v0, v1, v2, v3, v4], _ =>
          have g0 := hf 0 _ rfl
          have g1 := hf 1 _ rfl
          have g2 := hf 2 _ rfl
          have g3 := hf 3 _ rfl
          have g4 := hf 4 _ rfl
          have cU : Try.prog.cellsOf 22 = 1 := by kernel_rfl
          have cI : Try.prog.cellsOf 3 = 1 := by kernel_rfl
          have cB : Try.prog.cellsOf 23 = 1 := by kernel_rfl
          match xs, hxl with
          | [y0, y1, y2, y3, y4], _ =>
            have g0' : DataW.trod enc Try.prog W 0 (fun _ => true) true k 22 [v0] = some y0 := by simpa [cU] using g0
            have g1' : DataW.trod enc Try.prog W 0 (fun _ => true) true k 22 [v1] = some y1 := by simpa [cU] using g1
            have g2' : DataW.trod enc Try.prog W 0 (fun _ => true) true k 3 [v2] = some y2 := by simpa [cI] using g2
            have g3' : DataW.trod enc Try.prog W 0 (fun _ => true) true k 3 [v3] = some y3 := by simpa [cI] using g3
            have g4' : DataW.trod enc Try.prog W 0 (fun _ => true) true k 23 [v4] = some y4 := by simpa [cB] using g4
            obtain ⟨c, rfl, rfl, rfl, rfl, hc, hcl⟩ := cell_in g0' g1' g2' g3' g4'
            have f0 := hcell 0 (by omega)
            have f1 := hcell 1 (by omega)
            have f2 := hcell 2 (by omega)
            have f3 := hcell 3 (by omega)
            have f4 := hcell 4 (by omega)
            rw [add_add] at f0 f1 f2 f3 f4
            exact ⟨(c, v4), ⟨by rw [Nat.add_zero] at f0; exact f0, f1, f2, f3, f4⟩, hc⟩
      obtain ⟨f, hf⟩ := @Deep.choose_lt (CL × Value) ⟨(⟨0, 0, 0, 0, []⟩, .bool false)⟩ _ _ each
      obtain ⟨b, o, sp⟩ := a
      have hsp : sp = none := by
        have h1 := (hf 0 (by omega)).1.1
        rw [Nat.zero_mul] at h1
        exact sub_none h1 rfl
      subst hsp
      refine ⟨(List.range len).map f, ⟨.inr ⟨b, o, cap, by simp, fun j hj => ?_⟩, fun x hx => ?_⟩, by simp; unfold maxLen at hm; omega⟩
      · have hj2 : j < len := by simpa using hj
        obtain ⟨⟨h1, h2, h3, h4, h5⟩, -⟩ := hf j hj2
        rw [addr_addo] at h1 h2 h3 h4 h5
        simp only [List.getElem_map, List.getElem_range]
        exact ⟨h1, by rw [Nat.add_assoc]; exact h2, by rw [Nat.add_assoc]; exact h3, by rw [Nat.add_assoc]; exact h4, by rw [Nat.add_assoc]; exact h5⟩
      · obtain ⟨j, hj, rfl⟩ := List.mem_map.1 hx
        exact (hf j (List.mem_range.1 hj)).2
end Go.Proofs.Ytbodbomebmkopaa
