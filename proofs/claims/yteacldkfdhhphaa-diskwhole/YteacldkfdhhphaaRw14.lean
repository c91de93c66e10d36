/- How a script of acts on a disk comes in: from the row's reading to what the walks ask. -/
import Derived.Test.YteacldkfdhhphaaDh14
import Derived.Deep.SlicePairs
import Derived.Deep.Slices
import Derived.ProofKit
import Derived.OpenShut
set_option linter.unusedVariables false
set_option linter.unusedSimpArgs false
set_option maxRecDepth 100000
namespace Go.Proofs.Yteacldkfdhhphaa
open Go.RowKit Go.ChangeShapes Go.WideShapes Go.Deep

theorem wf_int {k : IntKind} {z : Int} (h : (Lit.int k z).wf = true) : k.min ≤ z ∧ z ≤ k.max := by
  unfold Lit.wf at h
  rw [Bool.and_eq_true] at h
  exact ⟨of_decide_eq_true h.1, of_decide_eq_true h.2⟩
theorem sub_none {W : World} {b o : Nat} {sp : Option Nat} {v : Value} (h : W.cell? ((⟨b, o, sp⟩ : Addr).add 0) = some v) (hv : v.oneCell' = true) : sp = none := by
  cases sp with
  | none => rfl
  | some z =>
    exfalso
    have h2 : W.cell? ⟨b, o, some z⟩ = some v := by simpa [Addr.add] using h
    unfold World.cell? at h2
    split at h2 <;> simp at h2
theorem bytes_in {H : Type} {enc : TypeId × Value → H} {W : World} {fuel : Nat} {v : Value} {x : DataW H × List MemPlace} (h : DataW.trod enc Try.prog W 0 (fun _ => true) true fuel 34 [v] = some x) :
    ∃ l : Bs, IsY W v l ∧ l.length ≤ 9223372036854775807 := by
  rcases Deep.open_slice Try.underlying34 h with ⟨hcs, _⟩ | ⟨a, len, cap, m, n, D, Pl, hcs, hb, hl, hm, hmm, _, hx⟩
  · obtain rfl : v = .slice none 0 0 := by simpa using hcs
    exact ⟨[], .inl ⟨rfl, _, _, rfl⟩, by decide⟩
  · obtain rfl : v = .slice (some a) len cap := by simpa using hcs
    by_cases h0 : len = 0
    · subst h0
      exact ⟨[], .inl ⟨rfl, _, _, rfl⟩, by decide⟩
    · have hlm : len ≤ m := by rw [hmm]; split <;> omega
      have each : ∀ i, i < len → ∃ y : UInt8, W.cell? (a.add i) = some (.int .u8 (y.toNat : Int)) := by
        intro i hi
        obtain ⟨cs', h1, h2⟩ := hx i (by omega)
        rw [show Try.prog.cellsOf 5 = 1 by kernel_rfl] at h1
        obtain ⟨_, hlen, hcell⟩ := World.cells?_some h1
        match cs', hlen with
        | [v0], _ =>
          obtain ⟨z, e, _, hw⟩ := DataW.trod_int Try.underlying5 h2
          simp only [List.cons.injEq, and_true] at e
          subst e
          have f0 := hcell 0 (by omega)
          rw [add_add, Nat.add_zero, Nat.mul_one] at f0
          have hz : 0 ≤ z ∧ z < 256 := by
            have hh := wf_int hw
            rw [show IntKind.u8.min = 0 from rfl, show IntKind.u8.max = 255 from rfl] at hh
            omega
          refine ⟨UInt8.ofNat z.toNat, ?_⟩
          rw [f0]
          simp
          omega
      obtain ⟨f, hf⟩ := @Deep.choose_lt UInt8 ⟨0⟩ _ _ each
      obtain ⟨b, o, sp⟩ := a
      have hsp : sp = none := sub_none (hf 0 (by omega)) rfl
      subst hsp
      refine ⟨(List.range len).map f, .inr ⟨b, o, cap, by simp, by simpa using hl, fun j hj => ?_⟩, by simp; unfold maxLen at hm; omega⟩
      have hj2 : j < len := by simpa using hj
      have h1 := hf j hj2
      rw [addr_addo] at h1
      simp only [List.getElem_map, List.getElem_range]
      exact h1
theorem bools_in {H : Type} {enc : TypeId × Value → H} {W : World} {fuel : Nat} {v : Value} {x : DataW H × List MemPlace} (h : DataW.trod enc Try.prog W 0 (fun _ => true) true fuel 35 [v] = some x) :
    ∃ l : List Bool, IsF W v l ∧ l.length ≤ 9223372036854775807 := by
  rcases Deep.open_slice Try.underlying35 h with ⟨hcs, _⟩ | ⟨a, len, cap, m, n, D, Pl, hcs, hb, hl, hm, hmm, _, hx⟩
  · obtain rfl : v = .slice none 0 0 := by simpa using hcs
    exact ⟨[], .inl ⟨rfl, _, _, rfl⟩, by decide⟩
  · obtain rfl : v = .slice (some a) len cap := by simpa using hcs
    by_cases h0 : len = 0
    · subst h0
      exact ⟨[], .inl ⟨rfl, _, _, rfl⟩, by decide⟩
    · have hlm : len ≤ m := by rw [hmm]; split <;> omega
      have each : ∀ i, i < len → ∃ y : Bool, W.cell? (a.add i) = some (.bool y) := by
        intro i hi
        obtain ⟨cs', h1, h2⟩ := hx i (by omega)
        rw [show Try.prog.cellsOf 4 = 1 by kernel_rfl] at h1
        obtain ⟨_, hlen, hcell⟩ := World.cells?_some h1
        match cs', hlen with
        | [v0], _ =>
          obtain ⟨z, e, _⟩ := DataW.trod_bool Try.underlying4 h2
          simp only [List.cons.injEq, and_true] at e
          subst e
          have f0 := hcell 0 (by omega)
          rw [add_add, Nat.add_zero, Nat.mul_one] at f0
          exact ⟨z, f0⟩
      obtain ⟨f, hf⟩ := @Deep.choose_lt Bool ⟨false⟩ _ _ each
      obtain ⟨b, o, sp⟩ := a
      have hsp : sp = none := sub_none (hf 0 (by omega)) rfl
      subst hsp
      refine ⟨(List.range len).map f, .inr ⟨b, o, cap, by simp, fun j hj => ?_⟩, by simp; unfold maxLen at hm; omega⟩
      have hj2 : j < len := by simpa using hj
      have h1 := hf j hj2
      rw [addr_addo] at h1
      simp only [List.getElem_map, List.getElem_range]
      exact h1
/-- An act, and where its bytes and its bools lie. -/
structure AV where
  kind : Int
  n : Int
  b : Bs
  short : Bool
  keep : List Bool
  bv : Value
  kv : Value
/-- A script lies there. -/
def IsS (w : World) (v : Value) (l : List AV) : Prop := ((l = [] ∧ ∃ a c, v = .slice a 0 c) ∨ ∃ b o cap, v = .slice (some ⟨b, o, none⟩) l.length cap ∧ ∀ j (hj : j < l.length), w.cell? ⟨b, o + j * 5, none⟩ = some (.int .i64 l[j].kind) ∧ w.cell? ⟨b, o + j * 5 + 1, none⟩ = some (.int .i64 l[j].n) ∧ w.cell? ⟨b, o + j * 5 + 2, none⟩ = some l[j].bv ∧ w.cell? ⟨b, o + j * 5 + 3, none⟩ = some (.bool l[j].short) ∧ w.cell? ⟨b, o + j * 5 + 4, none⟩ = some l[j].kv) ∧ ∀ a ∈ l, IsY w a.bv a.b ∧ IsF w a.kv a.keep
structure OkA (a : AV) : Prop where
  n : -9223372036854775808 ≤ a.n ∧ a.n ≤ 9223372036854775807
  b : a.b.length ≤ 9223372036854775807
  k : a.keep.length ≤ 9223372036854775807
theorem script_in {H : Type} {enc : TypeId × Value → H} {W : World} {fuel : Nat} {v : Value} {x : DataW H × List MemPlace} (h : DataW.trod enc Try.prog W 0 (fun _ => true) true fuel 22 [v] = some x) :
    ∃ l : List AV, IsS W v l ∧ (∀ a ∈ l, OkA a) ∧ l.length ≤ 9223372036854775807 := by
  rcases Deep.open_slice Try.underlying22 h with ⟨hcs, _⟩ | ⟨a, len, cap, m, n, D, Pl, hcs, hb, hl, hm, hmm, _, hx⟩
  · obtain rfl : v = .slice none 0 0 := by simpa using hcs
    exact ⟨[], ⟨.inl ⟨rfl, _, _, rfl⟩, fun x hx => by cases hx⟩, fun x hx => (by cases hx), by decide⟩
  · obtain rfl : v = .slice (some a) len cap := by simpa using hcs
    by_cases h0 : len = 0
    · subst h0
      exact ⟨[], ⟨.inl ⟨rfl, _, _, rfl⟩, fun x hx => by cases hx⟩, fun x hx => (by cases hx), by decide⟩
    · have hlm : len ≤ m := by rw [hmm]; split <;> omega
      have each : ∀ i, i < len → ∃ y : AV, (W.cell? (a.add (i * 5)) = some (.int .i64 y.kind) ∧ W.cell? (a.add (i * 5 + 1)) = some (.int .i64 y.n) ∧ W.cell? (a.add (i * 5 + 2)) = some y.bv ∧ W.cell? (a.add (i * 5 + 3)) = some (.bool y.short) ∧ W.cell? (a.add (i * 5 + 4)) = some y.kv) ∧ (IsY W y.bv y.b ∧ IsF W y.kv y.keep) ∧ OkA y := by
        intro i hi
        obtain ⟨cs', h1, h2⟩ := hx i (by omega)
        rw [show Try.prog.cellsOf 37 = 5 by kernel_rfl] at h1
        obtain ⟨_, hlen, hcell⟩ := World.cells?_some h1
        obtain ⟨xs, k, hk, hxy, _, hxl, hf⟩ := DataW.trod_struct Try.underlying37 h2
        match cs', hlen with
        | [v0, v1, v2, v3, v4], _ =>
          have g0 := hf 0 _ rfl
          have g1 := hf 1 _ rfl
          have g2 := hf 2 _ rfl
          have g3 := hf 3 _ rfl
          have g4 := hf 4 _ rfl
          have cI : Try.prog.cellsOf 3 = 1 := by kernel_rfl
          have cB : Try.prog.cellsOf 34 = 1 := by kernel_rfl
          have cO : Try.prog.cellsOf 4 = 1 := by kernel_rfl
          have cF : Try.prog.cellsOf 35 = 1 := by kernel_rfl
          match xs, hxl with
          | [y0, y1, y2, y3, y4], _ =>
            have g0' : DataW.trod enc Try.prog W 0 (fun _ => true) true k 3 [v0] = some y0 := by simpa [cI] using g0
            have g1' : DataW.trod enc Try.prog W 0 (fun _ => true) true k 3 [v1] = some y1 := by simpa [cI] using g1
            have g2' : DataW.trod enc Try.prog W 0 (fun _ => true) true k 34 [v2] = some y2 := by simpa [cB] using g2
            have g3' : DataW.trod enc Try.prog W 0 (fun _ => true) true k 4 [v3] = some y3 := by simpa [cO] using g3
            have g4' : DataW.trod enc Try.prog W 0 (fun _ => true) true k 35 [v4] = some y4 := by simpa [cF] using g4
            obtain ⟨z0, e0, _, w0⟩ := DataW.trod_int Try.underlying3 g0'
            obtain ⟨z1, e1, _, w1⟩ := DataW.trod_int Try.underlying3 g1'
            obtain ⟨z3, e3, _⟩ := DataW.trod_bool Try.underlying4 g3'
            obtain ⟨bs, hY, hYl⟩ := bytes_in g2'
            obtain ⟨fs, hF, hFl⟩ := bools_in g4'
            simp only [List.cons.injEq, and_true] at e0 e1 e3
            subst e0 e1 e3
            have f0 := hcell 0 (by omega)
            have f1 := hcell 1 (by omega)
            have f2 := hcell 2 (by omega)
            have f3 := hcell 3 (by omega)
            have f4 := hcell 4 (by omega)
            rw [add_add] at f0 f1 f2 f3 f4
            have hn : -9223372036854775808 ≤ z1 ∧ z1 ≤ 9223372036854775807 := by
              have hh := wf_int w1
              rw [show IntKind.i64.min = -9223372036854775808 from rfl, show IntKind.i64.max = 9223372036854775807 from rfl] at hh
              exact hh
            exact ⟨⟨z0, z1, bs, z3, fs, v2, v4⟩, ⟨by rw [Nat.add_zero] at f0; exact f0, f1, f2, f3, f4⟩, ⟨hY, hF⟩, ⟨hn, hYl, hFl⟩⟩
      obtain ⟨f, hf⟩ := @Deep.choose_lt AV ⟨⟨0, 0, [], false, [], .bool false, .bool false⟩⟩ _ _ each
      obtain ⟨b, o, sp⟩ := a
      have hsp : sp = none := by
        have h1 := (hf 0 (by omega)).1.1
        rw [Nat.zero_mul] at h1
        exact sub_none h1 rfl
      subst hsp
      refine ⟨(List.range len).map f, ⟨.inr ⟨b, o, cap, by simp, fun j hj => ?_⟩, fun x hx => ?_⟩, fun x hx => ?_, by simp; unfold maxLen at hm; omega⟩
      · have hj2 : j < len := by simpa using hj
        obtain ⟨⟨h1, h2, h3, h4, h5⟩, -⟩ := hf j hj2
        rw [addr_addo] at h1 h2 h3 h4 h5
        simp only [List.getElem_map, List.getElem_range]
        exact ⟨h1, by rw [Nat.add_assoc]; exact h2, by rw [Nat.add_assoc]; exact h3, by rw [Nat.add_assoc]; exact h4, by rw [Nat.add_assoc]; exact h5⟩
      · obtain ⟨j, hj, rfl⟩ := List.mem_map.1 hx
        exact (hf j (List.mem_range.1 hj)).2.1
      · obtain ⟨j, hj, rfl⟩ := List.mem_map.1 hx
        exact (hf j (List.mem_range.1 hj)).2.2
end Go.Proofs.Yteacldkfdhhphaa
