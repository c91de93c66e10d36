import Derived.Test.YthpepkfodcgbcaaWq24
import Derived.Test.YthpepkfodcgbcaaWq14
import Derived.Test.YthpepkfodcgbcaaWq15
import Derived.Test.YthpepkfodcgbcaaWq21
/- What the program's cells do: all of it. -/
/- What the statements' play does to a disk of the program's. -/
set_option linter.unusedVariables false
set_option linter.unusedSimpArgs false
set_option maxRecDepth 40000
namespace Go.Proofs.Ythpepkfodcgbcaa
open Go.RowKit

theorem IsK.below {A : Nat → Prop} {w x : World} {v : Value} {d : DM} (h : IsK A w v d) (hb : Below w.heap.size w x) : IsK A x v d := h.keep fun k hk => hb.block k (h.lt k hk)
theorem KR.of {A : Nat → Prop} {w w' : World} {v : Value} {d : DM} (h : IsK A w v d) (hb : Below w.heap.size w w') : KR IsK A w v d w' := ⟨A, h.below hb, Grew.refl _ _, ButA.of hb⟩
/-- Ahead of a call new blocks were laid. -/
theorem KR.after {A : Nat → Prop} {w w1 w' : World} {v : Value} {d : DM} (hb : Below w.heap.size w w1) (h : KR IsK A w1 v d w') : KR IsK A w v d w' := by
  obtain ⟨A', h1, h2, h3⟩ := h
  exact ⟨A', h1, fun k hk => (h2 k hk).elim .inl (fun h => .inr (Nat.le_trans hb.size h)), (ButA.of hb).trans h3 fun j _ h => h⟩
/-- While the bytes that were handed over, or told, are written over. -/
structure OverS (A : Nat → Prop) (w : World) (v : Value) (m : DM) (u : Value) (l : Bs) (x : World) : Prop where
  y : NewY w.heap.size x u l
  k : ∃ A', IsK A' x v m ∧ Grew A A' w.heap.size ∧ Off A' u
  b : ButA A w x
theorem OverS.done {A : Nat → Prop} {w x : World} {v u : Value} {m : DM} {l : Bs} (h : OverS A w v m u l x) : KR IsK A w v m x := by
  obtain ⟨A', h1, h2, h3⟩ := h.k
  exact ⟨A', h1, h2, h.b⟩
theorem OverS.step {A : Nat → Prop} {w x : World} {v : Value} {a : Option Addr} {n c : Nat} {m : DM} {l : Bs} (h : OverS A w v m (.slice a n c) l x) (i : Nat) (hi : i < l.length) (z : UInt8) :
    ∃ g o, a = some ⟨g, o, none⟩ ∧ (∃ old, x.cell? ⟨g, o + i, none⟩ = some old) ∧ x.frozen? ⟨g, o + i, none⟩ = false ∧ OverS A w v m (.slice a n c) (l.set i z) (x.setCell ⟨g, o + i, none⟩ (.int .u8 (z.toNat : Int))) := by
  obtain ⟨g, o, rfl, hn, hg, hg2, hc, hf, hy⟩ := h.y.at_ i hi z
  obtain ⟨A', h1, h2, h3⟩ := h.k
  refine ⟨g, o, rfl, ⟨_, hc⟩, hf, hy, ⟨A', h1.keep fun k hk => Below.heap_setCell _ _ _ _ (fun e => ?_), h2, h3⟩, h.b.setCell (.inr hg) _⟩
  subst e
  exact h3 _ rfl hk
theorem over_write {A : Nat → Prop} {w w1 w2 : World} {v u : Value} {m : DM} {l : Bs} (hA : ∀ k, A k → k < w.heap.size) (hb : Below w.heap.size w w1) (hy : NewY w.heap.size w1 u l) (h : KR IsK A w1 v m w2) : OverS A w v m u l w2 := by
  obtain ⟨A', h1, h2, h3⟩ := h
  have hk : ∀ k, u.ownBlock = some k → ¬ A k ∧ k < w1.heap.size := fun k hk => by
    obtain ⟨p1, p2⟩ := hy.blk k hk
    exact ⟨fun ha => by have := hA k ha; omega, p2⟩
  refine ⟨hy.keep h3.size fun k hkk => h3.block k (hk k hkk).2 (hk k hkk).1, ⟨A', h1, fun k hkk => (h2 k hkk).elim .inl (fun h => .inr (Nat.le_trans hb.size h)), fun k hkk ha => ?_⟩, (ButA.of hb).trans h3 fun j _ h => h⟩
  rcases h2 k ha with hh | hh
  · exact (hk k hkk).1 hh
  · have := (hk k hkk).2
    omega
theorem over_read {A : Nat → Prop} {w w1 : World} {v u : Value} {m : DM} {l : Bs} (hK : IsK A w v m) (hb : Below w.heap.size w w1) (hy : NewY w.heap.size w1 u l) : OverS A w v m u l w1 :=
  ⟨hy, ⟨A, hK.below hb, Grew.refl _ _, fun k hk ha => by have := (hy.blk k hk).1; have := hK.lt k ha; omega⟩, ButA.of hb⟩
/-- An act that may be asked about, and how it lies beside a disk. -/
structure ActK (A : Nat → Prop) (w : World) (a : AV) : Prop where
  y : IsY w a.bv a.b
  f : IsF w a.kv a.keep
  o : a.keep ≠ [] → Off A a.kv
  n : -9223372036854775808 ≤ a.n ∧ a.n ≤ 9223372036854775807
  b : a.b.length ≤ 300
  k : a.keep.length ≤ 300
end Go.Proofs.Ythpepkfodcgbcaa
