/- What a space of the program's writes to: a set of blocks. (Out of stage 14's text.) -/
import Derived.Test.YtkopfigagnagoaaSc18
set_option linter.unusedVariables false
set_option linter.unusedSimpArgs false
set_option maxRecDepth 4000
namespace Go.Proofs.Ytkopfigagnagoaa
open Go.RowKit

/-- Nothing is written but blocks of A and what is new. -/
structure ButA (A : Nat → Prop) (w w' : World) : Prop where
  os : w'.os = w.os
  tape : w'.tape = w.tape
  output : w'.output = w.output
  size : w.heap.size ≤ w'.heap.size
  block : ∀ k, k < w.heap.size → ¬ A k → w'.heap[k]? = w.heap[k]?
theorem ButA.refl (A : Nat → Prop) (w : World) : ButA A w w := ⟨rfl, rfl, rfl, Nat.le_refl _, fun _ _ _ => rfl⟩
theorem ButA.of {A : Nat → Prop} {w w' : World} (h : Below w.heap.size w w') : ButA A w w' := ⟨h.os, h.tape, h.output, h.size, fun k hk _ => h.block k hk⟩
theorem ButA.trans {A B : Nat → Prop} {w w1 w2 : World} (h : ButA A w w1) (k : ButA B w1 w2) (hB : ∀ j, j < w.heap.size → B j → A j) : ButA A w w2 :=
  ⟨k.os.trans h.os, k.tape.trans h.tape, k.output.trans h.output, Nat.le_trans h.size k.size, fun j hj hn => (k.block j (Nat.lt_of_lt_of_le hj h.size) (fun hb => hn (hB j hj hb))).trans (h.block j hj hn)⟩
theorem ButA.below {A : Nat → Prop} {n : Nat} {w w' : World} (h : ButA A w w') (hn : ∀ k, A k → n ≤ k) (hs : n ≤ w.heap.size) : Below n w w' := ⟨h.os, h.tape, h.output, h.size, fun k hk => h.block k (by omega) (fun ha => by have := hn k ha; omega)⟩
theorem ButA.setCell {A : Nat → Prop} {w w' : World} (h : ButA A w w') {a : Addr} (ha : A a.block ∨ w.heap.size ≤ a.block) (v : Value) : ButA A w (w'.setCell a v) :=
  ⟨h.os, h.tape, h.output, by have := h.size; simp [World.setCell]; omega, fun k hk hn => (Below.heap_setCell _ _ _ _ (fun e => by subst e; rcases ha with ha | ha; exact hn ha; omega)).trans (h.block k hk hn)⟩
theorem ButA.drew {A : Nat → Prop} {w w' : World} (h : ButA A w w') : ButA A w w'.drew := ⟨h.os, h.tape, h.output, h.size, h.block⟩
theorem ButA.mono {A B : Nat → Prop} {w w' : World} (h : ButA A w w') (hm : ∀ k, A k → B k) : ButA B w w' := ⟨h.os, h.tape, h.output, h.size, fun k hk hn => h.block k hk fun ha => hn (hm k ha)⟩
/-- A list's block is none of A. -/
def Off (A : Nat → Prop) (v : Value) : Prop := ∀ k, v.ownBlock = some k → ¬ A k
def Grew (A A' : Nat → Prop) (n : Nat) : Prop := ∀ k, A' k → A k ∨ n ≤ k
theorem Grew.refl (A : Nat → Prop) (n : Nat) : Grew A A n := fun k h => .inl h
theorem Grew.trans {A B C : Nat → Prop} {n m : Nat} (h : Grew A B n) (k : Grew B C m) (hm : n ≤ m) : Grew A C n := fun j hj => (k j hj).elim (fun hb => h j hb) (fun h2 => .inr (by omega))
theorem cell_blk {w W : World} {b : Nat} (h : W.heap[b]? = w.heap[b]?) (o : Nat) : W.cell? ⟨b, o, none⟩ = w.cell? ⟨b, o, none⟩ := by simp [World.cell?, h]
theorem frozen_blk {w W : World} {b : Nat} (h : W.heap[b]? = w.heap[b]?) (o : Nat) : W.frozen? ⟨b, o, none⟩ = w.frozen? ⟨b, o, none⟩ := by simp [World.frozen?, h]
/-- What a space's call leaves: the space, in blocks of its own. -/
def KR (IsK : (Nat → Prop) → World → Value → SL → Prop) (A : Nat → Prop) (w : World) (v : Value) (m : SL) (w' : World) : Prop := ∃ A', IsK A' w' v m ∧ Grew A A' w.heap.size ∧ ButA A w w'
end Go.Proofs.Ytkopfigagnagoaa
