/- What a disk of the program's writes to: a set of blocks; rows of bytes beside it. No function of the program in it. -/
import Derived.Test.YteacldkfdhhphaaMp14
import Derived.Test.YteacldkfdhhphaaDl14
import Derived.Test.YteacldkfdhhphaaDn14
set_option linter.unusedVariables false
set_option linter.unusedSimpArgs false
set_option maxRecDepth 4000
namespace Go.Proofs.Yteacldkfdhhphaa
open Go.RowKit

/-- Nothing is written but blocks of A and what is new. -/
structure ButA (A : Nat → Prop) (w w' : World) : Prop where
  os : w'.os = w.os
  tape : w'.tape = w.tape
  output : w'.output = w.output
  size : w.heap.size ≤ w'.heap.size
  block : ∀ k, k < w.heap.size → ¬ A k → w'.heap[k]? = w.heap[k]?
theorem ButA.refl (A : Nat → Prop) (w : World) : ButA A w w := ⟨rfl, rfl, rfl, Nat.le_refl _, fun _ _ _ => rfl⟩
theorem ButA.of {A : Nat → Prop} {w w' : World} (h : Below w.heap.size w w') : ButA A w w' := ⟨h.os, h.tape, h.output, h.size, fun k hk _ => h.block k hk⟩
theorem ButA.trans {A B : Nat → Prop} {w w1 w2 : World} (h : ButA A w w1) (k : ButA B w1 w2) (hB : ∀ j, j < w.heap.size → B j → A j) : ButA A w w2 :=
  ⟨k.os.trans h.os, k.tape.trans h.tape, k.output.trans h.output, Nat.le_trans h.size k.size, fun j hj hn => (k.block j (Nat.lt_of_lt_of_le hj h.size) (fun hb => hn (hB j hj hb))).trans (h.block j hj hn)⟩
theorem ButA.below {A : Nat → Prop} {n : Nat} {w w' : World} (h : ButA A w w') (hn : ∀ k, A k → n ≤ k) (hs : n ≤ w.heap.size) : Below n w w' := ⟨h.os, h.tape, h.output, h.size, fun k hk => h.block k (by omega) (fun ha => by have := hn k ha; omega)⟩
theorem ButA.setCell {A : Nat → Prop} {w w' : World} (h : ButA A w w') {a : Addr} (ha : A a.block ∨ w.heap.size ≤ a.block) (v : Value) : ButA A w (w'.setCell a v) :=
  ⟨h.os, h.tape, h.output, by have := h.size; simp [World.setCell]; omega, fun k hk hn => (Below.heap_setCell _ _ _ _ (fun e => by subst e; rcases ha with ha | ha; exact hn ha; omega)).trans (h.block k hk hn)⟩
theorem ButA.drew {A : Nat → Prop} {w w' : World} (h : ButA A w w') : ButA A w w'.drew := ⟨h.os, h.tape, h.output, h.size, h.block⟩
theorem ButA.mono {A B : Nat → Prop} {w w' : World} (h : ButA A w w') (hm : ∀ k, A k → B k) : ButA B w w' := ⟨h.os, h.tape, h.output, h.size, fun k hk hn => h.block k hk fun ha => hn (hm k ha)⟩
/-- A list's block is none of A. -/
def Off (A : Nat → Prop) (v : Value) : Prop := ∀ k, v.ownBlock = some k → ¬ A k
def Grew (A A' : Nat → Prop) (n : Nat) : Prop := ∀ k, A' k → A k ∨ n ≤ k
theorem Grew.refl (A : Nat → Prop) (n : Nat) : Grew A A n := fun k h => .inl h
theorem Grew.trans {A B C : Nat → Prop} {n m : Nat} (h : Grew A B n) (k : Grew B C m) (hm : n ≤ m) : Grew A C n := fun j hj => (k j hj).elim (fun hb => h j hb) (fun h2 => .inr (by omega))
theorem cell_blk {w W : World} {b : Nat} (h : W.heap[b]? = w.heap[b]?) (o : Nat) : W.cell? ⟨b, o, none⟩ = w.cell? ⟨b, o, none⟩ := by simp [World.cell?, h]
theorem frozen_blk {w W : World} {b : Nat} (h : W.heap[b]? = w.heap[b]?) (o : Nat) : W.frozen? ⟨b, o, none⟩ = w.frozen? ⟨b, o, none⟩ := by simp [World.frozen?, h]
theorem IsY.keep {w W : World} {v : Value} {l : Bs} (h : IsY w v l) (hk : ∀ k, v.ownBlock = some k → W.heap[k]? = w.heap[k]?) : IsY W v l := by
  rcases h with h | ⟨b, o, cap, rfl, hc, hh⟩
  · exact .inl h
  · exact .inr ⟨b, o, cap, rfl, hc, fun j hj => (cell_blk (hk b rfl) _).trans (hh j hj)⟩
theorem IsF.keep {w W : World} {v : Value} {l : List Bool} (h : IsF w v l) (hk : ∀ k, v.ownBlock = some k → W.heap[k]? = w.heap[k]?) : IsF W v l := by
  rcases h with h | ⟨b, o, cap, rfl, hh⟩
  · exact .inl h
  · exact .inr ⟨b, o, cap, rfl, fun j hj => (cell_blk (hk b rfl) _).trans (hh j hj)⟩
theorem IsW.butA {w W : World} {v : Value} {l : List Bs} {A : Nat → Prop} (h : IsW w v l) (hn : ∀ k, A k → NoStr w k) (hb : ButA A w W) : IsW W v l := by
  rcases h with h | ⟨b, o, cap, rfl, hh⟩
  · exact .inl h
  · refine .inr ⟨b, o, cap, rfl, fun j hj => ?_⟩
    have h1 := hh j hj
    exact (cell_blk (hb.block b (cell_lt h1) (fun ha => hn b ha _ _ h1)) _).trans h1
theorem IsP.butA {w W : World} {v : Value} {l : List (Nat × Bs)} {A : Nat → Prop} (h : IsP w v l) (hn : ∀ k, A k → NoStr w k) (hb : ButA A w W) : IsP W v l := by
  rcases h with h | ⟨b, o, cap, rfl, hh⟩
  · exact .inl h
  · refine .inr ⟨b, o, cap, rfl, fun j hj => ?_⟩
    obtain ⟨h1, h2⟩ := hh j hj
    have hk := hb.block b (cell_lt h2) (fun ha => hn b ha _ _ h2)
    exact ⟨(cell_blk hk _).trans h1, (cell_blk hk _).trans h2⟩
theorem IsD.butA {w W : World} {d : DV} {A : Nat → Prop} (h : IsD w d) (hn : ∀ k, A k → NoStr w k) (hb : ButA A w W) : IsD W d := ⟨h.s.butA hn hb, h.l.butA hn hb⟩
theorem read_len {d : DM} (hok : OkD d) (hs : d.safe.length ≤ 100000) (n : Int) : (readD d n).1.length ≤ 100000000 := by
  unfold readD
  split
  · split
    · decide
    · have h1 := read_64 (l := nowD d) (now_64 _ hok.safe hok.len) (n.toNat * 4) 4
      rw [show (nowD d).length = d.safe.length from nowL_len _ _] at h1
      show (((nowD d).drop (n.toNat * 4)).take 4).flatten.length ≤ _
      omega
  · decide
/-- A disk whose lists and numbers are not too great. -/
structure Fit (d : DM) : Prop where
  ok : OkD d
  s : d.safe.length ≤ 100000
  l : d.l.length ≤ 100000
  left : 0 ≤ d.left ∧ d.left ≤ 9223372036854775807
/-- A row of bytes in a block from B on that may be written. -/
def NewY (B : Nat) (w : World) (v : Value) (l : Bs) : Prop := (l = [] ∧ v = .slice none 0 0) ∨ ∃ b o cap, v = .slice (some ⟨b, o, none⟩) l.length cap ∧ B ≤ b ∧ b < w.heap.size ∧ l.length ≤ cap ∧ (∀ j (hj : j < l.length), w.cell? ⟨b, o + j, none⟩ = some (.int .u8 (l[j].toNat : Int))) ∧ ∀ j, j < l.length → w.frozen? ⟨b, o + j, none⟩ = false
theorem NewY.isY {B : Nat} {w : World} {v : Value} {l : Bs} (h : NewY B w v l) : IsY w v l := by
  rcases h with ⟨h, rfl⟩ | ⟨b, o, cap, rfl, _, _, hc, hh, _⟩
  · exact .inl ⟨h, _, _, rfl⟩
  · exact .inr ⟨b, o, cap, rfl, hc, hh⟩
theorem NewY.form {B : Nat} {w : World} {v : Value} {l : Bs} (h : NewY B w v l) : ∃ a c, v = .slice a l.length c := h.isY.form
theorem NewY.blk {B : Nat} {w : World} {v : Value} {l : Bs} (h : NewY B w v l) : ∀ k, v.ownBlock = some k → B ≤ k ∧ k < w.heap.size := by
  rcases h with ⟨h, rfl⟩ | ⟨b, o, cap, rfl, hb, hb2, _⟩
  · intro k hk; cases hk
  · intro k hk; cases hk; exact ⟨hb, hb2⟩
theorem NewY.keep {B : Nat} {w W : World} {v : Value} {l : Bs} (h : NewY B w v l) (hs : w.heap.size ≤ W.heap.size) (hk : ∀ k, v.ownBlock = some k → W.heap[k]? = w.heap[k]?) : NewY B W v l := by
  rcases h with h | ⟨b, o, cap, rfl, hb, hb2, hc, hh, hf⟩
  · exact .inl h
  · exact .inr ⟨b, o, cap, rfl, hb, by omega, hc, fun j hj => (cell_blk (hk b rfl) _).trans (hh j hj), fun j hj => (frozen_blk (hk b rfl) _).trans (hf j hj)⟩
theorem NewY.below {B : Nat} {w W : World} {v : Value} {l : Bs} (h : NewY B w v l) (hb : Below w.heap.size w W) : NewY B W v l := h.keep hb.size fun k hk => hb.block k (h.blk k hk).2
theorem NewY.base {B C : Nat} {w : World} {v : Value} {l : Bs} (h : NewY B w v l) (hc : C ≤ B) : NewY C w v l := by
  rcases h with h | ⟨b, o, cap, e, hb, r⟩
  · exact .inl h
  · exact .inr ⟨b, o, cap, e, by omega, r⟩
theorem NewY.at_ {B : Nat} {w : World} {a : Option Addr} {n c : Nat} {l : Bs} (h : NewY B w (.slice a n c) l) (i : Nat) (hi : i < l.length) (x : UInt8) :
    ∃ g o, a = some ⟨g, o, none⟩ ∧ n = l.length ∧ B ≤ g ∧ g < w.heap.size ∧ w.cell? ⟨g, o + i, none⟩ = some (.int .u8 (l[i].toNat : Int)) ∧ w.frozen? ⟨g, o + i, none⟩ = false ∧ NewY B (w.setCell ⟨g, o + i, none⟩ (.int .u8 (x.toNat : Int))) (.slice a n c) (l.set i x) := by
  rcases h with ⟨h, _⟩ | ⟨g, o, cap, e, hb, hb2, hc, hh, hf⟩
  · subst h; simp at hi
  · injection e with e1 e2 e3
    subst e1 e2 e3
    refine ⟨g, o, rfl, rfl, hb, hb2, hh i hi, hf i hi, .inr ⟨g, o, c, by simp, hb, by simpa [World.setCell] using hb2, by simpa using hc, fun j hj => ?_, fun j hj => ?_⟩⟩
    · have hj2 : j < l.length := by simpa using hj
      have h1 := hh j hj2
      have h2 := hh i hi
      by_cases hij : i = j
      · subst hij
        rw [List.getElem_set_self]
        exact World.cell?_setCell_same _ _ _ h2
      · rw [List.getElem_set_ne hij]
        exact (World.cell?_setCell_other _ _ _ _ (by intro e; injection e; omega)).trans h1
    · have hj2 : j < l.length := by simpa using hj
      rw [World.frozen?_setCell]; exact hf j hj2
theorem owns_newY {w : World} {B : Nat} {v : Value} {l : Bs} (h : w.ownsRow B 5 1 v l.length (bytesV l)) : NewY B w v l := by
  rcases h.2 with ⟨rfl, h0⟩ | ⟨g, cap, cur, rfl, hb, hg, hn, hm, hs, ht⟩
  · exact .inl ⟨List.eq_nil_of_length_eq_zero h0, rfl⟩
  · exact .inr ⟨g, 0, cap, rfl, hb, (Array.getElem?_eq_some_iff.1 hg).1, hn, own_cells h, fun j hj => by rw [Nat.zero_add]; exact h.frozenAt j⟩
end Go.Proofs.Yteacldkfdhhphaa
