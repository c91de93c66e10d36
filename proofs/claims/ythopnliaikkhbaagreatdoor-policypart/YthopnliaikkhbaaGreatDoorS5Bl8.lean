/- Attributes by the blocks that they lie in. No function of the program in it. -/
import Derived.Test.YthopnliaikkhbaaGreatDoorS5Low5
set_option linter.unusedVariables false
set_option linter.unusedSimpArgs false
set_option maxRecDepth 4000
namespace Go.Proofs.YthopnliaikkhbaaGreatDoor.S5
open Go.RowKit

def IsAB (B : Nat → Prop) (w : World) (v : Value) (aa : AttrL) : Prop := IsA w v aa ∧ (aa = [] ∨ ∀ k, v.ownBlock = some k → B k)
theorem cell_same {w W : World} {b o : Nat} {v : Value} (h : W.heap[b]? = w.heap[b]?) (hc : w.cell? ⟨b, o, none⟩ = some v) : W.cell? ⟨b, o, none⟩ = some v := by
  rw [World.cell?_of_block (a := ⟨b, o, none⟩) h]
  exact hc
theorem own_slice (b o n c : Nat) : (Value.slice (some ⟨b, o, none⟩) n c).ownBlock = some b := rfl
theorem IsAB.keep {B : Nat → Prop} {w W : World} {v : Value} {aa : AttrL} (h : IsAB B w v aa) (hk : ∀ k, B k → W.heap[k]? = w.heap[k]?) : IsAB B W v aa := by
  refine ⟨?_, h.2⟩
  rcases h.1 with h1 | ⟨b, o, cap, rfl, hc, hcs⟩
  · exact .inl h1
  · refine .inr ⟨b, o, cap, rfl, hc, fun j hj => ?_⟩
    rcases h.2 with rfl | hb
    · simp at hj
    · have := hk b (hb b (own_slice b o _ _))
      exact ⟨cell_same this (hcs j hj).1, cell_same this (hcs j hj).2⟩
theorem IsAB.below {B : Nat → Prop} {w W : World} {v : Value} {aa : AttrL} (h : IsAB B w v aa) (hb : Below w.heap.size w W) : IsAB B W v aa := ⟨h.1.below hb, h.2⟩
theorem IsAB.mono {B C : Nat → Prop} {w : World} {v : Value} {aa : AttrL} (h : IsAB B w v aa) (hm : ∀ k, B k → C k) : IsAB C w v aa := ⟨h.1, h.2.imp id fun f k hk => hm k (f k hk)⟩
end Go.Proofs.YthopnliaikkhbaaGreatDoor.S5
