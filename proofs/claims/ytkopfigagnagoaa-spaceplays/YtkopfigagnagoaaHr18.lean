/- What the numbers' methods answer. -/
import Derived.Test.YtkopfigagnagoaaHq18
import Derived.Deep.QuietTactic
import Derived.RegionTactic
set_option linter.unusedVariables false
set_option linter.unusedSimpArgs false
set_option maxRecDepth 4000
namespace Go.Proofs.Ytkopfigagnagoaa
open Go.RowKit

theorem ownsRow_keep {w W : World} {B n : Nat} {e : TypeId} {z : Nat} {v : Value} {xs : List Value} (h : w.ownsRow B e z v n xs) (hk : ∀ k, v.ownBlock = some k → W.heap[k]? = w.heap[k]?) : W.ownsRow B e z v n xs := by
  refine ⟨h.1, ?_⟩
  rcases h.2 with h2 | ⟨g, cap, cur, rfl, h2, h3, h4⟩
  · exact .inl h2
  · exact .inr ⟨g, cap, cur, rfl, h2, by rw [hk g rfl]; exact h3, h4⟩
/-- Nothing is written and nothing is new. -/
structure Still (w w' : World) : Prop where
  heap : w'.heap = w.heap
  os : w'.os = w.os
  tape : w'.tape = w.tape
  output : w'.output = w.output
theorem Still.refl (w : World) : Still w w := ⟨rfl, rfl, rfl, rfl⟩
theorem Still.trans {w w1 w2 : World} (h : Still w w1) (k : Still w1 w2) : Still w w2 := ⟨k.heap.trans h.heap, k.os.trans h.os, k.tape.trans h.tape, k.output.trans h.output⟩
theorem Still.drewN (w : World) (n : Nat) : Still w (w.drewN n) := ⟨rfl, rfl, rfl, rfl⟩
theorem Still.but {w w' : World} (h : Still w w') (A : Nat → Prop) : ButA A w w' := ⟨h.os, h.tape, h.output, by rw [h.heap]; exact Nat.le_refl _, fun k _ _ => by rw [h.heap]⟩
def own18 (v : Value) : Nat → Prop := fun k => v.ownBlock = some k
theorem NumS.still {w w' : World} {T0 : Value} {b : Nat} {v : Value} {l : List Nat} (h : NumS w T0 b v l) (k : Still w w') : NumS w' T0 b v l := by
  have hb : ∀ j : Nat, w'.heap[j]? = w.heap[j]? := fun j => by rw [k.heap]
  refine ⟨?_, ?_, ?_, ?_, ?_, h.apart, h.le⟩
  · rw [World.cell?_of_block (a := ⟨b, 0, none⟩) (hb b)]; exact h.cell0
  · rw [World.frozen?_of_block (a := ⟨b, 0, none⟩) (hb b)]; exact h.frozen0
  · rw [World.cell?_of_block (a := ⟨b, 1, none⟩) (hb b)]; exact h.cell
  · rw [World.frozen?_of_block (a := ⟨b, 1, none⟩) (hb b)]; exact h.frozen
  · exact ownsRow_keep h.row fun j _ => hb j
/-- A number of the row is written over. -/
theorem NumS.put {w : World} {T0 : Value} {b g n cap : Nat} {l : List Nat} (hn : l.length = n) (h : NumS w T0 b (.slice (some ⟨g, 0, none⟩) n cap) l) (i x : Nat) : NumS (w.setCell ⟨g, i, none⟩ (.int .i64 (x : Int))) T0 b (.slice (some ⟨g, 0, none⟩) n cap) (l.set i x) := by
  subst hn
  have hgb : g ≠ b := fun e => h.apart (by rw [e]; rfl)
  have hr := (h.row.stored i (.int .i64 (x : Int))).1
  rw [numsV_set] at hr
  refine ⟨?_, ?_, ?_, ?_, ?_, h.apart, ?_⟩
  · rw [World.cell?_setCell_other _ _ _ _ (by simp)]
    exact h.cell0
  · rw [World.frozen?_setCell]
    exact h.frozen0
  · rw [World.cell?_setCell_other _ _ _ _ (by simp)]
    exact h.cell
  · rw [World.frozen?_setCell]
    exact h.frozen
  · rw [List.length_set]
    exact hr
  · rw [List.length_set]
    exact h.le
theorem NumS.at_ {w : World} {T0 : Value} {b g cap : Nat} {l : List Nat} (h : NumS w T0 b (.slice (some ⟨g, 0, none⟩) l.length cap) l) (i : Nat) (hi : i < l.length) : w.cell? ⟨g, i, none⟩ = some (.int .i64 (atN l i : Int)) ∧ w.frozen? ⟨g, i, none⟩ = false :=
  ⟨(h.row.cellAt i (by omega)).trans (numsV_get l i hi), h.row.frozenAt i⟩
set_option maxHeartbeats 1000000 in
theorem nlen_any (a : Option Addr) (n c : Nat) (w : World) : Calls Try.prog 45 #[.slice a n c] w fun e w' => e = .returned (.int .i64 (n : Int)) ∧ w' = w := by
  go_enter Try.func45, Try.ntmps45
  go_wp2
  go_ret
  exact ⟨rfl, rfl⟩
set_option maxHeartbeats 2000000 in
theorem nless_any (T0 : Value) (b : Nat) (v : Value) (l : List Nat) (i j : Nat) (w : World) (h : NumS w T0 b v l) (hi : i < l.length) (hj : j < l.length) : Calls Try.prog 46 #[v, .int .i64 (i : Int), .int .i64 (j : Int)] w fun e w' => e = .returned (.bool (decide (atN l i < atN l j))) ∧ Still w w' := by
  obtain ⟨g, cap, rfl, _, _, hc⟩ := h.some_ (by omega)
  have hle := h.le
  have ci := (h.at_ i hi).1
  have cj := (h.at_ j hj).1
  clear h
  generalize atN l i = x at *
  generalize atN l j = y at *
  generalize l.length = n at *
  go_enter Try.func46, Try.ntmps46
  go_wp2
  go_quiet (fail)
  go_wp2
  go_ret
  exact ⟨rfl, Still.drewN _ _⟩
set_option maxHeartbeats 2000000 in
theorem nswap_any (T0 : Value) (b : Nat) (v : Value) (l : List Nat) (i j : Nat) (w : World) (h : NumS w T0 b v l) (hi : i < l.length) (hj : j < l.length) : Calls Try.prog 47 #[v, .int .i64 (i : Int), .int .i64 (j : Int)] w fun e w' => e = .returned (.tuple #[]) ∧ NumS w' T0 b v (swapL l i j) ∧ ButA (own18 v) w w' := by
  obtain ⟨g, cap, rfl, _, _, hc⟩ := h.some_ (by omega)
  have hle := h.le
  obtain ⟨ci, fi⟩ := h.at_ i hi
  obtain ⟨cj, fj⟩ := h.at_ j hj
  have HF : Hid (∀ W, Still ((w.setCell ⟨g, i, none⟩ (.int .i64 (atN l j : Int))).setCell ⟨g, j, none⟩ (.int .i64 (atN l i : Int))) W → NumS W T0 b (.slice (some ⟨g, 0, none⟩) l.length cap) (swapL l i j) ∧ ButA (own18 (.slice (some ⟨g, 0, none⟩) l.length cap)) w W) := hide (fun W hW => by
    have hA : own18 (.slice (some ⟨g, 0, none⟩) l.length cap) g := rfl
    refine ⟨((NumS.put (by rw [List.length_set]) (NumS.put rfl h i (atN l j)) j (atN l i))).still hW, ?_⟩
    have h1 : ButA (own18 (.slice (some ⟨g, 0, none⟩) l.length cap)) w ((w.setCell ⟨g, i, none⟩ (.int .i64 (atN l j : Int))).setCell ⟨g, j, none⟩ (.int .i64 (atN l i : Int))) := ((ButA.refl _ w).setCell (a := ⟨g, i, none⟩) (.inl hA) _).setCell (a := ⟨g, j, none⟩) (.inl hA) _
    exact h1.trans (hW.but _) fun _ _ hb => hb)
  clear h
  generalize swapL l i j = l' at *
  generalize atN l i = x at *
  generalize atN l j = y at *
  generalize l.length = n at *
  obtain ⟨v', hy'⟩ := cell?_setCell_some (w := w) (p := ⟨g, i, none⟩) (x := .int .i64 (y : Int)) (q := ⟨g, j, none⟩) cj
  go_enter Try.func47, Try.ntmps47
  go_wp2
  go_region
  all_goals (try go_wp2)
  all_goals go_end0
  all_goals exact ⟨rfl, HF.out _ ⟨rfl, rfl, rfl, rfl⟩⟩
end Go.Proofs.Ytkopfigagnagoaa
