/- The live question's answer is true. -/
import Derived.Test.YthoibenncjbkdaaDoorFr9
set_option linter.unusedVariables false
set_option linter.unusedSimpArgs false
set_option maxRecDepth 4000
namespace Go.Proofs.YthoibenncjbkdaaDoor
open Go.RowKit

def aliveN : List (S5.NT 2) := [.mk ⟨1, 0, [97], [([98], [34])], []⟩ [.mk ⟨2, 0, [], [], [60]⟩ []]]
theorem alive_print : printTs false aliveN = [60, 97, 32, 98, 61, 34, 38, 113, 117, 111, 116, 59, 34, 62, 38, 108, 116, 59, 60, 47, 97, 62] := by decide +kernel
theorem alive_size : sizeTs aliveN ≤ 1000000 := by decide +kernel
theorem alive_esc : escL false [34] = [34] := by decide +kernel
theorem old_heap (w : World) (o : Obj) (k : Nat) (h : k < w.heap.size) : (w.alloc o).heap[k]? = w.heap[k]? := (S5.below_alloc w o).block k h
abbrev cA : Array Value := #[.string ⟨#[98]⟩, .string ⟨#[34]⟩]
abbrev cK : Array Value := #[.int .i64 2, .int .i64 0, .string ⟨#[]⟩, .slice none 0 0, .string ⟨#[60]⟩, .slice none 0 0]
abbrev cL (n : Nat) : Array Value := #[.int .i64 1, .int .i64 0, .string ⟨#[97]⟩, .slice (some ⟨n, 0, none⟩) 1 1, .string ⟨#[]⟩, .slice (some ⟨n + 1, 0, none⟩) 1 1]
theorem alive_lies (w : World) : S5.IsK (fun k => k < w.heap.size + 3) (((w.alloc (.cells cA 27)).alloc (.cells cK 32)).alloc (.cells (cL w.heap.size) 32)) aliveN (.slice (some ⟨w.heap.size + 1 + 1, 0, none⟩) 1 1) := by
  generalize hW : (((w.alloc (.cells cA 27)).alloc (.cells cK 32)).alloc (.cells (cL w.heap.size) 32)) = W
  have h0 : W.heap[w.heap.size]? = some (.cells cA 27 (0, 0)) := by
    rw [← hW, old_heap _ _ _ (by simp; omega), old_heap _ _ _ (by simp), new_heap]
  have h1 : W.heap[w.heap.size + 1]? = some (.cells cK 32 (0, 0)) := by
    have := new_heap (w.alloc (.cells cA 27)) (.cells cK 32)
    rw [show (w.alloc (.cells cA 27)).heap.size = w.heap.size + 1 by simp] at this
    rw [← hW, old_heap _ _ _ (by simp), this]
  have h2 : W.heap[w.heap.size + 1 + 1]? = some (.cells (cL w.heap.size) 32 (0, 0)) := by
    have := new_heap ((w.alloc (.cells cA 27)).alloc (.cells cK 32)) (.cells (cL w.heap.size) 32)
    rw [show ((w.alloc (.cells cA 27)).alloc (.cells cK 32)).heap.size = w.heap.size + 1 + 1 by simp] at this
    rw [← hW, this]
  clear hW
  refine .inr ⟨_, 0, 1, rfl, Nat.le_refl _, .inr (by omega), ⟨⟨(cL w.heap.size).toList, fun i hi => ?_, ?_⟩, trivial⟩⟩
  · rw [Nat.zero_add, Lib.cell_of_heap h2]
    simp
  · refine ⟨.slice (some ⟨w.heap.size, 0, none⟩) 1 1, .slice (some ⟨w.heap.size + 1, 0, none⟩) 1 1, rfl, ⟨.inr ⟨_, 0, 1, rfl, Nat.le_refl _, fun j hj => ?_⟩, .inr fun k e => ?_⟩, .inr ⟨_, 0, 1, rfl, Nat.le_refl _, .inr (by omega), ⟨⟨cK.toList, fun i hi => ?_, ?_⟩, trivial⟩⟩⟩
    · have hj0 : j = 0 := by
        have : j < 1 := hj
        omega
      subst hj0
      exact ⟨by rw [Lib.cell_of_heap h0]; rfl, by rw [Lib.cell_of_heap h0]; rfl⟩
    · have : w.heap.size = k := by simpa [Value.ownBlock] using e
      omega
    · rw [Nat.zero_add, Lib.cell_of_heap h1]
      simp
    · exact ⟨.slice none 0 0, .slice none 0 0, rfl, ⟨.inl ⟨⟨_, _, rfl⟩, rfl⟩, .inl rfl⟩, .inl ⟨⟨_, _, rfl⟩, rfl⟩⟩
set_option maxHeartbeats 1000000 in
theorem alive_first (w : World) : Calls Tryd.prog 7 #[.slice (some ⟨w.heap.size + 1 + 1, 0, none⟩) 1 1] (((w.alloc (.cells cA 27)).alloc (.cells cK 32)).alloc (.cells (cL w.heap.size) 32)) fun e w' => e = .returned (.string ⟨#[60, 97, 32, 98, 61, 34, 38, 113, 117, 111, 116, 59, 34, 62, 38, 108, 116, 59, 60, 47, 97, 62]⟩) ∧ Below w.heap.size w w' := by
  refine (fragment_any aliveN _ _ _ (fun j hj => ?_) (alive_lies w) alive_size).mono ?_
  · simp
    omega
  · rintro e w' ⟨rfl, hb⟩
    rw [alive_print]
    exact ⟨rfl, ((((Below.refl _ w).alloc (Nat.le_refl _) _).alloc (by simp) _).alloc (by simp; omega) _).trans (hb.mono (by simp; omega))⟩
set_option maxHeartbeats 1000000 in
theorem alive_p (w : World) : Calls Tryd.prog 4 #[] w fun e w' => e = .returned (.bool true) ∧ Below w.heap.size w w' := by
  have H1 := hide (alive_first w)
  have H2 : Hid (∀ W : World, Calls Tryd.prog 5 #[.string ⟨#[34]⟩, .bool false] W fun e w' => e = .returned (.string ⟨#[34]⟩) ∧ Below W.heap.size W w') := hide fun W => by
    have := escape_any ⟨#[34]⟩ (by decide) false W
    rw [show (⟨#[34]⟩ : ByteArray).data.toList = [34] from rfl, alive_esc] at this
    exact this
  go_enter Tryd.func4, Tryd.ntmps4
  go_wp2_with fail
  refine H1.out.mono ?_
  rintro e w1 ⟨rfl, b1⟩
  go_wp2_with fail
  refine (H2.out _).mono ?_
  rintro e w2 ⟨rfl, b2⟩
  go_wp2
  go_ret
  exact ⟨rfl, b1.trans (b2.mono b1.size)⟩
end Go.Proofs.YthoibenncjbkdaaDoor
