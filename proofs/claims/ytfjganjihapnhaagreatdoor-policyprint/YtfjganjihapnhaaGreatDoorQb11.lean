/- What slices.Grow of nothing answers; appending nothing. -/
import Derived.Test.YtfjganjihapnhaaGreatDoorQa11
import Derived.Lib.AppendZerosOnto
import Derived.Lib.Walk
import Derived.Lib.SliceRun
set_option linter.unusedVariables false
set_option linter.unusedSimpArgs false
set_option maxRecDepth 100000
namespace Go.Proofs.YtfjganjihapnhaaGreatDoor
open Go.RowKit

theorem append_nothing (W : World) (g n cap : Nat) (a : Option Addr) (c : Nat) (h : n ≤ cap) (hm : cap ≤ maxLen) :
    (Builtin.append_ #[23, 23] 23 #[.slice (some ⟨g, 0, none⟩) n cap, .slice a 0 c]).run Tryz.prog W = .ok (.slice (some ⟨g, 0, none⟩) n cap) W := by
  simp [Builtin.append_, go_sem]
  rw [if_pos h]
  cases a <;> simp [go_sem, storeCells]
set_option maxHeartbeats 2000000 in
theorem grow_nil (n : Nat) (h1 : 1 ≤ n) (h2 : n ≤ 5000) (w : World) :
    Calls Tryz.prog 65 #[.slice none 0 0, .int .i64 n] w fun e w' => ∃ cap, e = .returned (.slice (some ⟨w.heap.size, 0, none⟩) 0 cap) ∧ w'.ownsRow w.heap.size 9 1 (.slice (some ⟨w.heap.size, 0, none⟩) 0 cap) 0 [] ∧ Below w.heap.size w w' := by
  have hrz : ∀ ty, (Builtin.append_ #[23, 3] ty #[.slice none 0 0, .int .i64 (n : Int)]).run Tryz.prog w = .ok (.slice (some ⟨w.heap.size, 0, none⟩) n (grownCap w n 0 9)) (w.drew.alloc (.cells ((#[] : Array Value) ++ Builtin.zeroCells (Value.string ⟨#[]⟩).cells n ++ Builtin.zeroCells (Value.string ⟨#[]⟩).cells (grownCap w n 0 9 - n)) 9)) := fun ty => by
    have h := Lib.run_append_grow_zeros (P := Tryz.prog) w 23 3 ty 9 Tryz.t9 (.string ⟨#[]⟩) .i64 .i64 Tryz.underlying23 Tryz.underlying3 (by kernel_rfl) (by kernel_rfl) none 0 0 [] (run_firstCells_none _ _ _ _ _) n (by omega) (by decide) (by omega) (by omega)
      (by show n * 16 ≤ _; omega) (by rw [Nat.zero_add]; exact growslice_fits (by omega) (by show n * 16 ≤ _; omega))
    rw [Nat.zero_add] at h
    exact h
  have hG := grownCap_ge w n 0 9
  have hM := grownCap_le_maxLen w n 0 9 (by unfold maxLen; omega)
  have hM2 : grownCap w n 0 9 ≤ 9223372036854775807 := by unfold maxLen at hM; omega
  generalize grownCap w n 0 9 = G at *
  have hcz : ((#[] : Array Value) ++ Builtin.zeroCells (Value.string ⟨#[]⟩).cells n ++ Builtin.zeroCells (Value.string ⟨#[]⟩).cells (G - n)).size = G := by
    simp [size_zeroCells, Value.cells]
    omega
  generalize ((#[] : Array Value) ++ Builtin.zeroCells (Value.string ⟨#[]⟩).cells n ++ Builtin.zeroCells (Value.string ⟨#[]⟩).cells (G - n)) = cur at *
  have HF : Hid ((w.drew.alloc (.cells cur 9)).ownsRow w.heap.size 9 1 (.slice (some ⟨w.heap.size, 0, none⟩) 0 G) 0 []) :=
    hide ⟨rfl, .inr ⟨w.heap.size, G, cur, rfl, Nat.le_refl _, by show (Array.push w.heap _)[w.heap.size]? = _; simp, Nat.zero_le _, hM, by omega, by simp⟩⟩
  have hb : Below w.heap.size w (w.drew.alloc (.cells cur 9)) := (Below.refl _ w).drew.alloc (Nat.le_refl _) _
  have HB := hide hb
  clear hb hcz
  have g1 : ¬ ((n : Int) < 0) := by omega
  have g2 : (0 : Int) < n := by omega
  have g3 : wrap64 ((n : Int) - 0) = n := by unfold wrap64; omega
  go_enter Tryz.func65, Tryz.ntmps65
  go_wp2_with (at_builtin; refine Lib.wpList_append_run _ rfl _ _ _ _ rfl _ _ rfl rfl _ _ (hrz _) ?_)
  all_goals (go_ret; exact ⟨G, rfl, HF.out, HB.out⟩)
end Go.Proofs.YtfjganjihapnhaaGreatDoor
