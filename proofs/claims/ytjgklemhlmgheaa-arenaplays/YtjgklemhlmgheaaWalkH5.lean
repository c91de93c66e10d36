/- What the document's own New answers; nothing that was there is written. -/
import Derived.Test.YtjgklemhlmgheaaWalkG5
set_option linter.unusedVariables false
set_option linter.unusedSimpArgs false
namespace Go.Proofs.Ytjgklemhlmgheaa
open Go.RowKit

set_option maxHeartbeats 1000000 in
theorem new_any (w : World) :
    Calls Try.prog 10 #[] w fun e w' => (∃ v', IsTB (fun k => w.heap.size ≤ k) w' v' newL ∧ (∃ a m c, v' = .slice a m c) ∧ e = .returned (.agg #[v'])) ∧ Below w.heap.size w w' := by
  go_enter Try.func10, Try.ntmps10
  go_wp2
  have b0 := below_alloc w (.cells #[.slice (some ⟨w.heap.size + 1, 0, none⟩) 1 1] 27)
  have hb := b0.alloc b0.size (.cells #[.int .i64 0, .int .i64 0, .string ⟨#[]⟩, .slice none 0 0, .string ⟨#[]⟩, .slice none 0 0, .slice none 0 0] 71)
  refine bodyPost_ret (v := .agg #[.slice (some ⟨w.heap.size + 1, 0, none⟩) 1 1]) ?_ rfl ⟨⟨_, ⟨w.heap.size + 1, 0, 1, [(({}, []), .slice none 0 0, .slice none 0 0)], rfl, by simp [newL], rfl, by simp, ?_, ?_⟩, ⟨_, _, _, rfl⟩, rfl⟩, hb⟩
  · rw [results_cell_one rfl]
    go_simp
  · intro p hp
    obtain rfl : p = (({}, []), .slice none 0 0, .slice none 0 0) := by simpa using hp
    exact ⟨⟨.inl ⟨rfl, rfl⟩, .inl rfl⟩, ⟨isI_nil _, .inl rfl⟩⟩
  · intro j u hu
    rw [Nat.zero_add]
    have h := World.cell?_alloc_mark (w.alloc (.cells #[.slice (some ⟨w.heap.size + 1, 0, none⟩) 1 1] 27)) #[.int .i64 0, .int .i64 0, .string ⟨#[]⟩, .slice none 0 0, .string ⟨#[]⟩, .slice none 0 0, .slice none 0 0] 71 (0, 0) j
    rw [show (w.alloc (.cells #[.slice (some ⟨w.heap.size + 1, 0, none⟩) 1 1] 27)).heap.size = w.heap.size + 1 by simp] at h
    rw [h]
    simpa [rowCells, ivC, itC] using hu
end Go.Proofs.Ytjgklemhlmgheaa
