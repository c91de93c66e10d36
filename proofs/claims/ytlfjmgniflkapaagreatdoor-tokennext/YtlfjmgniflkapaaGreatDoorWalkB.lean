/- What the document's own Entries, Named and longest answer; nothing that was there is written. -/
import Derived.Test.YtlfjmgniflkapaaGreatDoorWalkA
set_option linter.unusedVariables false
set_option linter.unusedSimpArgs false
namespace Go.Proofs.YtlfjmgniflkapaaGreatDoor
open Go.RowKit

def cellsE (l : List (List UInt8 × Nat × Bool)) : List Value := l.flatMap fun e => [.string ⟨e.1.toArray⟩, .int .i64 (e.2.1 : Int), .bool e.2.2]
theorem cellsE_at : ∀ (l : List (List UInt8 × Nat × Bool)) (j : Nat) (hj : j < l.length), (cellsE l)[j * 3]? = some (.string ⟨(l[j]).1.toArray⟩) ∧ (cellsE l)[j * 3 + 1]? = some (.int .i64 ((l[j]).2.1 : Int)) ∧ (cellsE l)[j * 3 + 2]? = some (.bool (l[j]).2.2)
  | e :: r, 0, hj => ⟨rfl, rfl, rfl⟩
  | e :: r, j + 1, hj => by
    have h := cellsE_at r j (by simpa using hj)
    have e0 : cellsE (e :: r) = .string ⟨e.1.toArray⟩ :: .int .i64 (e.2.1 : Int) :: .bool e.2.2 :: cellsE r := rfl
    rw [e0, show (j + 1) * 3 = j * 3 + 1 + 1 + 1 by omega]
    simp only [List.getElem?_cons_succ, List.getElem_cons_succ]
    exact h
/-- The entries, laid out. -/
def IsE (w : World) (b : Nat) : Prop := ∀ j (hj : j < entriesE.length), w.cell? ⟨b, j * 3, none⟩ = some (.string ⟨(entriesE[j]).1.toArray⟩) ∧ w.cell? ⟨b, j * 3 + 1, none⟩ = some (.int .i64 ((entriesE[j]).2.1 : Int)) ∧ w.cell? ⟨b, j * 3 + 2, none⟩ = some (.bool (entriesE[j]).2.2)
theorem isE_new (w : World) : IsE (w.alloc (.cells (cellsE entriesE).toArray 93)) w.heap.size := by
  intro j hj
  obtain ⟨h1, h2, h3⟩ := cellsE_at entriesE j hj
  rw [World.cell?_alloc_mark, World.cell?_alloc_mark, World.cell?_alloc_mark, List.getElem?_toArray, List.getElem?_toArray, List.getElem?_toArray]
  exact ⟨h1, h2, h3⟩
theorem IsE.below {w W : World} {b : Nat} (h : IsE w b) (hb : Below w.heap.size w W) : IsE W b := by
  intro j hj
  obtain ⟨h1, h2, h3⟩ := h j hj
  rw [hb.cell (cell_lt h1), hb.cell (cell_lt h2), hb.cell (cell_lt h3)]
  exact ⟨h1, h2, h3⟩

def partsE : Nat → List (List UInt8 × Nat × Bool) → List (Nat × Value)
  | _, [] => []
  | i, e :: r => (i, .agg #[.string ⟨e.1.toArray⟩, .int .i64 (e.2.1 : Int), .bool e.2.2]) :: partsE (i + 1) r
theorem ent_run (w : World) : (Instr.buildSlice 90 45 (partsE 0 entriesE).toArray).run Tryz.prog w = .ok (.slice (some ⟨w.heap.size, 0, none⟩) 45 45) (w.alloc (.cells (cellsE entriesE).toArray 93)) := by kernel_rfl

set_option maxHeartbeats 2000000 in
theorem entries_any (w : World) :
    Calls Tryz.prog 77 #[] w fun e w' => (∃ b, e = .returned (.slice (some ⟨b, 0, none⟩) 45 45) ∧ IsE w' b) ∧ Below w.heap.size w w' := by
  have h := isE_new w
  have hb := below_alloc w (.cells (cellsE entriesE).toArray 93)
  have hr := ent_run w
  generalize w.alloc (.cells (cellsE entriesE).toArray 93) = W at *
  have H := hide h
  have HR := hide hr
  clear h hr
  go_enter Tryz.func77, Tryz.ntmps77
  go_wp2_with (with_reducible refine wpList_build_run rfl 90 45 _ rfl (partsE 0 entriesE) ?_ _ W HR.out ?_)
  · rfl
  go_ret
  exact ⟨⟨_, rfl, H.out⟩, hb⟩
end Go.Proofs.YtlfjmgniflkapaaGreatDoor
