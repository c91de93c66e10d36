/- What the document's own names and Is answer, of whatever set and name; nothing that was there is written. -/
import Derived.Test.YtfjganjihapnhabGreatDoorWalkH
set_option linter.unusedVariables false
set_option linter.unusedSimpArgs false
set_option maxRecDepth 4000
namespace Go.Proofs.YtfjganjihapnhabGreatDoor
open Go.RowKit

theorem ne_int (k j : Int) (h : k ≠ j) : (k == j) = false := beq_eq_false_iff_ne.2 h

/-- A list of texts, laid out. -/
def IsS (w : World) (v : Value) (l : List (List UInt8)) : Prop := ∃ b cap, v = .slice (some ⟨b, 0, none⟩) l.length cap ∧ ∀ j (hj : j < l.length), w.cell? ⟨b, j, none⟩ = some (.string ⟨(l[j]).toArray⟩)
theorem isS_built (w : World) (l : List (List UInt8)) : IsS (w.alloc (.cells (cellsOf l) 9)) (.slice (some ⟨w.heap.size, 0, none⟩) l.length l.length) l := ⟨_, _, rfl, built_cell w l⟩
def inAny (l : List (List UInt8)) (n : List UInt8) : Bool := l.any fun t => amongL (piecesL [] t) n
theorem inAny_step (l : List (List UInt8)) (n : List UInt8) (k : Nat) (h : k < l.length) : inAny (l.drop k) n = (amongL (piecesL [] l[k]) n || inAny (l.drop (k + 1)) n) := by
  rw [List.drop_eq_getElem_cons h]; rfl
theorem inAny_end (l : List (List UInt8)) (n : List UInt8) (k : Nat) (h : l.length ≤ k) : inAny (l.drop k) n = false := by
  rw [List.drop_eq_nil_of_le h]; rfl

theorem inAny_1 (n : List UInt8) : inAny [voidT] n = isL 1 n := by
  rw [is_1]
  have h : inAny [voidT] n = (amongL (piecesL [] voidT) n) := any_one (fun t => amongL (piecesL [] t) n) voidT
  rw [h, void_pieces]
theorem len_1 : ∀ j (hj : j < ([voidT] : List (List UInt8)).length), (([voidT] : List (List UInt8))[j]).length ≤ 1000 := by
  intro j hj
  have h : ([voidT] : List (List UInt8)).all (fun t => decide (t.length ≤ 1000)) = true := by decide +kernel
  exact of_decide_eq_true (List.all_eq_true.1 h _ (List.getElem_mem hj))
theorem inAny_2 (n : List UInt8) : inAny [rawT] n = isL 2 n := by
  rw [is_2]
  have h : inAny [rawT] n = (amongL (piecesL [] rawT) n) := any_one (fun t => amongL (piecesL [] t) n) rawT
  rw [h, raw_pieces]
theorem len_2 : ∀ j (hj : j < ([rawT] : List (List UInt8)).length), (([rawT] : List (List UInt8))[j]).length ≤ 1000 := by
  intro j hj
  have h : ([rawT] : List (List UInt8)).all (fun t => decide (t.length ≤ 1000)) = true := by decide +kernel
  exact of_decide_eq_true (List.all_eq_true.1 h _ (List.getElem_mem hj))
theorem inAny_3 (n : List UInt8) : inAny [rcdataT] n = isL 3 n := by
  rw [is_3]
  have h : inAny [rcdataT] n = (amongL (piecesL [] rcdataT) n) := any_one (fun t => amongL (piecesL [] t) n) rcdataT
  rw [h, rcdata_pieces]
theorem len_3 : ∀ j (hj : j < ([rcdataT] : List (List UInt8)).length), (([rcdataT] : List (List UInt8))[j]).length ≤ 1000 := by
  intro j hj
  have h : ([rcdataT] : List (List UInt8)).all (fun t => decide (t.length ≤ 1000)) = true := by decide +kernel
  exact of_decide_eq_true (List.all_eq_true.1 h _ (List.getElem_mem hj))
theorem inAny_4 (n : List UInt8) : inAny [voidT, rawT, rcdataT, headingT, blockT, tableT, markerT, specialT] n = isL 4 n := by
  rw [is_4]
  have h : inAny [voidT, rawT, rcdataT, headingT, blockT, tableT, markerT, specialT] n = (amongL (piecesL [] voidT) n || amongL (piecesL [] rawT) n || amongL (piecesL [] rcdataT) n || amongL (piecesL [] headingT) n || amongL (piecesL [] blockT) n || amongL (piecesL [] tableT) n || amongL (piecesL [] markerT) n || amongL (piecesL [] specialT) n) := any_eight (fun t => amongL (piecesL [] t) n) voidT rawT rcdataT headingT blockT tableT markerT specialT
  rw [h, void_pieces, raw_pieces, rcdata_pieces, heading_pieces, block_pieces, table_pieces, marker_pieces, special_pieces]
theorem len_4 : ∀ j (hj : j < ([voidT, rawT, rcdataT, headingT, blockT, tableT, markerT, specialT] : List (List UInt8)).length), (([voidT, rawT, rcdataT, headingT, blockT, tableT, markerT, specialT] : List (List UInt8))[j]).length ≤ 1000 := by
  intro j hj
  have h : ([voidT, rawT, rcdataT, headingT, blockT, tableT, markerT, specialT] : List (List UInt8)).all (fun t => decide (t.length ≤ 1000)) = true := by decide +kernel
  exact of_decide_eq_true (List.all_eq_true.1 h _ (List.getElem_mem hj))
theorem inAny_5 (n : List UInt8) : inAny [formatT] n = isL 5 n := by
  rw [is_5]
  have h : inAny [formatT] n = (amongL (piecesL [] formatT) n) := any_one (fun t => amongL (piecesL [] t) n) formatT
  rw [h, format_pieces]
theorem len_5 : ∀ j (hj : j < ([formatT] : List (List UInt8)).length), (([formatT] : List (List UInt8))[j]).length ≤ 1000 := by
  intro j hj
  have h : ([formatT] : List (List UInt8)).all (fun t => decide (t.length ≤ 1000)) = true := by decide +kernel
  exact of_decide_eq_true (List.all_eq_true.1 h _ (List.getElem_mem hj))
theorem inAny_6 (n : List UInt8) : inAny [blockT] n = isL 6 n := by
  rw [is_6]
  have h : inAny [blockT] n = (amongL (piecesL [] blockT) n) := any_one (fun t => amongL (piecesL [] t) n) blockT
  rw [h, block_pieces]
theorem len_6 : ∀ j (hj : j < ([blockT] : List (List UInt8)).length), (([blockT] : List (List UInt8))[j]).length ≤ 1000 := by
  intro j hj
  have h : ([blockT] : List (List UInt8)).all (fun t => decide (t.length ≤ 1000)) = true := by decide +kernel
  exact of_decide_eq_true (List.all_eq_true.1 h _ (List.getElem_mem hj))
theorem inAny_7 (n : List UInt8) : inAny [headingT] n = isL 7 n := by
  rw [is_7]
  have h : inAny [headingT] n = (amongL (piecesL [] headingT) n) := any_one (fun t => amongL (piecesL [] t) n) headingT
  rw [h, heading_pieces]
theorem len_7 : ∀ j (hj : j < ([headingT] : List (List UInt8)).length), (([headingT] : List (List UInt8))[j]).length ≤ 1000 := by
  intro j hj
  have h : ([headingT] : List (List UInt8)).all (fun t => decide (t.length ≤ 1000)) = true := by decide +kernel
  exact of_decide_eq_true (List.all_eq_true.1 h _ (List.getElem_mem hj))
theorem inAny_8 (n : List UInt8) : inAny [impliedT] n = isL 8 n := by
  rw [is_8]
  have h : inAny [impliedT] n = (amongL (piecesL [] impliedT) n) := any_one (fun t => amongL (piecesL [] t) n) impliedT
  rw [h, implied_pieces]
theorem len_8 : ∀ j (hj : j < ([impliedT] : List (List UInt8)).length), (([impliedT] : List (List UInt8))[j]).length ≤ 1000 := by
  intro j hj
  have h : ([impliedT] : List (List UInt8)).all (fun t => decide (t.length ≤ 1000)) = true := by decide +kernel
  exact of_decide_eq_true (List.all_eq_true.1 h _ (List.getElem_mem hj))
theorem inAny_9 (n : List UInt8) : inAny [tableT] n = isL 9 n := by
  rw [is_9]
  have h : inAny [tableT] n = (amongL (piecesL [] tableT) n) := any_one (fun t => amongL (piecesL [] t) n) tableT
  rw [h, table_pieces]
theorem len_9 : ∀ j (hj : j < ([tableT] : List (List UInt8)).length), (([tableT] : List (List UInt8))[j]).length ≤ 1000 := by
  intro j hj
  have h : ([tableT] : List (List UInt8)).all (fun t => decide (t.length ≤ 1000)) = true := by decide +kernel
  exact of_decide_eq_true (List.all_eq_true.1 h _ (List.getElem_mem hj))
theorem inAny_10 (n : List UInt8) : inAny [breaksT] n = isL 10 n := by
  rw [is_10]
  have h : inAny [breaksT] n = (amongL (piecesL [] breaksT) n) := any_one (fun t => amongL (piecesL [] t) n) breaksT
  rw [h, breaks_pieces]
theorem len_10 : ∀ j (hj : j < ([breaksT] : List (List UInt8)).length), (([breaksT] : List (List UInt8))[j]).length ≤ 1000 := by
  intro j hj
  have h : ([breaksT] : List (List UInt8)).all (fun t => decide (t.length ≤ 1000)) = true := by decide +kernel
  exact of_decide_eq_true (List.all_eq_true.1 h _ (List.getElem_mem hj))
theorem inAny_11 (n : List UInt8) : inAny [markerT] n = isL 11 n := by
  rw [is_11]
  have h : inAny [markerT] n = (amongL (piecesL [] markerT) n) := any_one (fun t => amongL (piecesL [] t) n) markerT
  rw [h, marker_pieces]
theorem len_11 : ∀ j (hj : j < ([markerT] : List (List UInt8)).length), (([markerT] : List (List UInt8))[j]).length ≤ 1000 := by
  intro j hj
  have h : ([markerT] : List (List UInt8)).all (fun t => decide (t.length ≤ 1000)) = true := by decide +kernel
  exact of_decide_eq_true (List.all_eq_true.1 h _ (List.getElem_mem hj))
theorem inAny_12 (n : List UInt8) : inAny [skipT, tableT] n = isL 12 n := by
  rw [is_12]
  have h : inAny [skipT, tableT] n = (amongL (piecesL [] skipT) n || amongL (piecesL [] tableT) n) := any_two (fun t => amongL (piecesL [] t) n) skipT tableT
  rw [h, skip_pieces, table_pieces]
theorem len_12 : ∀ j (hj : j < ([skipT, tableT] : List (List UInt8)).length), (([skipT, tableT] : List (List UInt8))[j]).length ≤ 1000 := by
  intro j hj
  have h : ([skipT, tableT] : List (List UInt8)).all (fun t => decide (t.length ≤ 1000)) = true := by decide +kernel
  exact of_decide_eq_true (List.all_eq_true.1 h _ (List.getElem_mem hj))
end Go.Proofs.YtfjganjihapnhabGreatDoor
