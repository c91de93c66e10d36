/- What the document's own names and Is answer, of whatever set and name; nothing that was there is written. -/
import Derived.Test.YthopnliaikkhbaaGreatDoorWalkH
set_option linter.unusedVariables false
set_option linter.unusedSimpArgs false
set_option maxRecDepth 4000
namespace Go.Proofs.YthopnliaikkhbaaGreatDoor
open Go.RowKit

theorem ne_int (k j : Int) (h : k ≠ j) : (k == j) = false := beq_eq_false_iff_ne.2 h

/-- A list of texts, laid out. -/
def IsS (w : World) (v : Value) (l : List (List UInt8)) : Prop := ∃ b cap, v = .slice (some ⟨b, 0, none⟩) l.length cap ∧ ∀ j (hj : j < l.length), w.cell? ⟨b, j, none⟩ = some (.string ⟨(l[j]).toArray⟩)
theorem isS_built (w : World) (l : List (List UInt8)) : IsS (w.alloc (.cells (cellsOf l) 9)) (.slice (some ⟨w.heap.size, 0, none⟩) l.length l.length) l := ⟨_, _, rfl, built_cell w l⟩
/-- names answers these lists of a set. -/
def NamesOk (k : Int) (l : List (List UInt8)) : Prop := ∀ w : World, Calls Tryz.prog 77 #[.int .i64 k] w fun e w' => (∃ v, e = .returned v ∧ IsS w' v l) ∧ Below w.heap.size w w'

set_option maxHeartbeats 1000000 in
theorem names_1 : NamesOk 1 [voidT] := by
  intro w
  have H := hide (isS_built w [voidT])
  go_enter Tryz.func77, Tryz.ntmps77
  go_wp2
  go_ret
  exact ⟨⟨_, rfl, H.out⟩, below_alloc w _⟩
set_option maxHeartbeats 1000000 in
theorem names_2 : NamesOk 2 [rawT] := by
  intro w
  have H := hide (isS_built w [rawT])
  go_enter Tryz.func77, Tryz.ntmps77
  go_wp2
  go_ret
  exact ⟨⟨_, rfl, H.out⟩, below_alloc w _⟩
set_option maxHeartbeats 1000000 in
theorem names_3 : NamesOk 3 [rcdataT] := by
  intro w
  have H := hide (isS_built w [rcdataT])
  go_enter Tryz.func77, Tryz.ntmps77
  go_wp2
  go_ret
  exact ⟨⟨_, rfl, H.out⟩, below_alloc w _⟩
set_option maxHeartbeats 1000000 in
theorem names_4 : NamesOk 4 [voidT, rawT, rcdataT, headingT, blockT, tableT, markerT, specialT] := by
  intro w
  have H := hide (isS_built w [voidT, rawT, rcdataT, headingT, blockT, tableT, markerT, specialT])
  go_enter Tryz.func77, Tryz.ntmps77
  go_wp2
  go_ret
  exact ⟨⟨_, rfl, H.out⟩, below_alloc w _⟩
set_option maxHeartbeats 1000000 in
theorem names_5 : NamesOk 5 [formatT] := by
  intro w
  have H := hide (isS_built w [formatT])
  go_enter Tryz.func77, Tryz.ntmps77
  go_wp2
  go_ret
  exact ⟨⟨_, rfl, H.out⟩, below_alloc w _⟩
set_option maxHeartbeats 1000000 in
theorem names_6 : NamesOk 6 [blockT] := by
  intro w
  have H := hide (isS_built w [blockT])
  go_enter Tryz.func77, Tryz.ntmps77
  go_wp2
  go_ret
  exact ⟨⟨_, rfl, H.out⟩, below_alloc w _⟩
set_option maxHeartbeats 1000000 in
theorem names_7 : NamesOk 7 [headingT] := by
  intro w
  have H := hide (isS_built w [headingT])
  go_enter Tryz.func77, Tryz.ntmps77
  go_wp2
  go_ret
  exact ⟨⟨_, rfl, H.out⟩, below_alloc w _⟩
set_option maxHeartbeats 1000000 in
theorem names_8 : NamesOk 8 [impliedT] := by
  intro w
  have H := hide (isS_built w [impliedT])
  go_enter Tryz.func77, Tryz.ntmps77
  go_wp2
  go_ret
  exact ⟨⟨_, rfl, H.out⟩, below_alloc w _⟩
set_option maxHeartbeats 1000000 in
theorem names_9 : NamesOk 9 [tableT] := by
  intro w
  have H := hide (isS_built w [tableT])
  go_enter Tryz.func77, Tryz.ntmps77
  go_wp2
  go_ret
  exact ⟨⟨_, rfl, H.out⟩, below_alloc w _⟩
set_option maxHeartbeats 1000000 in
theorem names_10 : NamesOk 10 [breaksT] := by
  intro w
  have H := hide (isS_built w [breaksT])
  go_enter Tryz.func77, Tryz.ntmps77
  go_wp2
  go_ret
  exact ⟨⟨_, rfl, H.out⟩, below_alloc w _⟩
set_option maxHeartbeats 1000000 in
theorem names_11 : NamesOk 11 [markerT] := by
  intro w
  have H := hide (isS_built w [markerT])
  go_enter Tryz.func77, Tryz.ntmps77
  go_wp2
  go_ret
  exact ⟨⟨_, rfl, H.out⟩, below_alloc w _⟩
set_option maxHeartbeats 1000000 in
theorem names_12 : NamesOk 12 [skipT, tableT] := by
  intro w
  have H := hide (isS_built w [skipT, tableT])
  go_enter Tryz.func77, Tryz.ntmps77
  go_wp2
  go_ret
  exact ⟨⟨_, rfl, H.out⟩, below_alloc w _⟩
set_option maxHeartbeats 1000000 in
theorem names_none (k : Int) (hk : k < 1 ∨ 12 < k) (w : World) : Calls Tryz.prog 77 #[.int .i64 k] w fun e w' => e = .returned (.slice none 0 0) ∧ w' = w := by
  have e1 := ne_int k 1 (by omega)
  have e2 := ne_int k 2 (by omega)
  have e3 := ne_int k 3 (by omega)
  have e4 := ne_int k 4 (by omega)
  have e5 := ne_int k 5 (by omega)
  have e6 := ne_int k 6 (by omega)
  have e7 := ne_int k 7 (by omega)
  have e8 := ne_int k 8 (by omega)
  have e9 := ne_int k 9 (by omega)
  have e10 := ne_int k 10 (by omega)
  have e11 := ne_int k 11 (by omega)
  have e12 := ne_int k 12 (by omega)
  clear hk
  go_enter Tryz.func77, Tryz.ntmps77
  go_wp2
  go_ret
  exact ⟨rfl, rfl⟩

def inAny (l : List (List UInt8)) (n : List UInt8) : Bool := l.any fun t => amongL (piecesL [] t) n
theorem inAny_step (l : List (List UInt8)) (n : List UInt8) (k : Nat) (h : k < l.length) : inAny (l.drop k) n = (amongL (piecesL [] l[k]) n || inAny (l.drop (k + 1)) n) := by
  rw [List.drop_eq_getElem_cons h]; rfl
theorem inAny_end (l : List (List UInt8)) (n : List UInt8) (k : Nat) (h : l.length ≤ k) : inAny (l.drop k) n = false := by
  rw [List.drop_eq_nil_of_le h]; rfl

set_option maxHeartbeats 1000000 in
theorem ris_of (k0 : Int) (l : List (List UInt8)) (hn : NamesOk k0 l) (hl : l.length ≤ 1000) (hsz : ∀ j (hj : j < l.length), (l[j]).length ≤ 1000) (n : ByteArray) (w : World) :
    Calls Tryz.prog 59 #[.int .i64 k0, .string n] w fun e w' => e = .returned (.bool (inAny l n.data.toList)) ∧ Below w.heap.size w w' := by
  generalize hV : inAny l n.data.toList = V
  have HV := hide hV
  have HN := hide hn
  have HSZ := hide hsz
  clear hV hn hsz
  go_enter Tryz.func59, Tryz.ntmps59
  go_wp2_with fail
  refine (HN.out _).mono ?_
  rintro e w1 ⟨⟨v, rfl, b, cap, rfl, hc⟩, b1⟩
  have HC := hide hc
  clear hc
  go_wp2
  go_loop [6] (fun i => ∃ k : Nat, k ≤ l.length ∧ i = .int .i64 k ∧ Hid (inAny (l.drop k) n.data.toList = V)) (fun i => l.length - (intOf i).toNat)
  case atStart => exact ⟨0, Nat.zero_le _, rfl, hide (by rw [List.drop_zero]; exact HV.out)⟩
  case round =>
    obtain ⟨k, hk, rfl, HR⟩ := hrel
    by_cases hlt : k < l.length
    · have hcell := HC.out k hlt
      have hs := inAny_step l n.data.toList k hlt
      rw [HR.out] at hs
      have hlt2 : (k : Int) < l.length := by omega
      have hin := in_any ⟨(l[k]).toArray⟩ n (by rw [size_list, str_data]; have := HSZ.out k hlt; omega)
      rw [str_data] at hin
      have HIN := hide hin
      have HS := hide hs
      clear hs HR hin
      generalize amongL (piecesL [] l[k]) n.data.toList = B at *
      generalize (⟨(l[k]).toArray⟩ : ByteArray) = o at *
      clear hlt
      go_wp2_with fail
      refine (HIN.out _).mono ?_
      rintro e w2 ⟨rfl, rfl⟩
      cases B
      · have HR2 : Hid (inAny (l.drop (k + 1)) n.data.toList = V) := hide (by rw [HS.out, Bool.false_or])
        clear HS
        go_wp2
        go_round
        case rel => exact ⟨k + 1, by omega, by go_num, HR2⟩
        case measure => simp [intOf]; omega
      · have HR2 : Hid (V = true) := hide (by rw [HS.out, Bool.true_or])
        clear HS
        go_wp2
        go_ret
        exact ⟨ret_bool HR2.out.symm, b1⟩
    · have hs := inAny_end l n.data.toList k (by omega)
      rw [HR.out] at hs
      have HR2 := hide hs
      have hlt2 : ¬ (k : Int) < l.length := by omega
      clear hs HR hlt
      go_wp2
      go_ret
      exact ⟨ret_bool HR2.out.symm, b1⟩

set_option maxHeartbeats 1000000 in
theorem ris_none (k0 : Int) (hk : k0 < 1 ∨ 12 < k0) (n : ByteArray) (w : World) :
    Calls Tryz.prog 59 #[.int .i64 k0, .string n] w fun e w' => e = .returned (.bool false) ∧ Below w.heap.size w w' := by
  have HN := hide (names_none k0 hk)
  clear hk
  go_enter Tryz.func59, Tryz.ntmps59
  go_wp2_with fail
  refine (HN.out _).mono ?_
  rintro e w1 ⟨rfl, rfl⟩
  go_wp2
  refine wp_loop_rounds 1 ?_
  rw [rounds_succ]
  go_wp2
  go_ret
  exact ⟨rfl, Below.refl _ _⟩

theorem inAny_1 (n : List UInt8) : inAny [voidT] n = isL 1 n := by
  rw [is_1]
  have h : inAny [voidT] n = (amongL (piecesL [] voidT) n) := any_one (fun t => amongL (piecesL [] t) n) voidT
  rw [h, void_pieces]
theorem len_1 : ∀ j (hj : j < ([voidT] : List (List UInt8)).length), (([voidT] : List (List UInt8))[j]).length ≤ 1000 := by
  intro j hj
  have h : ([voidT] : List (List UInt8)).all (fun t => decide (t.length ≤ 1000)) = true := by decide +kernel
  exact of_decide_eq_true (List.all_eq_true.1 h _ (List.getElem_mem hj))
theorem inAny_2 (n : List UInt8) : inAny [rawT] n = isL 2 n := by
  rw [is_2]
  have h : inAny [rawT] n = (amongL (piecesL [] rawT) n) := any_one (fun t => amongL (piecesL [] t) n) rawT
  rw [h, raw_pieces]
theorem len_2 : ∀ j (hj : j < ([rawT] : List (List UInt8)).length), (([rawT] : List (List UInt8))[j]).length ≤ 1000 := by
  intro j hj
  have h : ([rawT] : List (List UInt8)).all (fun t => decide (t.length ≤ 1000)) = true := by decide +kernel
  exact of_decide_eq_true (List.all_eq_true.1 h _ (List.getElem_mem hj))
theorem inAny_3 (n : List UInt8) : inAny [rcdataT] n = isL 3 n := by
  rw [is_3]
  have h : inAny [rcdataT] n = (amongL (piecesL [] rcdataT) n) := any_one (fun t => amongL (piecesL [] t) n) rcdataT
  rw [h, rcdata_pieces]
theorem len_3 : ∀ j (hj : j < ([rcdataT] : List (List UInt8)).length), (([rcdataT] : List (List UInt8))[j]).length ≤ 1000 := by
  intro j hj
  have h : ([rcdataT] : List (List UInt8)).all (fun t => decide (t.length ≤ 1000)) = true := by decide +kernel
  exact of_decide_eq_true (List.all_eq_true.1 h _ (List.getElem_mem hj))
theorem inAny_4 (n : List UInt8) : inAny [voidT, rawT, rcdataT, headingT, blockT, tableT, markerT, specialT] n = isL 4 n := by
  rw [is_4]
  have h : inAny [voidT, rawT, rcdataT, headingT, blockT, tableT, markerT, specialT] n = (amongL (piecesL [] voidT) n || amongL (piecesL [] rawT) n || amongL (piecesL [] rcdataT) n || amongL (piecesL [] headingT) n || amongL (piecesL [] blockT) n || amongL (piecesL [] tableT) n || amongL (piecesL [] markerT) n || amongL (piecesL [] specialT) n) := any_eight (fun t => amongL (piecesL [] t) n) voidT rawT rcdataT headingT blockT tableT markerT specialT
  rw [h, void_pieces, raw_pieces, rcdata_pieces, heading_pieces, block_pieces, table_pieces, marker_pieces, special_pieces]
theorem len_4 : ∀ j (hj : j < ([voidT, rawT, rcdataT, headingT, blockT, tableT, markerT, specialT] : List (List UInt8)).length), (([voidT, rawT, rcdataT, headingT, blockT, tableT, markerT, specialT] : List (List UInt8))[j]).length ≤ 1000 := by
  intro j hj
  have h : ([voidT, rawT, rcdataT, headingT, blockT, tableT, markerT, specialT] : List (List UInt8)).all (fun t => decide (t.length ≤ 1000)) = true := by decide +kernel
  exact of_decide_eq_true (List.all_eq_true.1 h _ (List.getElem_mem hj))
theorem inAny_5 (n : List UInt8) : inAny [formatT] n = isL 5 n := by
  rw [is_5]
  have h : inAny [formatT] n = (amongL (piecesL [] formatT) n) := any_one (fun t => amongL (piecesL [] t) n) formatT
  rw [h, format_pieces]
theorem len_5 : ∀ j (hj : j < ([formatT] : List (List UInt8)).length), (([formatT] : List (List UInt8))[j]).length ≤ 1000 := by
  intro j hj
  have h : ([formatT] : List (List UInt8)).all (fun t => decide (t.length ≤ 1000)) = true := by decide +kernel
  exact of_decide_eq_true (List.all_eq_true.1 h _ (List.getElem_mem hj))
theorem inAny_6 (n : List UInt8) : inAny [blockT] n = isL 6 n := by
  rw [is_6]
  have h : inAny [blockT] n = (amongL (piecesL [] blockT) n) := any_one (fun t => amongL (piecesL [] t) n) blockT
  rw [h, block_pieces]
theorem len_6 : ∀ j (hj : j < ([blockT] : List (List UInt8)).length), (([blockT] : List (List UInt8))[j]).length ≤ 1000 := by
  intro j hj
  have h : ([blockT] : List (List UInt8)).all (fun t => decide (t.length ≤ 1000)) = true := by decide +kernel
  exact of_decide_eq_true (List.all_eq_true.1 h _ (List.getElem_mem hj))
theorem inAny_7 (n : List UInt8) : inAny [headingT] n = isL 7 n := by
  rw [is_7]
  have h : inAny [headingT] n = (amongL (piecesL [] headingT) n) := any_one (fun t => amongL (piecesL [] t) n) headingT
  rw [h, heading_pieces]
theorem len_7 : ∀ j (hj : j < ([headingT] : List (List UInt8)).length), (([headingT] : List (List UInt8))[j]).length ≤ 1000 := by
  intro j hj
  have h : ([headingT] : List (List UInt8)).all (fun t => decide (t.length ≤ 1000)) = true := by decide +kernel
  exact of_decide_eq_true (List.all_eq_true.1 h _ (List.getElem_mem hj))
theorem inAny_8 (n : List UInt8) : inAny [impliedT] n = isL 8 n := by
  rw [is_8]
  have h : inAny [impliedT] n = (amongL (piecesL [] impliedT) n) := any_one (fun t => amongL (piecesL [] t) n) impliedT
  rw [h, implied_pieces]
theorem len_8 : ∀ j (hj : j < ([impliedT] : List (List UInt8)).length), (([impliedT] : List (List UInt8))[j]).length ≤ 1000 := by
  intro j hj
  have h : ([impliedT] : List (List UInt8)).all (fun t => decide (t.length ≤ 1000)) = true := by decide +kernel
  exact of_decide_eq_true (List.all_eq_true.1 h _ (List.getElem_mem hj))
theorem inAny_9 (n : List UInt8) : inAny [tableT] n = isL 9 n := by
  rw [is_9]
  have h : inAny [tableT] n = (amongL (piecesL [] tableT) n) := any_one (fun t => amongL (piecesL [] t) n) tableT
  rw [h, table_pieces]
theorem len_9 : ∀ j (hj : j < ([tableT] : List (List UInt8)).length), (([tableT] : List (List UInt8))[j]).length ≤ 1000 := by
  intro j hj
  have h : ([tableT] : List (List UInt8)).all (fun t => decide (t.length ≤ 1000)) = true := by decide +kernel
  exact of_decide_eq_true (List.all_eq_true.1 h _ (List.getElem_mem hj))
theorem inAny_10 (n : List UInt8) : inAny [breaksT] n = isL 10 n := by
  rw [is_10]
  have h : inAny [breaksT] n = (amongL (piecesL [] breaksT) n) := any_one (fun t => amongL (piecesL [] t) n) breaksT
  rw [h, breaks_pieces]
theorem len_10 : ∀ j (hj : j < ([breaksT] : List (List UInt8)).length), (([breaksT] : List (List UInt8))[j]).length ≤ 1000 := by
  intro j hj
  have h : ([breaksT] : List (List UInt8)).all (fun t => decide (t.length ≤ 1000)) = true := by decide +kernel
  exact of_decide_eq_true (List.all_eq_true.1 h _ (List.getElem_mem hj))
theorem inAny_11 (n : List UInt8) : inAny [markerT] n = isL 11 n := by
  rw [is_11]
  have h : inAny [markerT] n = (amongL (piecesL [] markerT) n) := any_one (fun t => amongL (piecesL [] t) n) markerT
  rw [h, marker_pieces]
theorem len_11 : ∀ j (hj : j < ([markerT] : List (List UInt8)).length), (([markerT] : List (List UInt8))[j]).length ≤ 1000 := by
  intro j hj
  have h : ([markerT] : List (List UInt8)).all (fun t => decide (t.length ≤ 1000)) = true := by decide +kernel
  exact of_decide_eq_true (List.all_eq_true.1 h _ (List.getElem_mem hj))
theorem inAny_12 (n : List UInt8) : inAny [skipT, tableT] n = isL 12 n := by
  rw [is_12]
  have h : inAny [skipT, tableT] n = (amongL (piecesL [] skipT) n || amongL (piecesL [] tableT) n) := any_two (fun t => amongL (piecesL [] t) n) skipT tableT
  rw [h, skip_pieces, table_pieces]
theorem len_12 : ∀ j (hj : j < ([skipT, tableT] : List (List UInt8)).length), (([skipT, tableT] : List (List UInt8))[j]).length ≤ 1000 := by
  intro j hj
  have h : ([skipT, tableT] : List (List UInt8)).all (fun t => decide (t.length ≤ 1000)) = true := by decide +kernel
  exact of_decide_eq_true (List.all_eq_true.1 h _ (List.getElem_mem hj))
/-- The document's Is answers at every set. -/
theorem ris_any (k : Int) (n : ByteArray) (w : World) :
    Calls Tryz.prog 59 #[.int .i64 k, .string n] w fun e w' => e = .returned (.bool (isL k n.data.toList)) ∧ Below w.heap.size w w' := by
  rcases (by omega : k = 1 ∨ k = 2 ∨ k = 3 ∨ k = 4 ∨ k = 5 ∨ k = 6 ∨ k = 7 ∨ k = 8 ∨ k = 9 ∨ k = 10 ∨ k = 11 ∨ k = 12 ∨ (k < 1 ∨ 12 < k)) with rfl | rfl | rfl | rfl | rfl | rfl | rfl | rfl | rfl | rfl | rfl | rfl | hk
  · rw [← inAny_1]; exact ris_of 1 _ names_1 (by decide) len_1 n w
  · rw [← inAny_2]; exact ris_of 2 _ names_2 (by decide) len_2 n w
  · rw [← inAny_3]; exact ris_of 3 _ names_3 (by decide) len_3 n w
  · rw [← inAny_4]; exact ris_of 4 _ names_4 (by decide) len_4 n w
  · rw [← inAny_5]; exact ris_of 5 _ names_5 (by decide) len_5 n w
  · rw [← inAny_6]; exact ris_of 6 _ names_6 (by decide) len_6 n w
  · rw [← inAny_7]; exact ris_of 7 _ names_7 (by decide) len_7 n w
  · rw [← inAny_8]; exact ris_of 8 _ names_8 (by decide) len_8 n w
  · rw [← inAny_9]; exact ris_of 9 _ names_9 (by decide) len_9 n w
  · rw [← inAny_10]; exact ris_of 10 _ names_10 (by decide) len_10 n w
  · rw [← inAny_11]; exact ris_of 11 _ names_11 (by decide) len_11 n w
  · rw [← inAny_12]; exact ris_of 12 _ names_12 (by decide) len_12 n w
  · rw [is_none k _ hk]; exact ris_none k hk n w
end Go.Proofs.YthopnliaikkhbaaGreatDoor
