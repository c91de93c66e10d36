/- What Is answers of the sets that are one list; nothing that was there is written. -/
import Derived.Test.YthoibenncjbkdaaDoorS6WalkB
import Derived.Below
set_option linter.unusedVariables false
set_option linter.unusedSimpArgs false
set_option maxRecDepth 4000
namespace Go.Proofs.YthoibenncjbkdaaDoor.S6
open Go.RowKit

def cellsOf (l : List (List UInt8)) : Array Value := (l.map fun o => Value.string ⟨o.toArray⟩).toArray
theorem built_cell (w : World) (l : List (List UInt8)) (j : Nat) (hj : j < l.length) : (w.alloc (.cells (cellsOf l) 9)).cell? ⟨w.heap.size, j, none⟩ = some (.string ⟨(l[j]).toArray⟩) := by
  have : (cellsOf l)[j]? = some (.string ⟨(l[j]).toArray⟩) := by
    unfold cellsOf
    simp [List.getElem?_eq_getElem hj]
  simp [go_sem, this]
theorem below_alloc (w : World) (o : Obj) : Below w.heap.size w (w.alloc o) := (Below.refl _ w).alloc (Nat.le_refl _) _

/-- among, of names that were just written out. -/
theorem among_built (n : ByteArray) (l : List (List UInt8)) (hl : l.length ≤ 1000) (V : Bool) (hV : amongL l n.data.toList = V) (w : World) :
    Calls Tryd.prog 40 #[.string n, .slice (some ⟨w.heap.size, 0, none⟩) l.length l.length] (w.alloc (.cells (cellsOf l) 9)) fun e w' => e = .returned (.bool V) ∧ Below w.heap.size w w' :=
  (among_any n l w.heap.size l.length _ hl (built_cell w l)).mono fun e w' ⟨h1, h2⟩ => ⟨by rw [h1, hV], by rw [h2]; exact below_alloc w _⟩

set_option maxHeartbeats 1000000 in
theorem block_any (n : ByteArray) (w : World) :
    Calls Tryd.prog 41 #[.string n] w fun e w' => e = .returned (.bool (isL 6 n.data.toList)) ∧ Below w.heap.size w w' := by
  generalize hV : isL 6 n.data.toList = V
  rw [is_6] at hV
  have H := hide (among_built n blockN (by decide) V hV w)
  clear hV
  go_enter Tryd.func41, Tryd.ntmps41
  go_wp2_with fail
  refine H.out.mono ?_
  rintro e w1 ⟨rfl, b1⟩
  go_wp2
  go_ret
  exact ⟨rfl, b1⟩

set_option maxHeartbeats 1000000 in
theorem breaking_any (n : ByteArray) (w : World) :
    Calls Tryd.prog 42 #[.string n] w fun e w' => e = .returned (.bool (isL 10 n.data.toList)) ∧ Below w.heap.size w w' := by
  generalize hV : isL 10 n.data.toList = V
  rw [is_10] at hV
  have H := hide (among_built n breaksN (by decide) V hV w)
  clear hV
  go_enter Tryd.func42, Tryd.ntmps42
  go_wp2_with fail
  refine H.out.mono ?_
  rintro e w1 ⟨rfl, b1⟩
  go_wp2
  go_ret
  exact ⟨rfl, b1⟩

set_option maxHeartbeats 1000000 in
theorem isp_1 (n : ByteArray) (w : World) :
    Calls Tryd.prog 36 #[.int .i64 1, .string n] w fun e w' => e = .returned (.bool (isL 1 n.data.toList)) ∧ Below w.heap.size w w' := by
  generalize hV : isL 1 n.data.toList = V
  rw [is_1] at hV
  have H := hide (among_built n voidN (by decide) V hV w)
  clear hV
  go_enter Tryd.func36, Tryd.ntmps36
  go_wp2_with fail
  refine H.out.mono ?_
  rintro e w1 ⟨rfl, b1⟩
  go_wp2
  go_ret
  exact ⟨rfl, b1⟩

set_option maxHeartbeats 1000000 in
theorem isp_2 (n : ByteArray) (w : World) :
    Calls Tryd.prog 36 #[.int .i64 2, .string n] w fun e w' => e = .returned (.bool (isL 2 n.data.toList)) ∧ Below w.heap.size w w' := by
  generalize hV : isL 2 n.data.toList = V
  rw [is_2] at hV
  have H := hide (among_built n rawN (by decide) V hV w)
  clear hV
  go_enter Tryd.func36, Tryd.ntmps36
  go_wp2_with fail
  refine H.out.mono ?_
  rintro e w1 ⟨rfl, b1⟩
  go_wp2
  go_ret
  exact ⟨rfl, b1⟩

set_option maxHeartbeats 1000000 in
theorem isp_3 (n : ByteArray) (w : World) :
    Calls Tryd.prog 36 #[.int .i64 3, .string n] w fun e w' => e = .returned (.bool (isL 3 n.data.toList)) ∧ Below w.heap.size w w' := by
  generalize hV : isL 3 n.data.toList = V
  rw [is_3] at hV
  have H := hide (among_built n rcdataN (by decide) V hV w)
  clear hV
  go_enter Tryd.func36, Tryd.ntmps36
  go_wp2_with fail
  refine H.out.mono ?_
  rintro e w1 ⟨rfl, b1⟩
  go_wp2
  go_ret
  exact ⟨rfl, b1⟩

set_option maxHeartbeats 1000000 in
theorem isp_5 (n : ByteArray) (w : World) :
    Calls Tryd.prog 36 #[.int .i64 5, .string n] w fun e w' => e = .returned (.bool (isL 5 n.data.toList)) ∧ Below w.heap.size w w' := by
  generalize hV : isL 5 n.data.toList = V
  rw [is_5] at hV
  have H := hide (among_built n formatN (by decide) V hV w)
  clear hV
  go_enter Tryd.func36, Tryd.ntmps36
  go_wp2_with fail
  refine H.out.mono ?_
  rintro e w1 ⟨rfl, b1⟩
  go_wp2
  go_ret
  exact ⟨rfl, b1⟩

set_option maxHeartbeats 1000000 in
theorem isp_6 (n : ByteArray) (w : World) :
    Calls Tryd.prog 36 #[.int .i64 6, .string n] w fun e w' => e = .returned (.bool (isL 6 n.data.toList)) ∧ Below w.heap.size w w' := by
  have H := hide (block_any n w)
  generalize isL 6 n.data.toList = V at *
  go_enter Tryd.func36, Tryd.ntmps36
  go_wp2_with fail
  refine H.out.mono ?_
  rintro e w1 ⟨rfl, b1⟩
  go_wp2
  go_ret
  exact ⟨rfl, b1⟩

set_option maxHeartbeats 1000000 in
theorem isp_7 (n : ByteArray) (w : World) :
    Calls Tryd.prog 36 #[.int .i64 7, .string n] w fun e w' => e = .returned (.bool (isL 7 n.data.toList)) ∧ Below w.heap.size w w' := by
  generalize hV : isL 7 n.data.toList = V
  rw [is_7] at hV
  have H := hide (among_built n headingN (by decide) V hV w)
  clear hV
  go_enter Tryd.func36, Tryd.ntmps36
  go_wp2_with fail
  refine H.out.mono ?_
  rintro e w1 ⟨rfl, b1⟩
  go_wp2
  go_ret
  exact ⟨rfl, b1⟩

set_option maxHeartbeats 1000000 in
theorem isp_8 (n : ByteArray) (w : World) :
    Calls Tryd.prog 36 #[.int .i64 8, .string n] w fun e w' => e = .returned (.bool (isL 8 n.data.toList)) ∧ Below w.heap.size w w' := by
  generalize hV : isL 8 n.data.toList = V
  rw [is_8] at hV
  have H := hide (among_built n impliedN (by decide) V hV w)
  clear hV
  go_enter Tryd.func36, Tryd.ntmps36
  go_wp2_with fail
  refine H.out.mono ?_
  rintro e w1 ⟨rfl, b1⟩
  go_wp2
  go_ret
  exact ⟨rfl, b1⟩

set_option maxHeartbeats 1000000 in
theorem isp_9 (n : ByteArray) (w : World) :
    Calls Tryd.prog 36 #[.int .i64 9, .string n] w fun e w' => e = .returned (.bool (isL 9 n.data.toList)) ∧ Below w.heap.size w w' := by
  generalize hV : isL 9 n.data.toList = V
  rw [is_9] at hV
  have H := hide (among_built n tableN (by decide) V hV w)
  clear hV
  go_enter Tryd.func36, Tryd.ntmps36
  go_wp2_with fail
  refine H.out.mono ?_
  rintro e w1 ⟨rfl, b1⟩
  go_wp2
  go_ret
  exact ⟨rfl, b1⟩

set_option maxHeartbeats 1000000 in
theorem isp_10 (n : ByteArray) (w : World) :
    Calls Tryd.prog 36 #[.int .i64 10, .string n] w fun e w' => e = .returned (.bool (isL 10 n.data.toList)) ∧ Below w.heap.size w w' := by
  have H := hide (breaking_any n w)
  generalize isL 10 n.data.toList = V at *
  go_enter Tryd.func36, Tryd.ntmps36
  go_wp2_with fail
  refine H.out.mono ?_
  rintro e w1 ⟨rfl, b1⟩
  go_wp2
  go_ret
  exact ⟨rfl, b1⟩

set_option maxHeartbeats 1000000 in
theorem isp_11 (n : ByteArray) (w : World) :
    Calls Tryd.prog 36 #[.int .i64 11, .string n] w fun e w' => e = .returned (.bool (isL 11 n.data.toList)) ∧ Below w.heap.size w w' := by
  generalize hV : isL 11 n.data.toList = V
  rw [is_11] at hV
  have H := hide (among_built n markerN (by decide) V hV w)
  clear hV
  go_enter Tryd.func36, Tryd.ntmps36
  go_wp2_with fail
  refine H.out.mono ?_
  rintro e w1 ⟨rfl, b1⟩
  go_wp2
  go_ret
  exact ⟨rfl, b1⟩

theorem ne_int (k j : Int) (h : k ≠ j) : (k == j) = false := beq_eq_false_iff_ne.2 h
set_option maxHeartbeats 1000000 in
theorem isp_none (k : Int) (hk : k < 1 ∨ 12 < k) (n : ByteArray) (w : World) :
    Calls Tryd.prog 36 #[.int .i64 k, .string n] w fun e w' => e = .returned (.bool (isL k n.data.toList)) ∧ Below w.heap.size w w' := by
  rw [is_none k _ hk]
  have e1 := ne_int k 1 (by omega)
  have e2 := ne_int k 2 (by omega)
  have e3 := ne_int k 3 (by omega)
  have e4 := ne_int k 4 (by omega)
  have e5 := ne_int k 5 (by omega)
  have e6 := ne_int k 6 (by omega)
  have e7 := ne_int k 7 (by omega)
  have e8 := ne_int k 8 (by omega)
  have e9 := ne_int k 9 (by omega)
  have e10 := ne_int k 10 (by omega)
  have e11 := ne_int k 11 (by omega)
  have e12 := ne_int k 12 (by omega)
  clear hk
  go_enter Tryd.func36, Tryd.ntmps36
  go_wp2_with fail
  go_ret
  exact ⟨rfl, Below.refl _ w⟩
end Go.Proofs.YthoibenncjbkdaaDoor.S6
