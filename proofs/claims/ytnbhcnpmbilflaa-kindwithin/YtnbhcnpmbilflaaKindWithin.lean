/- Proved: for every name KindWithin answers true: of a name of at most 300 bytes, what is void, raw, a heading, a block, of a table or a marker is special, none is both formatting and a block or special, none both void and raw, one of a table is skipped, and the live question is answered as fixed; the document's own answer has no part in it. Conditions: none beyond the given row's. -/
import Derived.Test.YtnbhcnpmbilflaaRows
import Derived.Test.YtnbhcnpmbilflaaWalkJ
import Derived.WalkKit
import Derived.ProofKit
import Derived.OpenShut
import Derived.ShutString
import Derived.ChangeOld
import Derived.Below
set_option linter.unusedVariables false
namespace Go.Proofs.Ytnbhcnpmbilflaa
open Go.ChangeShapes Go.WideShapes Go.ChangeAt Go.RowKit
open Go.ChangeMaps (open_string shut_string)

theorem ownL : ownKnob Try.prog.godebug = none := by kernel_rfl

set_option maxHeartbeats 1000000 in
theorem within_0 (s : ByteArray) (hs : ¬ (300 : Int) < s.size) (f1 : isL 1 s.data.toList = true) (f2 : isL 2 s.data.toList = false) (f3 : isL 3 s.data.toList = false) (f4 : isL 4 s.data.toList = true) (f5 : isL 5 s.data.toList = false) (f9 : isL 9 s.data.toList = true) (f12 : isL 12 s.data.toList = true) (w : World) :
    Calls Try.prog 6 #[.string s] w fun e w' => e = .returned (.bool true) ∧ Below w.heap.size w w' := by
  have HA := hide alive_any
  have H1 : Hid (∀ w, Calls Try.prog 19 #[.int .i64 1, .string s] w fun e w' => e = .returned (.bool true) ∧ Below w.heap.size w w') := hide (by rw [← f1]; exact is_any 1 s)
  have H2 : Hid (∀ w, Calls Try.prog 19 #[.int .i64 2, .string s] w fun e w' => e = .returned (.bool false) ∧ Below w.heap.size w w') := hide (by rw [← f2]; exact is_any 2 s)
  have H3 : Hid (∀ w, Calls Try.prog 19 #[.int .i64 3, .string s] w fun e w' => e = .returned (.bool false) ∧ Below w.heap.size w w') := hide (by rw [← f3]; exact is_any 3 s)
  have H4 : Hid (∀ w, Calls Try.prog 19 #[.int .i64 4, .string s] w fun e w' => e = .returned (.bool true) ∧ Below w.heap.size w w') := hide (by rw [← f4]; exact is_any 4 s)
  have H5 : Hid (∀ w, Calls Try.prog 19 #[.int .i64 5, .string s] w fun e w' => e = .returned (.bool false) ∧ Below w.heap.size w w') := hide (by rw [← f5]; exact is_any 5 s)
  have H9 : Hid (∀ w, Calls Try.prog 19 #[.int .i64 9, .string s] w fun e w' => e = .returned (.bool true) ∧ Below w.heap.size w w') := hide (by rw [← f9]; exact is_any 9 s)
  have H12 : Hid (∀ w, Calls Try.prog 19 #[.int .i64 12, .string s] w fun e w' => e = .returned (.bool true) ∧ Below w.heap.size w w') := hide (by rw [← f12]; exact is_any 12 s)
  clear f1 f2 f3 f4 f5 f9 f12
  go_enter Try.func6, Try.ntmps6
  go_wp2_with fail
  refine (H1.out _).mono ?_
  rintro e w1 ⟨rfl, b1⟩
  go_wp2_with fail
  refine (H4.out _).mono ?_
  rintro e w2 ⟨rfl, b2⟩
  go_wp2_with fail
  refine (H5.out _).mono ?_
  rintro e w3 ⟨rfl, b3⟩
  go_wp2_with fail
  refine (H1.out _).mono ?_
  rintro e w4 ⟨rfl, b4⟩
  go_wp2_with fail
  refine (H2.out _).mono ?_
  rintro e w5 ⟨rfl, b5⟩
  go_wp2_with fail
  refine (H3.out _).mono ?_
  rintro e w6 ⟨rfl, b6⟩
  go_wp2_with fail
  refine (HA.out _).mono ?_
  rintro e w7 ⟨rfl, b7⟩
  go_wp2_with fail
  refine (H9.out _).mono ?_
  rintro e w8 ⟨rfl, b8⟩
  go_wp2_with fail
  refine (H12.out _).mono ?_
  rintro e w9 ⟨rfl, b9⟩
  go_wp2
  go_ret
  have c2 := b1.trans (b2.mono b1.size)
  have c3 := c2.trans (b3.mono c2.size)
  have c4 := c3.trans (b4.mono c3.size)
  have c5 := c4.trans (b5.mono c4.size)
  have c6 := c5.trans (b6.mono c5.size)
  have c7 := c6.trans (b7.mono c6.size)
  have c8 := c7.trans (b8.mono c7.size)
  have c9 := c8.trans (b9.mono c8.size)
  exact ⟨rfl, c9⟩

set_option maxHeartbeats 1000000 in
theorem within_1 (s : ByteArray) (hs : ¬ (300 : Int) < s.size) (f1 : isL 1 s.data.toList = true) (f2 : isL 2 s.data.toList = false) (f3 : isL 3 s.data.toList = false) (f4 : isL 4 s.data.toList = true) (f5 : isL 5 s.data.toList = false) (f9 : isL 9 s.data.toList = false) (w : World) :
    Calls Try.prog 6 #[.string s] w fun e w' => e = .returned (.bool true) ∧ Below w.heap.size w w' := by
  have HA := hide alive_any
  have H1 : Hid (∀ w, Calls Try.prog 19 #[.int .i64 1, .string s] w fun e w' => e = .returned (.bool true) ∧ Below w.heap.size w w') := hide (by rw [← f1]; exact is_any 1 s)
  have H2 : Hid (∀ w, Calls Try.prog 19 #[.int .i64 2, .string s] w fun e w' => e = .returned (.bool false) ∧ Below w.heap.size w w') := hide (by rw [← f2]; exact is_any 2 s)
  have H3 : Hid (∀ w, Calls Try.prog 19 #[.int .i64 3, .string s] w fun e w' => e = .returned (.bool false) ∧ Below w.heap.size w w') := hide (by rw [← f3]; exact is_any 3 s)
  have H4 : Hid (∀ w, Calls Try.prog 19 #[.int .i64 4, .string s] w fun e w' => e = .returned (.bool true) ∧ Below w.heap.size w w') := hide (by rw [← f4]; exact is_any 4 s)
  have H5 : Hid (∀ w, Calls Try.prog 19 #[.int .i64 5, .string s] w fun e w' => e = .returned (.bool false) ∧ Below w.heap.size w w') := hide (by rw [← f5]; exact is_any 5 s)
  have H9 : Hid (∀ w, Calls Try.prog 19 #[.int .i64 9, .string s] w fun e w' => e = .returned (.bool false) ∧ Below w.heap.size w w') := hide (by rw [← f9]; exact is_any 9 s)
  clear f1 f2 f3 f4 f5 f9
  go_enter Try.func6, Try.ntmps6
  go_wp2_with fail
  refine (H1.out _).mono ?_
  rintro e w1 ⟨rfl, b1⟩
  go_wp2_with fail
  refine (H4.out _).mono ?_
  rintro e w2 ⟨rfl, b2⟩
  go_wp2_with fail
  refine (H5.out _).mono ?_
  rintro e w3 ⟨rfl, b3⟩
  go_wp2_with fail
  refine (H1.out _).mono ?_
  rintro e w4 ⟨rfl, b4⟩
  go_wp2_with fail
  refine (H2.out _).mono ?_
  rintro e w5 ⟨rfl, b5⟩
  go_wp2_with fail
  refine (H3.out _).mono ?_
  rintro e w6 ⟨rfl, b6⟩
  go_wp2_with fail
  refine (HA.out _).mono ?_
  rintro e w7 ⟨rfl, b7⟩
  go_wp2_with fail
  refine (H9.out _).mono ?_
  rintro e w8 ⟨rfl, b8⟩
  go_wp2
  go_ret
  have c2 := b1.trans (b2.mono b1.size)
  have c3 := c2.trans (b3.mono c2.size)
  have c4 := c3.trans (b4.mono c3.size)
  have c5 := c4.trans (b5.mono c4.size)
  have c6 := c5.trans (b6.mono c5.size)
  have c7 := c6.trans (b7.mono c6.size)
  have c8 := c7.trans (b8.mono c7.size)
  exact ⟨rfl, c8⟩

set_option maxHeartbeats 1000000 in
theorem within_2 (s : ByteArray) (hs : ¬ (300 : Int) < s.size) (f1 : isL 1 s.data.toList = false) (f2 : isL 2 s.data.toList = true) (f4 : isL 4 s.data.toList = true) (f5 : isL 5 s.data.toList = false) (f9 : isL 9 s.data.toList = true) (f12 : isL 12 s.data.toList = true) (w : World) :
    Calls Try.prog 6 #[.string s] w fun e w' => e = .returned (.bool true) ∧ Below w.heap.size w w' := by
  have HA := hide alive_any
  have H1 : Hid (∀ w, Calls Try.prog 19 #[.int .i64 1, .string s] w fun e w' => e = .returned (.bool false) ∧ Below w.heap.size w w') := hide (by rw [← f1]; exact is_any 1 s)
  have H2 : Hid (∀ w, Calls Try.prog 19 #[.int .i64 2, .string s] w fun e w' => e = .returned (.bool true) ∧ Below w.heap.size w w') := hide (by rw [← f2]; exact is_any 2 s)
  have H4 : Hid (∀ w, Calls Try.prog 19 #[.int .i64 4, .string s] w fun e w' => e = .returned (.bool true) ∧ Below w.heap.size w w') := hide (by rw [← f4]; exact is_any 4 s)
  have H5 : Hid (∀ w, Calls Try.prog 19 #[.int .i64 5, .string s] w fun e w' => e = .returned (.bool false) ∧ Below w.heap.size w w') := hide (by rw [← f5]; exact is_any 5 s)
  have H9 : Hid (∀ w, Calls Try.prog 19 #[.int .i64 9, .string s] w fun e w' => e = .returned (.bool true) ∧ Below w.heap.size w w') := hide (by rw [← f9]; exact is_any 9 s)
  have H12 : Hid (∀ w, Calls Try.prog 19 #[.int .i64 12, .string s] w fun e w' => e = .returned (.bool true) ∧ Below w.heap.size w w') := hide (by rw [← f12]; exact is_any 12 s)
  clear f1 f2 f4 f5 f9 f12
  go_enter Try.func6, Try.ntmps6
  go_wp2_with fail
  refine (H1.out _).mono ?_
  rintro e w1 ⟨rfl, b1⟩
  go_wp2_with fail
  refine (H2.out _).mono ?_
  rintro e w2 ⟨rfl, b2⟩
  go_wp2_with fail
  refine (H4.out _).mono ?_
  rintro e w3 ⟨rfl, b3⟩
  go_wp2_with fail
  refine (H5.out _).mono ?_
  rintro e w4 ⟨rfl, b4⟩
  go_wp2_with fail
  refine (H1.out _).mono ?_
  rintro e w5 ⟨rfl, b5⟩
  go_wp2_with fail
  refine (HA.out _).mono ?_
  rintro e w6 ⟨rfl, b6⟩
  go_wp2_with fail
  refine (H9.out _).mono ?_
  rintro e w7 ⟨rfl, b7⟩
  go_wp2_with fail
  refine (H12.out _).mono ?_
  rintro e w8 ⟨rfl, b8⟩
  go_wp2
  go_ret
  have c2 := b1.trans (b2.mono b1.size)
  have c3 := c2.trans (b3.mono c2.size)
  have c4 := c3.trans (b4.mono c3.size)
  have c5 := c4.trans (b5.mono c4.size)
  have c6 := c5.trans (b6.mono c5.size)
  have c7 := c6.trans (b7.mono c6.size)
  have c8 := c7.trans (b8.mono c7.size)
  exact ⟨rfl, c8⟩

set_option maxHeartbeats 1000000 in
theorem within_3 (s : ByteArray) (hs : ¬ (300 : Int) < s.size) (f1 : isL 1 s.data.toList = false) (f2 : isL 2 s.data.toList = true) (f4 : isL 4 s.data.toList = true) (f5 : isL 5 s.data.toList = false) (f9 : isL 9 s.data.toList = false) (w : World) :
    Calls Try.prog 6 #[.string s] w fun e w' => e = .returned (.bool true) ∧ Below w.heap.size w w' := by
  have HA := hide alive_any
  have H1 : Hid (∀ w, Calls Try.prog 19 #[.int .i64 1, .string s] w fun e w' => e = .returned (.bool false) ∧ Below w.heap.size w w') := hide (by rw [← f1]; exact is_any 1 s)
  have H2 : Hid (∀ w, Calls Try.prog 19 #[.int .i64 2, .string s] w fun e w' => e = .returned (.bool true) ∧ Below w.heap.size w w') := hide (by rw [← f2]; exact is_any 2 s)
  have H4 : Hid (∀ w, Calls Try.prog 19 #[.int .i64 4, .string s] w fun e w' => e = .returned (.bool true) ∧ Below w.heap.size w w') := hide (by rw [← f4]; exact is_any 4 s)
  have H5 : Hid (∀ w, Calls Try.prog 19 #[.int .i64 5, .string s] w fun e w' => e = .returned (.bool false) ∧ Below w.heap.size w w') := hide (by rw [← f5]; exact is_any 5 s)
  have H9 : Hid (∀ w, Calls Try.prog 19 #[.int .i64 9, .string s] w fun e w' => e = .returned (.bool false) ∧ Below w.heap.size w w') := hide (by rw [← f9]; exact is_any 9 s)
  clear f1 f2 f4 f5 f9
  go_enter Try.func6, Try.ntmps6
  go_wp2_with fail
  refine (H1.out _).mono ?_
  rintro e w1 ⟨rfl, b1⟩
  go_wp2_with fail
  refine (H2.out _).mono ?_
  rintro e w2 ⟨rfl, b2⟩
  go_wp2_with fail
  refine (H4.out _).mono ?_
  rintro e w3 ⟨rfl, b3⟩
  go_wp2_with fail
  refine (H5.out _).mono ?_
  rintro e w4 ⟨rfl, b4⟩
  go_wp2_with fail
  refine (H1.out _).mono ?_
  rintro e w5 ⟨rfl, b5⟩
  go_wp2_with fail
  refine (HA.out _).mono ?_
  rintro e w6 ⟨rfl, b6⟩
  go_wp2_with fail
  refine (H9.out _).mono ?_
  rintro e w7 ⟨rfl, b7⟩
  go_wp2
  go_ret
  have c2 := b1.trans (b2.mono b1.size)
  have c3 := c2.trans (b3.mono c2.size)
  have c4 := c3.trans (b4.mono c3.size)
  have c5 := c4.trans (b5.mono c4.size)
  have c6 := c5.trans (b6.mono c5.size)
  have c7 := c6.trans (b7.mono c6.size)
  exact ⟨rfl, c7⟩

set_option maxHeartbeats 1000000 in
theorem within_4 (s : ByteArray) (hs : ¬ (300 : Int) < s.size) (f1 : isL 1 s.data.toList = false) (f2 : isL 2 s.data.toList = false) (f3 : isL 3 s.data.toList = true) (f4 : isL 4 s.data.toList = true) (f5 : isL 5 s.data.toList = false) (f9 : isL 9 s.data.toList = true) (f12 : isL 12 s.data.toList = true) (w : World) :
    Calls Try.prog 6 #[.string s] w fun e w' => e = .returned (.bool true) ∧ Below w.heap.size w w' := by
  have HA := hide alive_any
  have H1 : Hid (∀ w, Calls Try.prog 19 #[.int .i64 1, .string s] w fun e w' => e = .returned (.bool false) ∧ Below w.heap.size w w') := hide (by rw [← f1]; exact is_any 1 s)
  have H2 : Hid (∀ w, Calls Try.prog 19 #[.int .i64 2, .string s] w fun e w' => e = .returned (.bool false) ∧ Below w.heap.size w w') := hide (by rw [← f2]; exact is_any 2 s)
  have H3 : Hid (∀ w, Calls Try.prog 19 #[.int .i64 3, .string s] w fun e w' => e = .returned (.bool true) ∧ Below w.heap.size w w') := hide (by rw [← f3]; exact is_any 3 s)
  have H4 : Hid (∀ w, Calls Try.prog 19 #[.int .i64 4, .string s] w fun e w' => e = .returned (.bool true) ∧ Below w.heap.size w w') := hide (by rw [← f4]; exact is_any 4 s)
  have H5 : Hid (∀ w, Calls Try.prog 19 #[.int .i64 5, .string s] w fun e w' => e = .returned (.bool false) ∧ Below w.heap.size w w') := hide (by rw [← f5]; exact is_any 5 s)
  have H9 : Hid (∀ w, Calls Try.prog 19 #[.int .i64 9, .string s] w fun e w' => e = .returned (.bool true) ∧ Below w.heap.size w w') := hide (by rw [← f9]; exact is_any 9 s)
  have H12 : Hid (∀ w, Calls Try.prog 19 #[.int .i64 12, .string s] w fun e w' => e = .returned (.bool true) ∧ Below w.heap.size w w') := hide (by rw [← f12]; exact is_any 12 s)
  clear f1 f2 f3 f4 f5 f9 f12
  go_enter Try.func6, Try.ntmps6
  go_wp2_with fail
  refine (H1.out _).mono ?_
  rintro e w1 ⟨rfl, b1⟩
  go_wp2_with fail
  refine (H2.out _).mono ?_
  rintro e w2 ⟨rfl, b2⟩
  go_wp2_with fail
  refine (H3.out _).mono ?_
  rintro e w3 ⟨rfl, b3⟩
  go_wp2_with fail
  refine (H4.out _).mono ?_
  rintro e w4 ⟨rfl, b4⟩
  go_wp2_with fail
  refine (H5.out _).mono ?_
  rintro e w5 ⟨rfl, b5⟩
  go_wp2_with fail
  refine (H1.out _).mono ?_
  rintro e w6 ⟨rfl, b6⟩
  go_wp2_with fail
  refine (HA.out _).mono ?_
  rintro e w7 ⟨rfl, b7⟩
  go_wp2_with fail
  refine (H9.out _).mono ?_
  rintro e w8 ⟨rfl, b8⟩
  go_wp2_with fail
  refine (H12.out _).mono ?_
  rintro e w9 ⟨rfl, b9⟩
  go_wp2
  go_ret
  have c2 := b1.trans (b2.mono b1.size)
  have c3 := c2.trans (b3.mono c2.size)
  have c4 := c3.trans (b4.mono c3.size)
  have c5 := c4.trans (b5.mono c4.size)
  have c6 := c5.trans (b6.mono c5.size)
  have c7 := c6.trans (b7.mono c6.size)
  have c8 := c7.trans (b8.mono c7.size)
  have c9 := c8.trans (b9.mono c8.size)
  exact ⟨rfl, c9⟩

set_option maxHeartbeats 1000000 in
theorem within_5 (s : ByteArray) (hs : ¬ (300 : Int) < s.size) (f1 : isL 1 s.data.toList = false) (f2 : isL 2 s.data.toList = false) (f3 : isL 3 s.data.toList = true) (f4 : isL 4 s.data.toList = true) (f5 : isL 5 s.data.toList = false) (f9 : isL 9 s.data.toList = false) (w : World) :
    Calls Try.prog 6 #[.string s] w fun e w' => e = .returned (.bool true) ∧ Below w.heap.size w w' := by
  have HA := hide alive_any
  have H1 : Hid (∀ w, Calls Try.prog 19 #[.int .i64 1, .string s] w fun e w' => e = .returned (.bool false) ∧ Below w.heap.size w w') := hide (by rw [← f1]; exact is_any 1 s)
  have H2 : Hid (∀ w, Calls Try.prog 19 #[.int .i64 2, .string s] w fun e w' => e = .returned (.bool false) ∧ Below w.heap.size w w') := hide (by rw [← f2]; exact is_any 2 s)
  have H3 : Hid (∀ w, Calls Try.prog 19 #[.int .i64 3, .string s] w fun e w' => e = .returned (.bool true) ∧ Below w.heap.size w w') := hide (by rw [← f3]; exact is_any 3 s)
  have H4 : Hid (∀ w, Calls Try.prog 19 #[.int .i64 4, .string s] w fun e w' => e = .returned (.bool true) ∧ Below w.heap.size w w') := hide (by rw [← f4]; exact is_any 4 s)
  have H5 : Hid (∀ w, Calls Try.prog 19 #[.int .i64 5, .string s] w fun e w' => e = .returned (.bool false) ∧ Below w.heap.size w w') := hide (by rw [← f5]; exact is_any 5 s)
  have H9 : Hid (∀ w, Calls Try.prog 19 #[.int .i64 9, .string s] w fun e w' => e = .returned (.bool false) ∧ Below w.heap.size w w') := hide (by rw [← f9]; exact is_any 9 s)
  clear f1 f2 f3 f4 f5 f9
  go_enter Try.func6, Try.ntmps6
  go_wp2_with fail
  refine (H1.out _).mono ?_
  rintro e w1 ⟨rfl, b1⟩
  go_wp2_with fail
  refine (H2.out _).mono ?_
  rintro e w2 ⟨rfl, b2⟩
  go_wp2_with fail
  refine (H3.out _).mono ?_
  rintro e w3 ⟨rfl, b3⟩
  go_wp2_with fail
  refine (H4.out _).mono ?_
  rintro e w4 ⟨rfl, b4⟩
  go_wp2_with fail
  refine (H5.out _).mono ?_
  rintro e w5 ⟨rfl, b5⟩
  go_wp2_with fail
  refine (H1.out _).mono ?_
  rintro e w6 ⟨rfl, b6⟩
  go_wp2_with fail
  refine (HA.out _).mono ?_
  rintro e w7 ⟨rfl, b7⟩
  go_wp2_with fail
  refine (H9.out _).mono ?_
  rintro e w8 ⟨rfl, b8⟩
  go_wp2
  go_ret
  have c2 := b1.trans (b2.mono b1.size)
  have c3 := c2.trans (b3.mono c2.size)
  have c4 := c3.trans (b4.mono c3.size)
  have c5 := c4.trans (b5.mono c4.size)
  have c6 := c5.trans (b6.mono c5.size)
  have c7 := c6.trans (b7.mono c6.size)
  have c8 := c7.trans (b8.mono c7.size)
  exact ⟨rfl, c8⟩

set_option maxHeartbeats 1000000 in
theorem within_6 (s : ByteArray) (hs : ¬ (300 : Int) < s.size) (f1 : isL 1 s.data.toList = false) (f2 : isL 2 s.data.toList = false) (f3 : isL 3 s.data.toList = false) (f4 : isL 4 s.data.toList = true) (f5 : isL 5 s.data.toList = false) (f7 : isL 7 s.data.toList = true) (f9 : isL 9 s.data.toList = true) (f12 : isL 12 s.data.toList = true) (w : World) :
    Calls Try.prog 6 #[.string s] w fun e w' => e = .returned (.bool true) ∧ Below w.heap.size w w' := by
  have HA := hide alive_any
  have H1 : Hid (∀ w, Calls Try.prog 19 #[.int .i64 1, .string s] w fun e w' => e = .returned (.bool false) ∧ Below w.heap.size w w') := hide (by rw [← f1]; exact is_any 1 s)
  have H2 : Hid (∀ w, Calls Try.prog 19 #[.int .i64 2, .string s] w fun e w' => e = .returned (.bool false) ∧ Below w.heap.size w w') := hide (by rw [← f2]; exact is_any 2 s)
  have H3 : Hid (∀ w, Calls Try.prog 19 #[.int .i64 3, .string s] w fun e w' => e = .returned (.bool false) ∧ Below w.heap.size w w') := hide (by rw [← f3]; exact is_any 3 s)
  have H4 : Hid (∀ w, Calls Try.prog 19 #[.int .i64 4, .string s] w fun e w' => e = .returned (.bool true) ∧ Below w.heap.size w w') := hide (by rw [← f4]; exact is_any 4 s)
  have H5 : Hid (∀ w, Calls Try.prog 19 #[.int .i64 5, .string s] w fun e w' => e = .returned (.bool false) ∧ Below w.heap.size w w') := hide (by rw [← f5]; exact is_any 5 s)
  have H7 : Hid (∀ w, Calls Try.prog 19 #[.int .i64 7, .string s] w fun e w' => e = .returned (.bool true) ∧ Below w.heap.size w w') := hide (by rw [← f7]; exact is_any 7 s)
  have H9 : Hid (∀ w, Calls Try.prog 19 #[.int .i64 9, .string s] w fun e w' => e = .returned (.bool true) ∧ Below w.heap.size w w') := hide (by rw [← f9]; exact is_any 9 s)
  have H12 : Hid (∀ w, Calls Try.prog 19 #[.int .i64 12, .string s] w fun e w' => e = .returned (.bool true) ∧ Below w.heap.size w w') := hide (by rw [← f12]; exact is_any 12 s)
  clear f1 f2 f3 f4 f5 f7 f9 f12
  go_enter Try.func6, Try.ntmps6
  go_wp2_with fail
  refine (H1.out _).mono ?_
  rintro e w1 ⟨rfl, b1⟩
  go_wp2_with fail
  refine (H2.out _).mono ?_
  rintro e w2 ⟨rfl, b2⟩
  go_wp2_with fail
  refine (H3.out _).mono ?_
  rintro e w3 ⟨rfl, b3⟩
  go_wp2_with fail
  refine (H7.out _).mono ?_
  rintro e w4 ⟨rfl, b4⟩
  go_wp2_with fail
  refine (H4.out _).mono ?_
  rintro e w5 ⟨rfl, b5⟩
  go_wp2_with fail
  refine (H5.out _).mono ?_
  rintro e w6 ⟨rfl, b6⟩
  go_wp2_with fail
  refine (H1.out _).mono ?_
  rintro e w7 ⟨rfl, b7⟩
  go_wp2_with fail
  refine (HA.out _).mono ?_
  rintro e w8 ⟨rfl, b8⟩
  go_wp2_with fail
  refine (H9.out _).mono ?_
  rintro e w9 ⟨rfl, b9⟩
  go_wp2_with fail
  refine (H12.out _).mono ?_
  rintro e w10 ⟨rfl, b10⟩
  go_wp2
  go_ret
  have c2 := b1.trans (b2.mono b1.size)
  have c3 := c2.trans (b3.mono c2.size)
  have c4 := c3.trans (b4.mono c3.size)
  have c5 := c4.trans (b5.mono c4.size)
  have c6 := c5.trans (b6.mono c5.size)
  have c7 := c6.trans (b7.mono c6.size)
  have c8 := c7.trans (b8.mono c7.size)
  have c9 := c8.trans (b9.mono c8.size)
  have c10 := c9.trans (b10.mono c9.size)
  exact ⟨rfl, c10⟩

set_option maxHeartbeats 1000000 in
theorem within_7 (s : ByteArray) (hs : ¬ (300 : Int) < s.size) (f1 : isL 1 s.data.toList = false) (f2 : isL 2 s.data.toList = false) (f3 : isL 3 s.data.toList = false) (f4 : isL 4 s.data.toList = true) (f5 : isL 5 s.data.toList = false) (f7 : isL 7 s.data.toList = true) (f9 : isL 9 s.data.toList = false) (w : World) :
    Calls Try.prog 6 #[.string s] w fun e w' => e = .returned (.bool true) ∧ Below w.heap.size w w' := by
  have HA := hide alive_any
  have H1 : Hid (∀ w, Calls Try.prog 19 #[.int .i64 1, .string s] w fun e w' => e = .returned (.bool false) ∧ Below w.heap.size w w') := hide (by rw [← f1]; exact is_any 1 s)
  have H2 : Hid (∀ w, Calls Try.prog 19 #[.int .i64 2, .string s] w fun e w' => e = .returned (.bool false) ∧ Below w.heap.size w w') := hide (by rw [← f2]; exact is_any 2 s)
  have H3 : Hid (∀ w, Calls Try.prog 19 #[.int .i64 3, .string s] w fun e w' => e = .returned (.bool false) ∧ Below w.heap.size w w') := hide (by rw [← f3]; exact is_any 3 s)
  have H4 : Hid (∀ w, Calls Try.prog 19 #[.int .i64 4, .string s] w fun e w' => e = .returned (.bool true) ∧ Below w.heap.size w w') := hide (by rw [← f4]; exact is_any 4 s)
  have H5 : Hid (∀ w, Calls Try.prog 19 #[.int .i64 5, .string s] w fun e w' => e = .returned (.bool false) ∧ Below w.heap.size w w') := hide (by rw [← f5]; exact is_any 5 s)
  have H7 : Hid (∀ w, Calls Try.prog 19 #[.int .i64 7, .string s] w fun e w' => e = .returned (.bool true) ∧ Below w.heap.size w w') := hide (by rw [← f7]; exact is_any 7 s)
  have H9 : Hid (∀ w, Calls Try.prog 19 #[.int .i64 9, .string s] w fun e w' => e = .returned (.bool false) ∧ Below w.heap.size w w') := hide (by rw [← f9]; exact is_any 9 s)
  clear f1 f2 f3 f4 f5 f7 f9
  go_enter Try.func6, Try.ntmps6
  go_wp2_with fail
  refine (H1.out _).mono ?_
  rintro e w1 ⟨rfl, b1⟩
  go_wp2_with fail
  refine (H2.out _).mono ?_
  rintro e w2 ⟨rfl, b2⟩
  go_wp2_with fail
  refine (H3.out _).mono ?_
  rintro e w3 ⟨rfl, b3⟩
  go_wp2_with fail
  refine (H7.out _).mono ?_
  rintro e w4 ⟨rfl, b4⟩
  go_wp2_with fail
  refine (H4.out _).mono ?_
  rintro e w5 ⟨rfl, b5⟩
  go_wp2_with fail
  refine (H5.out _).mono ?_
  rintro e w6 ⟨rfl, b6⟩
  go_wp2_with fail
  refine (H1.out _).mono ?_
  rintro e w7 ⟨rfl, b7⟩
  go_wp2_with fail
  refine (HA.out _).mono ?_
  rintro e w8 ⟨rfl, b8⟩
  go_wp2_with fail
  refine (H9.out _).mono ?_
  rintro e w9 ⟨rfl, b9⟩
  go_wp2
  go_ret
  have c2 := b1.trans (b2.mono b1.size)
  have c3 := c2.trans (b3.mono c2.size)
  have c4 := c3.trans (b4.mono c3.size)
  have c5 := c4.trans (b5.mono c4.size)
  have c6 := c5.trans (b6.mono c5.size)
  have c7 := c6.trans (b7.mono c6.size)
  have c8 := c7.trans (b8.mono c7.size)
  have c9 := c8.trans (b9.mono c8.size)
  exact ⟨rfl, c9⟩

set_option maxHeartbeats 1000000 in
theorem within_8 (s : ByteArray) (hs : ¬ (300 : Int) < s.size) (f1 : isL 1 s.data.toList = false) (f2 : isL 2 s.data.toList = false) (f3 : isL 3 s.data.toList = false) (f4 : isL 4 s.data.toList = true) (f5 : isL 5 s.data.toList = false) (f6 : isL 6 s.data.toList = true) (f7 : isL 7 s.data.toList = false) (f9 : isL 9 s.data.toList = true) (f12 : isL 12 s.data.toList = true) (w : World) :
    Calls Try.prog 6 #[.string s] w fun e w' => e = .returned (.bool true) ∧ Below w.heap.size w w' := by
  have HA := hide alive_any
  have H1 : Hid (∀ w, Calls Try.prog 19 #[.int .i64 1, .string s] w fun e w' => e = .returned (.bool false) ∧ Below w.heap.size w w') := hide (by rw [← f1]; exact is_any 1 s)
  have H2 : Hid (∀ w, Calls Try.prog 19 #[.int .i64 2, .string s] w fun e w' => e = .returned (.bool false) ∧ Below w.heap.size w w') := hide (by rw [← f2]; exact is_any 2 s)
  have H3 : Hid (∀ w, Calls Try.prog 19 #[.int .i64 3, .string s] w fun e w' => e = .returned (.bool false) ∧ Below w.heap.size w w') := hide (by rw [← f3]; exact is_any 3 s)
  have H4 : Hid (∀ w, Calls Try.prog 19 #[.int .i64 4, .string s] w fun e w' => e = .returned (.bool true) ∧ Below w.heap.size w w') := hide (by rw [← f4]; exact is_any 4 s)
  have H5 : Hid (∀ w, Calls Try.prog 19 #[.int .i64 5, .string s] w fun e w' => e = .returned (.bool false) ∧ Below w.heap.size w w') := hide (by rw [← f5]; exact is_any 5 s)
  have H6 : Hid (∀ w, Calls Try.prog 19 #[.int .i64 6, .string s] w fun e w' => e = .returned (.bool true) ∧ Below w.heap.size w w') := hide (by rw [← f6]; exact is_any 6 s)
  have H7 : Hid (∀ w, Calls Try.prog 19 #[.int .i64 7, .string s] w fun e w' => e = .returned (.bool false) ∧ Below w.heap.size w w') := hide (by rw [← f7]; exact is_any 7 s)
  have H9 : Hid (∀ w, Calls Try.prog 19 #[.int .i64 9, .string s] w fun e w' => e = .returned (.bool true) ∧ Below w.heap.size w w') := hide (by rw [← f9]; exact is_any 9 s)
  have H12 : Hid (∀ w, Calls Try.prog 19 #[.int .i64 12, .string s] w fun e w' => e = .returned (.bool true) ∧ Below w.heap.size w w') := hide (by rw [← f12]; exact is_any 12 s)
  clear f1 f2 f3 f4 f5 f6 f7 f9 f12
  go_enter Try.func6, Try.ntmps6
  go_wp2_with fail
  refine (H1.out _).mono ?_
  rintro e w1 ⟨rfl, b1⟩
  go_wp2_with fail
  refine (H2.out _).mono ?_
  rintro e w2 ⟨rfl, b2⟩
  go_wp2_with fail
  refine (H3.out _).mono ?_
  rintro e w3 ⟨rfl, b3⟩
  go_wp2_with fail
  refine (H7.out _).mono ?_
  rintro e w4 ⟨rfl, b4⟩
  go_wp2_with fail
  refine (H6.out _).mono ?_
  rintro e w5 ⟨rfl, b5⟩
  go_wp2_with fail
  refine (H4.out _).mono ?_
  rintro e w6 ⟨rfl, b6⟩
  go_wp2_with fail
  refine (H5.out _).mono ?_
  rintro e w7 ⟨rfl, b7⟩
  go_wp2_with fail
  refine (H1.out _).mono ?_
  rintro e w8 ⟨rfl, b8⟩
  go_wp2_with fail
  refine (HA.out _).mono ?_
  rintro e w9 ⟨rfl, b9⟩
  go_wp2_with fail
  refine (H9.out _).mono ?_
  rintro e w10 ⟨rfl, b10⟩
  go_wp2_with fail
  refine (H12.out _).mono ?_
  rintro e w11 ⟨rfl, b11⟩
  go_wp2
  go_ret
  have c2 := b1.trans (b2.mono b1.size)
  have c3 := c2.trans (b3.mono c2.size)
  have c4 := c3.trans (b4.mono c3.size)
  have c5 := c4.trans (b5.mono c4.size)
  have c6 := c5.trans (b6.mono c5.size)
  have c7 := c6.trans (b7.mono c6.size)
  have c8 := c7.trans (b8.mono c7.size)
  have c9 := c8.trans (b9.mono c8.size)
  have c10 := c9.trans (b10.mono c9.size)
  have c11 := c10.trans (b11.mono c10.size)
  exact ⟨rfl, c11⟩

set_option maxHeartbeats 1000000 in
theorem within_9 (s : ByteArray) (hs : ¬ (300 : Int) < s.size) (f1 : isL 1 s.data.toList = false) (f2 : isL 2 s.data.toList = false) (f3 : isL 3 s.data.toList = false) (f4 : isL 4 s.data.toList = true) (f5 : isL 5 s.data.toList = false) (f6 : isL 6 s.data.toList = true) (f7 : isL 7 s.data.toList = false) (f9 : isL 9 s.data.toList = false) (w : World) :
    Calls Try.prog 6 #[.string s] w fun e w' => e = .returned (.bool true) ∧ Below w.heap.size w w' := by
  have HA := hide alive_any
  have H1 : Hid (∀ w, Calls Try.prog 19 #[.int .i64 1, .string s] w fun e w' => e = .returned (.bool false) ∧ Below w.heap.size w w') := hide (by rw [← f1]; exact is_any 1 s)
  have H2 : Hid (∀ w, Calls Try.prog 19 #[.int .i64 2, .string s] w fun e w' => e = .returned (.bool false) ∧ Below w.heap.size w w') := hide (by rw [← f2]; exact is_any 2 s)
  have H3 : Hid (∀ w, Calls Try.prog 19 #[.int .i64 3, .string s] w fun e w' => e = .returned (.bool false) ∧ Below w.heap.size w w') := hide (by rw [← f3]; exact is_any 3 s)
  have H4 : Hid (∀ w, Calls Try.prog 19 #[.int .i64 4, .string s] w fun e w' => e = .returned (.bool true) ∧ Below w.heap.size w w') := hide (by rw [← f4]; exact is_any 4 s)
  have H5 : Hid (∀ w, Calls Try.prog 19 #[.int .i64 5, .string s] w fun e w' => e = .returned (.bool false) ∧ Below w.heap.size w w') := hide (by rw [← f5]; exact is_any 5 s)
  have H6 : Hid (∀ w, Calls Try.prog 19 #[.int .i64 6, .string s] w fun e w' => e = .returned (.bool true) ∧ Below w.heap.size w w') := hide (by rw [← f6]; exact is_any 6 s)
  have H7 : Hid (∀ w, Calls Try.prog 19 #[.int .i64 7, .string s] w fun e w' => e = .returned (.bool false) ∧ Below w.heap.size w w') := hide (by rw [← f7]; exact is_any 7 s)
  have H9 : Hid (∀ w, Calls Try.prog 19 #[.int .i64 9, .string s] w fun e w' => e = .returned (.bool false) ∧ Below w.heap.size w w') := hide (by rw [← f9]; exact is_any 9 s)
  clear f1 f2 f3 f4 f5 f6 f7 f9
  go_enter Try.func6, Try.ntmps6
  go_wp2_with fail
  refine (H1.out _).mono ?_
  rintro e w1 ⟨rfl, b1⟩
  go_wp2_with fail
  refine (H2.out _).mono ?_
  rintro e w2 ⟨rfl, b2⟩
  go_wp2_with fail
  refine (H3.out _).mono ?_
  rintro e w3 ⟨rfl, b3⟩
  go_wp2_with fail
  refine (H7.out _).mono ?_
  rintro e w4 ⟨rfl, b4⟩
  go_wp2_with fail
  refine (H6.out _).mono ?_
  rintro e w5 ⟨rfl, b5⟩
  go_wp2_with fail
  refine (H4.out _).mono ?_
  rintro e w6 ⟨rfl, b6⟩
  go_wp2_with fail
  refine (H5.out _).mono ?_
  rintro e w7 ⟨rfl, b7⟩
  go_wp2_with fail
  refine (H1.out _).mono ?_
  rintro e w8 ⟨rfl, b8⟩
  go_wp2_with fail
  refine (HA.out _).mono ?_
  rintro e w9 ⟨rfl, b9⟩
  go_wp2_with fail
  refine (H9.out _).mono ?_
  rintro e w10 ⟨rfl, b10⟩
  go_wp2
  go_ret
  have c2 := b1.trans (b2.mono b1.size)
  have c3 := c2.trans (b3.mono c2.size)
  have c4 := c3.trans (b4.mono c3.size)
  have c5 := c4.trans (b5.mono c4.size)
  have c6 := c5.trans (b6.mono c5.size)
  have c7 := c6.trans (b7.mono c6.size)
  have c8 := c7.trans (b8.mono c7.size)
  have c9 := c8.trans (b9.mono c8.size)
  have c10 := c9.trans (b10.mono c9.size)
  exact ⟨rfl, c10⟩

set_option maxHeartbeats 1000000 in
theorem within_10 (s : ByteArray) (hs : ¬ (300 : Int) < s.size) (f1 : isL 1 s.data.toList = false) (f2 : isL 2 s.data.toList = false) (f3 : isL 3 s.data.toList = false) (f4 : isL 4 s.data.toList = true) (f5 : isL 5 s.data.toList = false) (f6 : isL 6 s.data.toList = false) (f7 : isL 7 s.data.toList = false) (f9 : isL 9 s.data.toList = true) (f12 : isL 12 s.data.toList = true) (w : World) :
    Calls Try.prog 6 #[.string s] w fun e w' => e = .returned (.bool true) ∧ Below w.heap.size w w' := by
  have HA := hide alive_any
  have H1 : Hid (∀ w, Calls Try.prog 19 #[.int .i64 1, .string s] w fun e w' => e = .returned (.bool false) ∧ Below w.heap.size w w') := hide (by rw [← f1]; exact is_any 1 s)
  have H2 : Hid (∀ w, Calls Try.prog 19 #[.int .i64 2, .string s] w fun e w' => e = .returned (.bool false) ∧ Below w.heap.size w w') := hide (by rw [← f2]; exact is_any 2 s)
  have H3 : Hid (∀ w, Calls Try.prog 19 #[.int .i64 3, .string s] w fun e w' => e = .returned (.bool false) ∧ Below w.heap.size w w') := hide (by rw [← f3]; exact is_any 3 s)
  have H4 : Hid (∀ w, Calls Try.prog 19 #[.int .i64 4, .string s] w fun e w' => e = .returned (.bool true) ∧ Below w.heap.size w w') := hide (by rw [← f4]; exact is_any 4 s)
  have H5 : Hid (∀ w, Calls Try.prog 19 #[.int .i64 5, .string s] w fun e w' => e = .returned (.bool false) ∧ Below w.heap.size w w') := hide (by rw [← f5]; exact is_any 5 s)
  have H6 : Hid (∀ w, Calls Try.prog 19 #[.int .i64 6, .string s] w fun e w' => e = .returned (.bool false) ∧ Below w.heap.size w w') := hide (by rw [← f6]; exact is_any 6 s)
  have H7 : Hid (∀ w, Calls Try.prog 19 #[.int .i64 7, .string s] w fun e w' => e = .returned (.bool false) ∧ Below w.heap.size w w') := hide (by rw [← f7]; exact is_any 7 s)
  have H9 : Hid (∀ w, Calls Try.prog 19 #[.int .i64 9, .string s] w fun e w' => e = .returned (.bool true) ∧ Below w.heap.size w w') := hide (by rw [← f9]; exact is_any 9 s)
  have H12 : Hid (∀ w, Calls Try.prog 19 #[.int .i64 12, .string s] w fun e w' => e = .returned (.bool true) ∧ Below w.heap.size w w') := hide (by rw [← f12]; exact is_any 12 s)
  clear f1 f2 f3 f4 f5 f6 f7 f9 f12
  go_enter Try.func6, Try.ntmps6
  go_wp2_with fail
  refine (H1.out _).mono ?_
  rintro e w1 ⟨rfl, b1⟩
  go_wp2_with fail
  refine (H2.out _).mono ?_
  rintro e w2 ⟨rfl, b2⟩
  go_wp2_with fail
  refine (H3.out _).mono ?_
  rintro e w3 ⟨rfl, b3⟩
  go_wp2_with fail
  refine (H7.out _).mono ?_
  rintro e w4 ⟨rfl, b4⟩
  go_wp2_with fail
  refine (H6.out _).mono ?_
  rintro e w5 ⟨rfl, b5⟩
  go_wp2_with fail
  refine (H9.out _).mono ?_
  rintro e w6 ⟨rfl, b6⟩
  go_wp2_with fail
  refine (H4.out _).mono ?_
  rintro e w7 ⟨rfl, b7⟩
  go_wp2_with fail
  refine (H5.out _).mono ?_
  rintro e w8 ⟨rfl, b8⟩
  go_wp2_with fail
  refine (H1.out _).mono ?_
  rintro e w9 ⟨rfl, b9⟩
  go_wp2_with fail
  refine (HA.out _).mono ?_
  rintro e w10 ⟨rfl, b10⟩
  go_wp2_with fail
  refine (H9.out _).mono ?_
  rintro e w11 ⟨rfl, b11⟩
  go_wp2_with fail
  refine (H12.out _).mono ?_
  rintro e w12 ⟨rfl, b12⟩
  go_wp2
  go_ret
  have c2 := b1.trans (b2.mono b1.size)
  have c3 := c2.trans (b3.mono c2.size)
  have c4 := c3.trans (b4.mono c3.size)
  have c5 := c4.trans (b5.mono c4.size)
  have c6 := c5.trans (b6.mono c5.size)
  have c7 := c6.trans (b7.mono c6.size)
  have c8 := c7.trans (b8.mono c7.size)
  have c9 := c8.trans (b9.mono c8.size)
  have c10 := c9.trans (b10.mono c9.size)
  have c11 := c10.trans (b11.mono c10.size)
  have c12 := c11.trans (b12.mono c11.size)
  exact ⟨rfl, c12⟩

set_option maxHeartbeats 1000000 in
theorem within_11 (s : ByteArray) (hs : ¬ (300 : Int) < s.size) (f1 : isL 1 s.data.toList = false) (f2 : isL 2 s.data.toList = false) (f3 : isL 3 s.data.toList = false) (f4 : isL 4 s.data.toList = true) (f5 : isL 5 s.data.toList = false) (f6 : isL 6 s.data.toList = false) (f7 : isL 7 s.data.toList = false) (f9 : isL 9 s.data.toList = false) (f11 : isL 11 s.data.toList = true) (w : World) :
    Calls Try.prog 6 #[.string s] w fun e w' => e = .returned (.bool true) ∧ Below w.heap.size w w' := by
  have HA := hide alive_any
  have H1 : Hid (∀ w, Calls Try.prog 19 #[.int .i64 1, .string s] w fun e w' => e = .returned (.bool false) ∧ Below w.heap.size w w') := hide (by rw [← f1]; exact is_any 1 s)
  have H2 : Hid (∀ w, Calls Try.prog 19 #[.int .i64 2, .string s] w fun e w' => e = .returned (.bool false) ∧ Below w.heap.size w w') := hide (by rw [← f2]; exact is_any 2 s)
  have H3 : Hid (∀ w, Calls Try.prog 19 #[.int .i64 3, .string s] w fun e w' => e = .returned (.bool false) ∧ Below w.heap.size w w') := hide (by rw [← f3]; exact is_any 3 s)
  have H4 : Hid (∀ w, Calls Try.prog 19 #[.int .i64 4, .string s] w fun e w' => e = .returned (.bool true) ∧ Below w.heap.size w w') := hide (by rw [← f4]; exact is_any 4 s)
  have H5 : Hid (∀ w, Calls Try.prog 19 #[.int .i64 5, .string s] w fun e w' => e = .returned (.bool false) ∧ Below w.heap.size w w') := hide (by rw [← f5]; exact is_any 5 s)
  have H6 : Hid (∀ w, Calls Try.prog 19 #[.int .i64 6, .string s] w fun e w' => e = .returned (.bool false) ∧ Below w.heap.size w w') := hide (by rw [← f6]; exact is_any 6 s)
  have H7 : Hid (∀ w, Calls Try.prog 19 #[.int .i64 7, .string s] w fun e w' => e = .returned (.bool false) ∧ Below w.heap.size w w') := hide (by rw [← f7]; exact is_any 7 s)
  have H9 : Hid (∀ w, Calls Try.prog 19 #[.int .i64 9, .string s] w fun e w' => e = .returned (.bool false) ∧ Below w.heap.size w w') := hide (by rw [← f9]; exact is_any 9 s)
  have H11 : Hid (∀ w, Calls Try.prog 19 #[.int .i64 11, .string s] w fun e w' => e = .returned (.bool true) ∧ Below w.heap.size w w') := hide (by rw [← f11]; exact is_any 11 s)
  clear f1 f2 f3 f4 f5 f6 f7 f9 f11
  go_enter Try.func6, Try.ntmps6
  go_wp2_with fail
  refine (H1.out _).mono ?_
  rintro e w1 ⟨rfl, b1⟩
  go_wp2_with fail
  refine (H2.out _).mono ?_
  rintro e w2 ⟨rfl, b2⟩
  go_wp2_with fail
  refine (H3.out _).mono ?_
  rintro e w3 ⟨rfl, b3⟩
  go_wp2_with fail
  refine (H7.out _).mono ?_
  rintro e w4 ⟨rfl, b4⟩
  go_wp2_with fail
  refine (H6.out _).mono ?_
  rintro e w5 ⟨rfl, b5⟩
  go_wp2_with fail
  refine (H9.out _).mono ?_
  rintro e w6 ⟨rfl, b6⟩
  go_wp2_with fail
  refine (H11.out _).mono ?_
  rintro e w7 ⟨rfl, b7⟩
  go_wp2_with fail
  refine (H4.out _).mono ?_
  rintro e w8 ⟨rfl, b8⟩
  go_wp2_with fail
  refine (H5.out _).mono ?_
  rintro e w9 ⟨rfl, b9⟩
  go_wp2_with fail
  refine (H1.out _).mono ?_
  rintro e w10 ⟨rfl, b10⟩
  go_wp2_with fail
  refine (HA.out _).mono ?_
  rintro e w11 ⟨rfl, b11⟩
  go_wp2_with fail
  refine (H9.out _).mono ?_
  rintro e w12 ⟨rfl, b12⟩
  go_wp2
  go_ret
  have c2 := b1.trans (b2.mono b1.size)
  have c3 := c2.trans (b3.mono c2.size)
  have c4 := c3.trans (b4.mono c3.size)
  have c5 := c4.trans (b5.mono c4.size)
  have c6 := c5.trans (b6.mono c5.size)
  have c7 := c6.trans (b7.mono c6.size)
  have c8 := c7.trans (b8.mono c7.size)
  have c9 := c8.trans (b9.mono c8.size)
  have c10 := c9.trans (b10.mono c9.size)
  have c11 := c10.trans (b11.mono c10.size)
  have c12 := c11.trans (b12.mono c11.size)
  exact ⟨rfl, c12⟩

set_option maxHeartbeats 1000000 in
theorem within_12 (s : ByteArray) (hs : ¬ (300 : Int) < s.size) (f1 : isL 1 s.data.toList = false) (f2 : isL 2 s.data.toList = false) (f3 : isL 3 s.data.toList = false) (f4 : isL 4 s.data.toList = false) (f5 : isL 5 s.data.toList = true) (f6 : isL 6 s.data.toList = false) (f7 : isL 7 s.data.toList = false) (f9 : isL 9 s.data.toList = false) (f11 : isL 11 s.data.toList = false) (w : World) :
    Calls Try.prog 6 #[.string s] w fun e w' => e = .returned (.bool true) ∧ Below w.heap.size w w' := by
  have HA := hide alive_any
  have H1 : Hid (∀ w, Calls Try.prog 19 #[.int .i64 1, .string s] w fun e w' => e = .returned (.bool false) ∧ Below w.heap.size w w') := hide (by rw [← f1]; exact is_any 1 s)
  have H2 : Hid (∀ w, Calls Try.prog 19 #[.int .i64 2, .string s] w fun e w' => e = .returned (.bool false) ∧ Below w.heap.size w w') := hide (by rw [← f2]; exact is_any 2 s)
  have H3 : Hid (∀ w, Calls Try.prog 19 #[.int .i64 3, .string s] w fun e w' => e = .returned (.bool false) ∧ Below w.heap.size w w') := hide (by rw [← f3]; exact is_any 3 s)
  have H4 : Hid (∀ w, Calls Try.prog 19 #[.int .i64 4, .string s] w fun e w' => e = .returned (.bool false) ∧ Below w.heap.size w w') := hide (by rw [← f4]; exact is_any 4 s)
  have H5 : Hid (∀ w, Calls Try.prog 19 #[.int .i64 5, .string s] w fun e w' => e = .returned (.bool true) ∧ Below w.heap.size w w') := hide (by rw [← f5]; exact is_any 5 s)
  have H6 : Hid (∀ w, Calls Try.prog 19 #[.int .i64 6, .string s] w fun e w' => e = .returned (.bool false) ∧ Below w.heap.size w w') := hide (by rw [← f6]; exact is_any 6 s)
  have H7 : Hid (∀ w, Calls Try.prog 19 #[.int .i64 7, .string s] w fun e w' => e = .returned (.bool false) ∧ Below w.heap.size w w') := hide (by rw [← f7]; exact is_any 7 s)
  have H9 : Hid (∀ w, Calls Try.prog 19 #[.int .i64 9, .string s] w fun e w' => e = .returned (.bool false) ∧ Below w.heap.size w w') := hide (by rw [← f9]; exact is_any 9 s)
  have H11 : Hid (∀ w, Calls Try.prog 19 #[.int .i64 11, .string s] w fun e w' => e = .returned (.bool false) ∧ Below w.heap.size w w') := hide (by rw [← f11]; exact is_any 11 s)
  clear f1 f2 f3 f4 f5 f6 f7 f9 f11
  go_enter Try.func6, Try.ntmps6
  go_wp2_with fail
  refine (H1.out _).mono ?_
  rintro e w1 ⟨rfl, b1⟩
  go_wp2_with fail
  refine (H2.out _).mono ?_
  rintro e w2 ⟨rfl, b2⟩
  go_wp2_with fail
  refine (H3.out _).mono ?_
  rintro e w3 ⟨rfl, b3⟩
  go_wp2_with fail
  refine (H7.out _).mono ?_
  rintro e w4 ⟨rfl, b4⟩
  go_wp2_with fail
  refine (H6.out _).mono ?_
  rintro e w5 ⟨rfl, b5⟩
  go_wp2_with fail
  refine (H9.out _).mono ?_
  rintro e w6 ⟨rfl, b6⟩
  go_wp2_with fail
  refine (H11.out _).mono ?_
  rintro e w7 ⟨rfl, b7⟩
  go_wp2_with fail
  refine (H5.out _).mono ?_
  rintro e w8 ⟨rfl, b8⟩
  go_wp2_with fail
  refine (H6.out _).mono ?_
  rintro e w9 ⟨rfl, b9⟩
  go_wp2_with fail
  refine (H4.out _).mono ?_
  rintro e w10 ⟨rfl, b10⟩
  go_wp2_with fail
  refine (H1.out _).mono ?_
  rintro e w11 ⟨rfl, b11⟩
  go_wp2_with fail
  refine (HA.out _).mono ?_
  rintro e w12 ⟨rfl, b12⟩
  go_wp2_with fail
  refine (H9.out _).mono ?_
  rintro e w13 ⟨rfl, b13⟩
  go_wp2
  go_ret
  have c2 := b1.trans (b2.mono b1.size)
  have c3 := c2.trans (b3.mono c2.size)
  have c4 := c3.trans (b4.mono c3.size)
  have c5 := c4.trans (b5.mono c4.size)
  have c6 := c5.trans (b6.mono c5.size)
  have c7 := c6.trans (b7.mono c6.size)
  have c8 := c7.trans (b8.mono c7.size)
  have c9 := c8.trans (b9.mono c8.size)
  have c10 := c9.trans (b10.mono c9.size)
  have c11 := c10.trans (b11.mono c10.size)
  have c12 := c11.trans (b12.mono c11.size)
  have c13 := c12.trans (b13.mono c12.size)
  exact ⟨rfl, c13⟩

set_option maxHeartbeats 1000000 in
theorem within_13 (s : ByteArray) (hs : ¬ (300 : Int) < s.size) (f1 : isL 1 s.data.toList = false) (f2 : isL 2 s.data.toList = false) (f3 : isL 3 s.data.toList = false) (f5 : isL 5 s.data.toList = false) (f6 : isL 6 s.data.toList = false) (f7 : isL 7 s.data.toList = false) (f9 : isL 9 s.data.toList = false) (f11 : isL 11 s.data.toList = false) (w : World) :
    Calls Try.prog 6 #[.string s] w fun e w' => e = .returned (.bool true) ∧ Below w.heap.size w w' := by
  have HA := hide alive_any
  have H1 : Hid (∀ w, Calls Try.prog 19 #[.int .i64 1, .string s] w fun e w' => e = .returned (.bool false) ∧ Below w.heap.size w w') := hide (by rw [← f1]; exact is_any 1 s)
  have H2 : Hid (∀ w, Calls Try.prog 19 #[.int .i64 2, .string s] w fun e w' => e = .returned (.bool false) ∧ Below w.heap.size w w') := hide (by rw [← f2]; exact is_any 2 s)
  have H3 : Hid (∀ w, Calls Try.prog 19 #[.int .i64 3, .string s] w fun e w' => e = .returned (.bool false) ∧ Below w.heap.size w w') := hide (by rw [← f3]; exact is_any 3 s)
  have H5 : Hid (∀ w, Calls Try.prog 19 #[.int .i64 5, .string s] w fun e w' => e = .returned (.bool false) ∧ Below w.heap.size w w') := hide (by rw [← f5]; exact is_any 5 s)
  have H6 : Hid (∀ w, Calls Try.prog 19 #[.int .i64 6, .string s] w fun e w' => e = .returned (.bool false) ∧ Below w.heap.size w w') := hide (by rw [← f6]; exact is_any 6 s)
  have H7 : Hid (∀ w, Calls Try.prog 19 #[.int .i64 7, .string s] w fun e w' => e = .returned (.bool false) ∧ Below w.heap.size w w') := hide (by rw [← f7]; exact is_any 7 s)
  have H9 : Hid (∀ w, Calls Try.prog 19 #[.int .i64 9, .string s] w fun e w' => e = .returned (.bool false) ∧ Below w.heap.size w w') := hide (by rw [← f9]; exact is_any 9 s)
  have H11 : Hid (∀ w, Calls Try.prog 19 #[.int .i64 11, .string s] w fun e w' => e = .returned (.bool false) ∧ Below w.heap.size w w') := hide (by rw [← f11]; exact is_any 11 s)
  clear f1 f2 f3 f5 f6 f7 f9 f11
  go_enter Try.func6, Try.ntmps6
  go_wp2_with fail
  refine (H1.out _).mono ?_
  rintro e w1 ⟨rfl, b1⟩
  go_wp2_with fail
  refine (H2.out _).mono ?_
  rintro e w2 ⟨rfl, b2⟩
  go_wp2_with fail
  refine (H3.out _).mono ?_
  rintro e w3 ⟨rfl, b3⟩
  go_wp2_with fail
  refine (H7.out _).mono ?_
  rintro e w4 ⟨rfl, b4⟩
  go_wp2_with fail
  refine (H6.out _).mono ?_
  rintro e w5 ⟨rfl, b5⟩
  go_wp2_with fail
  refine (H9.out _).mono ?_
  rintro e w6 ⟨rfl, b6⟩
  go_wp2_with fail
  refine (H11.out _).mono ?_
  rintro e w7 ⟨rfl, b7⟩
  go_wp2_with fail
  refine (H5.out _).mono ?_
  rintro e w8 ⟨rfl, b8⟩
  go_wp2_with fail
  refine (H1.out _).mono ?_
  rintro e w9 ⟨rfl, b9⟩
  go_wp2_with fail
  refine (HA.out _).mono ?_
  rintro e w10 ⟨rfl, b10⟩
  go_wp2_with fail
  refine (H9.out _).mono ?_
  rintro e w11 ⟨rfl, b11⟩
  go_wp2
  go_ret
  have c2 := b1.trans (b2.mono b1.size)
  have c3 := c2.trans (b3.mono c2.size)
  have c4 := c3.trans (b4.mono c3.size)
  have c5 := c4.trans (b5.mono c4.size)
  have c6 := c5.trans (b6.mono c5.size)
  have c7 := c6.trans (b7.mono c6.size)
  have c8 := c7.trans (b8.mono c7.size)
  have c9 := c8.trans (b9.mono c8.size)
  have c10 := c9.trans (b10.mono c9.size)
  have c11 := c10.trans (b11.mono c10.size)
  exact ⟨rfl, c11⟩

set_option maxHeartbeats 1000000 in
theorem kindWithin_walk (s : ByteArray) (w : World) :
    Calls Try.prog 6 #[.string s] w fun e w' => e = .returned (.bool true) ∧ Below w.heap.size w w' := by
  have H1 := hide alive_any
  by_cases hs : 300 < s.size
  · have hs2 : (300 : Int) < s.size := by omega
    clear hs
    go_enter Try.func6, Try.ntmps6
    go_wp2_with fail
    refine (H1.out _).mono ?_
    rintro e w1 ⟨rfl, b1⟩
    go_wp2
    go_ret
    exact ⟨rfl, b1⟩
  · have hs2 : ¬ (300 : Int) < s.size := by omega
    have ff := format_special s.data.toList
    have vr := void_raw s.data.toList
    have ts := table_skip s.data.toList
    have sp := is_special s.data.toList
    have nf : isL 4 s.data.toList = true → isL 5 s.data.toList = false := by
      intro h
      cases h5 : isL 5 s.data.toList
      · rfl
      · rw [(ff h5).2] at h; exact absurd h (by decide)
    cases f1 : isL 1 s.data.toList
    case true =>
      cases f9 : isL 9 s.data.toList
      · exact within_1 s hs2 f1 (vr f1).1 (vr f1).2 (sp 1 (by omega) f1) (nf (sp 1 (by omega) f1)) f9 w
      · exact within_0 s hs2 f1 (vr f1).1 (vr f1).2 (sp 1 (by omega) f1) (nf (sp 1 (by omega) f1)) f9 (ts f9) w
    cases f2 : isL 2 s.data.toList
    case true =>
      cases f9 : isL 9 s.data.toList
      · exact within_3 s hs2 f1 f2 (sp 2 (by omega) f2) (nf (sp 2 (by omega) f2)) f9 w
      · exact within_2 s hs2 f1 f2 (sp 2 (by omega) f2) (nf (sp 2 (by omega) f2)) f9 (ts f9) w
    cases f3 : isL 3 s.data.toList
    case true =>
      cases f9 : isL 9 s.data.toList
      · exact within_5 s hs2 f1 f2 f3 (sp 3 (by omega) f3) (nf (sp 3 (by omega) f3)) f9 w
      · exact within_4 s hs2 f1 f2 f3 (sp 3 (by omega) f3) (nf (sp 3 (by omega) f3)) f9 (ts f9) w
    cases f7 : isL 7 s.data.toList
    case true =>
      cases f9 : isL 9 s.data.toList
      · exact within_7 s hs2 f1 f2 f3 (sp 7 (by omega) f7) (nf (sp 7 (by omega) f7)) f7 f9 w
      · exact within_6 s hs2 f1 f2 f3 (sp 7 (by omega) f7) (nf (sp 7 (by omega) f7)) f7 f9 (ts f9) w
    cases f6 : isL 6 s.data.toList
    case true =>
      cases f9 : isL 9 s.data.toList
      · exact within_9 s hs2 f1 f2 f3 (sp 6 (by omega) f6) (nf (sp 6 (by omega) f6)) f6 f7 f9 w
      · exact within_8 s hs2 f1 f2 f3 (sp 6 (by omega) f6) (nf (sp 6 (by omega) f6)) f6 f7 f9 (ts f9) w
    cases f9 : isL 9 s.data.toList
    case true =>
      exact within_10 s hs2 f1 f2 f3 (sp 9 (by omega) f9) (nf (sp 9 (by omega) f9)) f6 f7 f9 (ts f9) w
    cases f11 : isL 11 s.data.toList
    case true =>
      exact within_11 s hs2 f1 f2 f3 (sp 11 (by omega) f11) (nf (sp 11 (by omega) f11)) f6 f7 f9 f11 w
    cases f5 : isL 5 s.data.toList
    · exact within_13 s hs2 f1 f2 f3 f5 f6 f7 f9 f11 w
    · exact within_12 s hs2 f1 f2 f3 (ff f5).2 f5 f6 f7 f9 f11 w

set_option maxRecDepth 100000 in
theorem kindWithin_lifted (os : Os) (started : os.Started) (H : Type) (enc : TypeId × Value → H) :
    ReturnsInHanded {} Try.checked os 6 .any (Rows.kindWithinSpec.pre6 enc Try.prog Try.f6 Rows.kindWithinRow.domain false) (Rows.kindWithinSpec.post enc Try.prog Try.f6 false true false false) := by
  refine returnsInHanded_of_change (C := Try.checked) ownL started (by kernel_rfl) Try.func6
    (ChangeSpec.witness6 (enc := enc) (C := Try.checked) false ⟨#[], #[.string ByteArray.empty], []⟩ 8 (by kernel_rfl) (by kernel_rfl) (by kernel_rfl) (by kernel_rfl)) ?_
  intro W base args ds gs before hval0 hW hcnd _
  have hval : ∀ (j : Nat) t v, Try.f6.params[j]? = some t → args[j]? = some v → Value.okWide Try.prog W .any base t v := hval0
  have hW' := hW
  obtain ⟨p, q, hA0, hV, rfl, hfz, hnd⟩ := hW
  have hA : DataW.TrodAll enc Try.prog W 0 (fun _ => true) true Try.f6.params.toList args.toList ds p := hA0
  rw [Try.params6] at hA hval
  obtain ⟨v0, vs0, d0, ds0, p0, q0, hargs, rfl, rfl, h0, r0⟩ := trodAll_cons hA
  obtain ⟨rfl, rfl, rfl⟩ := trodAll_nil r0
  obtain rfl : args = #[v0] := by cases args; simp_all
  obtain ⟨rfl, rfl⟩ := trodVars_none hV
  obtain ⟨a0, rfl, rfl, rfl, w0⟩ := open_string Try.underlying9 (hval 0 9 v0 rfl rfl) h0
  clear hA0 hval0
  refine (kindWithin_walk a0 W  ).mono fun e W' ⟨he, bel⟩ => ?_
  subst he
  exact ⟨_, rfl, _, _, _, [], _, [], hW', trodAll_mk1 (shut_bool Try.underlying4 _), (trodAll_cons_mk (shut_string Try.underlying9 w0) trodAll_mk0), rfl, bel.frame _, fun h => by cases h⟩

theorem kindWithin_holds : Rows.KindWithinSaid :=
  OpenClaim.holds_of_wide 6 Try.f6 rfl rfl rfl rfl rfl rfl rfl ⟨rfl, rfl, rfl, rfl, rfl⟩ rfl rfl rfl rfl rfl (by kernel_rfl) Try.func6 (by kernel_rfl)
    (of_decide_eq_true (by kernel_rfl)) (by unfold Func.isWrapper; first | (rw [if_pos (by decide +kernel)]; kernel_rfl) | (rw [if_neg (by decide +kernel)]; exact ⟨rfl, rfl⟩))
    (fun os started H enc _ => kindWithin_lifted os started H enc)
end Go.Proofs.Ytnbhcnpmbilflaa
