/- What behindLead and pieceLength answer, and what the document's own long, fits, Piece and Marked answer: the pieces of the plain text; the world stays as it was. -/
import Derived.Test.YthagloigihpfdabDoorPlain
import Derived.Test.YthagloigihpfdabDoorProg
import Derived.WalkKit
import Derived.WalkSpells
import Derived.WalkLawsBesides
set_option linter.unusedVariables false
set_option linter.unusedSimpArgs false
namespace Go.Proofs.YthagloigihpfdabDoor
open Go.RowKit

def lowP (b : Nat) : Nat := if need b = 0 then 0 else secLo b
def highP (b : Nat) : Nat := if need b = 0 then 0 else secHi b

theorem hide {p : Prop} (h : p) : Hid p := h
theorem ret3 {a b c a' b' c' : Int} (h1 : a = a') (h2 : b = b') (h3 : c = c') : Ending.returned (.tuple #[.int .i64 a, .int .u8 b, .int .u8 c]) = .returned (.tuple #[.int .i64 a', .int .u8 b', .int .u8 c']) := by rw [h1, h2, h3]
theorem ret_bool {a b : Bool} (h : a = b) : Ending.returned (.bool a) = .returned (.bool b) := by rw [h]
theorem ret_str {a b : List UInt8} (h : a = b) : Ending.returned (.string ⟨a.toArray⟩) = .returned (.string ⟨b.toArray⟩) := by rw [h]
theorem ret_int {k : IntKind} {a b : Int} (h : a = b) : Ending.returned (.int k a) = .returned (.int k b) := by rw [h]

set_option maxHeartbeats 1000000 in
theorem lead_0 (n : Nat) (c : n < 194) (w : World) :
    Calls Tryd.prog 22 #[.int .u8 (n : Int)] w fun e w' => e = .returned (.tuple #[.int .i64 0, .int .u8 0, .int .u8 0]) ∧ w' = w := by
  have d0 : (n : Int) < 194 := by omega
  clear c
  go_enter Tryd.func22, Tryd.ntmps22
  go_wp2
  go_ret3
  exact ⟨rfl, rfl⟩
theorem leadF_0 (n : Nat) (c : n < 194) : need n = 0 ∧ lowP n = 0 ∧ highP n = 0 := by
  refine ⟨?_, ?_, ?_⟩
  · unfold need; (repeat' split) <;> omega
  · unfold lowP need secLo; (repeat' split) <;> omega
  · unfold highP need secHi; (repeat' split) <;> omega
set_option maxHeartbeats 1000000 in
theorem lead_1 (n : Nat) (c : 244 < n) (w : World) :
    Calls Tryd.prog 22 #[.int .u8 (n : Int)] w fun e w' => e = .returned (.tuple #[.int .i64 0, .int .u8 0, .int .u8 0]) ∧ w' = w := by
  have d0 : ¬ ((n : Int) < 194) := by omega
  have d1 : (244 : Int) < n := by omega
  clear c
  go_enter Tryd.func22, Tryd.ntmps22
  go_wp2
  go_ret3
  exact ⟨rfl, rfl⟩
theorem leadF_1 (n : Nat) (c : 244 < n) : need n = 0 ∧ lowP n = 0 ∧ highP n = 0 := by
  refine ⟨?_, ?_, ?_⟩
  · unfold need; (repeat' split) <;> omega
  · unfold lowP need secLo; (repeat' split) <;> omega
  · unfold highP need secHi; (repeat' split) <;> omega
set_option maxHeartbeats 1000000 in
theorem lead_2 (n : Nat) (c : 194 ≤ n ∧ n ≤ 223) (w : World) :
    Calls Tryd.prog 22 #[.int .u8 (n : Int)] w fun e w' => e = .returned (.tuple #[.int .i64 1, .int .u8 128, .int .u8 191]) ∧ w' = w := by
  have d0 : ¬ ((n : Int) < 194) := by omega
  have d1 : ¬ ((244 : Int) < n) := by omega
  have d2 : (n : Int) ≤ 223 := by omega
  clear c
  go_enter Tryd.func22, Tryd.ntmps22
  go_wp2
  go_ret3
  exact ⟨rfl, rfl⟩
theorem leadF_2 (n : Nat) (c : 194 ≤ n ∧ n ≤ 223) : need n = 1 ∧ lowP n = 128 ∧ highP n = 191 := by
  refine ⟨?_, ?_, ?_⟩
  · unfold need; (repeat' split) <;> omega
  · unfold lowP need secLo; (repeat' split) <;> omega
  · unfold highP need secHi; (repeat' split) <;> omega
set_option maxHeartbeats 1000000 in
theorem lead_3 (n : Nat) (c : n = 224) (w : World) :
    Calls Tryd.prog 22 #[.int .u8 (n : Int)] w fun e w' => e = .returned (.tuple #[.int .i64 2, .int .u8 160, .int .u8 191]) ∧ w' = w := by
  subst c
  go_enter Tryd.func22, Tryd.ntmps22
  go_wp2
  go_ret3
  exact ⟨rfl, rfl⟩
theorem leadF_3 (n : Nat) (c : n = 224) : need n = 2 ∧ lowP n = 160 ∧ highP n = 191 := by
  refine ⟨?_, ?_, ?_⟩
  · unfold need; (repeat' split) <;> omega
  · unfold lowP need secLo; (repeat' split) <;> omega
  · unfold highP need secHi; (repeat' split) <;> omega
set_option maxHeartbeats 1000000 in
theorem lead_4 (n : Nat) (c : n = 237) (w : World) :
    Calls Tryd.prog 22 #[.int .u8 (n : Int)] w fun e w' => e = .returned (.tuple #[.int .i64 2, .int .u8 128, .int .u8 159]) ∧ w' = w := by
  subst c
  go_enter Tryd.func22, Tryd.ntmps22
  go_wp2
  go_ret3
  exact ⟨rfl, rfl⟩
theorem leadF_4 (n : Nat) (c : n = 237) : need n = 2 ∧ lowP n = 128 ∧ highP n = 159 := by
  refine ⟨?_, ?_, ?_⟩
  · unfold need; (repeat' split) <;> omega
  · unfold lowP need secLo; (repeat' split) <;> omega
  · unfold highP need secHi; (repeat' split) <;> omega
set_option maxHeartbeats 1000000 in
theorem lead_5 (n : Nat) (c : 225 ≤ n ∧ n ≤ 239 ∧ n ≠ 237) (w : World) :
    Calls Tryd.prog 22 #[.int .u8 (n : Int)] w fun e w' => e = .returned (.tuple #[.int .i64 2, .int .u8 128, .int .u8 191]) ∧ w' = w := by
  have d0 : ¬ ((n : Int) < 194) := by omega
  have d1 : ¬ ((244 : Int) < n) := by omega
  have d2 : ¬ ((n : Int) ≤ 223) := by omega
  have d3 : ((n : Int) == 224) = false := beq_eq_false_iff_ne.2 (by omega)
  have d4 : ((n : Int) == 237) = false := beq_eq_false_iff_ne.2 (by omega)
  have d5 : (n : Int) ≤ 239 := by omega
  clear c
  go_enter Tryd.func22, Tryd.ntmps22
  go_wp2
  go_ret3
  exact ⟨rfl, rfl⟩
theorem leadF_5 (n : Nat) (c : 225 ≤ n ∧ n ≤ 239 ∧ n ≠ 237) : need n = 2 ∧ lowP n = 128 ∧ highP n = 191 := by
  refine ⟨?_, ?_, ?_⟩
  · unfold need; (repeat' split) <;> omega
  · unfold lowP need secLo; (repeat' split) <;> omega
  · unfold highP need secHi; (repeat' split) <;> omega
set_option maxHeartbeats 1000000 in
theorem lead_6 (n : Nat) (c : n = 240) (w : World) :
    Calls Tryd.prog 22 #[.int .u8 (n : Int)] w fun e w' => e = .returned (.tuple #[.int .i64 3, .int .u8 144, .int .u8 191]) ∧ w' = w := by
  subst c
  go_enter Tryd.func22, Tryd.ntmps22
  go_wp2
  go_ret3
  exact ⟨rfl, rfl⟩
theorem leadF_6 (n : Nat) (c : n = 240) : need n = 3 ∧ lowP n = 144 ∧ highP n = 191 := by
  refine ⟨?_, ?_, ?_⟩
  · unfold need; (repeat' split) <;> omega
  · unfold lowP need secLo; (repeat' split) <;> omega
  · unfold highP need secHi; (repeat' split) <;> omega
set_option maxHeartbeats 1000000 in
theorem lead_7 (n : Nat) (c : n = 244) (w : World) :
    Calls Tryd.prog 22 #[.int .u8 (n : Int)] w fun e w' => e = .returned (.tuple #[.int .i64 3, .int .u8 128, .int .u8 143]) ∧ w' = w := by
  subst c
  go_enter Tryd.func22, Tryd.ntmps22
  go_wp2
  go_ret3
  exact ⟨rfl, rfl⟩
theorem leadF_7 (n : Nat) (c : n = 244) : need n = 3 ∧ lowP n = 128 ∧ highP n = 143 := by
  refine ⟨?_, ?_, ?_⟩
  · unfold need; (repeat' split) <;> omega
  · unfold lowP need secLo; (repeat' split) <;> omega
  · unfold highP need secHi; (repeat' split) <;> omega
set_option maxHeartbeats 1000000 in
theorem lead_8 (n : Nat) (c : 241 ≤ n ∧ n ≤ 243) (w : World) :
    Calls Tryd.prog 22 #[.int .u8 (n : Int)] w fun e w' => e = .returned (.tuple #[.int .i64 3, .int .u8 128, .int .u8 191]) ∧ w' = w := by
  have d0 : ¬ ((n : Int) < 194) := by omega
  have d1 : ¬ ((244 : Int) < n) := by omega
  have d2 : ¬ ((n : Int) ≤ 223) := by omega
  have d3 : ((n : Int) == 224) = false := beq_eq_false_iff_ne.2 (by omega)
  have d4 : ((n : Int) == 237) = false := beq_eq_false_iff_ne.2 (by omega)
  have d5 : ¬ ((n : Int) ≤ 239) := by omega
  have d6 : ((n : Int) == 240) = false := beq_eq_false_iff_ne.2 (by omega)
  have d7 : ((n : Int) == 244) = false := beq_eq_false_iff_ne.2 (by omega)
  clear c
  go_enter Tryd.func22, Tryd.ntmps22
  go_wp2
  go_ret3
  exact ⟨rfl, rfl⟩
theorem leadF_8 (n : Nat) (c : 241 ≤ n ∧ n ≤ 243) : need n = 3 ∧ lowP n = 128 ∧ highP n = 191 := by
  refine ⟨?_, ?_, ?_⟩
  · unfold need; (repeat' split) <;> omega
  · unfold lowP need secLo; (repeat' split) <;> omega
  · unfold highP need secHi; (repeat' split) <;> omega

theorem behindLead_any (n : Nat) (hn : n < 256) (w : World) :
    Calls Tryd.prog 22 #[.int .u8 (n : Int)] w fun e w' => e = .returned (.tuple #[.int .i64 (need n : Nat), .int .u8 (lowP n : Nat), .int .u8 (highP n : Nat)]) ∧ w' = w := by
  have key : (n < 194) ∨ (244 < n) ∨ (194 ≤ n ∧ n ≤ 223) ∨ (n = 224) ∨ (n = 237) ∨ (225 ≤ n ∧ n ≤ 239 ∧ n ≠ 237) ∨ (n = 240) ∨ (n = 244) ∨ (241 ≤ n ∧ n ≤ 243) := by omega
  rcases key with c | c | c | c | c | c | c | c | c
  · obtain ⟨e1, e2, e3⟩ := leadF_0 n c; rw [e1, e2, e3]; exact lead_0 n c w
  · obtain ⟨e1, e2, e3⟩ := leadF_1 n c; rw [e1, e2, e3]; exact lead_1 n c w
  · obtain ⟨e1, e2, e3⟩ := leadF_2 n c; rw [e1, e2, e3]; exact lead_2 n c w
  · obtain ⟨e1, e2, e3⟩ := leadF_3 n c; rw [e1, e2, e3]; exact lead_3 n c w
  · obtain ⟨e1, e2, e3⟩ := leadF_4 n c; rw [e1, e2, e3]; exact lead_4 n c w
  · obtain ⟨e1, e2, e3⟩ := leadF_5 n c; rw [e1, e2, e3]; exact lead_5 n c w
  · obtain ⟨e1, e2, e3⟩ := leadF_6 n c; rw [e1, e2, e3]; exact lead_6 n c w
  · obtain ⟨e1, e2, e3⟩ := leadF_7 n c; rw [e1, e2, e3]; exact lead_7 n c w
  · obtain ⟨e1, e2, e3⟩ := leadF_8 n c; rw [e1, e2, e3]; exact lead_8 n c w

end Go.Proofs.YthagloigihpfdabDoor
