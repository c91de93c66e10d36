/- What the statements' live question answers: true; nothing that was there is written. -/
import Derived.Test.YthagloigihpfdabDoorWalkG
import Derived.Laws.IdiomStrings
set_option linter.unusedVariables false
set_option linter.unusedSimpArgs false
namespace Go.Proofs.YthagloigihpfdabDoor
open Go.RowKit

theorem alive_dec : DecL [97, 255, 98] = [97, 239, 191, 189, 98] := by decide
theorem alive_lines : linesL [97, 13, 10, 98, 13, 99] = [97, 10, 98, 10, 99] := by decide
theorem alive_count : countL [226, 130, 65] = 2 := by decide

/-- Cells that are bytes, as a text: in whatever world has them. -/
theorem conv_bytes (w : World) (a : Addr) (cap : Nat) (l : List UInt8) (hc : ∀ j (hj : j < l.length), w.cell? (a.add j) = some (.int .u8 (l[j].toNat : Int))) :
    (convert 24 9 (.slice (some a) l.length cap)).run Tryd.prog w = .ok (.string ⟨l.toArray⟩) w :=
  run_convert_bytes_back w 24 9 5 a cap l Tryd.underlying24 Tryd.underlying5 Tryd.underlying9 hc

theorem alive_conv (w : World) : (convert 24 9 (.slice (some ⟨w.heap.size, 0, none⟩) 3 3)).run Tryd.prog (w.alloc (.cells #[.int .u8 97, .int .u8 255, .int .u8 98] 5)) = .ok (.string ⟨[97, 255, 98].toArray⟩) (w.alloc (.cells #[.int .u8 97, .int .u8 255, .int .u8 98] 5)) := by
  refine conv_bytes _ ⟨w.heap.size, 0, none⟩ 3 [97, 255, 98] ?_
  intro j hj
  have : j = 0 ∨ j = 1 ∨ j = 2 := by simp at hj; omega
  rcases this with rfl | rfl | rfl <;> simp [Addr.add, go_sem]

set_option maxHeartbeats 1000000 in
theorem alive_any (w : World) :
    Calls Tryd.prog 4 #[] w fun e w' => e = .returned (.bool true) ∧ Below w.heap.size w w' := by
  have h1 := decode_any [97, 255, 98] _ (by decide) _ (alive_conv w)
  rw [alive_dec] at h1
  have h2 := lines_any ⟨#[97, 13, 10, 98, 13, 99]⟩ (by decide)
  rw [show (⟨#[97, 13, 10, 98, 13, 99]⟩ : ByteArray).data.toList = [97, 13, 10, 98, 13, 99] from rfl, alive_lines] at h2
  have h3 := count_any ⟨#[226, 130, 65]⟩ (by decide)
  rw [show (⟨#[226, 130, 65]⟩ : ByteArray).data.toList = [226, 130, 65] from rfl, alive_count] at h3
  have H1 := hide h1
  have H2 := hide h2
  have H3 := hide h3
  clear h1 h2 h3
  go_enter Tryd.func4, Tryd.ntmps4
  go_wp2_with fail
  refine H1.out.mono ?_
  rintro e w1 ⟨rfl, b1⟩
  go_wp2_with fail
  refine (H2.out _).mono ?_
  rintro e w2 ⟨rfl, b2⟩
  go_wp2_with fail
  refine (H3.out _).mono ?_
  rintro e w3 ⟨rfl, b3⟩
  go_wp2
  go_ret
  have c0 : Below w.heap.size w (w.alloc (.cells #[.int .u8 97, .int .u8 255, .int .u8 98] 5)) := (Below.refl _ w).alloc (Nat.le_refl _) _
  have c1 := c0.trans (b1.mono c0.size)
  have c2 := c1.trans (b2.mono c1.size)
  exact ⟨rfl, c2.trans (b3.mono c2.size)⟩
end Go.Proofs.YthagloigihpfdabDoor
