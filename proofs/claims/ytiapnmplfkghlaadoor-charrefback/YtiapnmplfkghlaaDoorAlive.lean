/- What the statements' live question answers: true; nothing that was there is written. -/
import Derived.Test.YtiapnmplfkghlaaDoorWalkPH
set_option linter.unusedVariables false
set_option linter.unusedSimpArgs false
namespace Go.Proofs.YtiapnmplfkghlaaDoor
open Go.RowKit

theorem alive_at : atZ false [97, 38, 108, 116, 59] 1 = ([60], 4) := by decide +kernel
theorem alive_dec : decL true [38, 35, 120, 52, 49] = [65] := by decide +kernel
theorem alive_num : numberL 65 = [65] := by decide +kernel

set_option maxHeartbeats 1000000 in
theorem alive_any (w : World) (ho : OldOk w) :
    Calls Tryd.prog 9 #[] w fun e w' => e = .returned (.bool true) ∧ Below w.heap.size w w' := by
  have h1 : ∀ w, OldOk w → Calls Tryd.prog 14 #[.string ⟨#[97, 38, 108, 116, 59]⟩, .int .i64 1, .bool false] w fun e w' => e = .returned (.tuple #[.string ⟨#[60]⟩, .int .i64 4]) ∧ Below w.heap.size w w' := by
    have h := at_any ⟨#[97, 38, 108, 116, 59]⟩ (by decide) 1 (by decide) false
    rw [show (⟨#[97, 38, 108, 116, 59]⟩ : ByteArray).data.toList = [97, 38, 108, 116, 59] from rfl, alive_at] at h
    exact h
  have h2 : ∀ w, OldOk w → Calls Tryd.prog 16 #[.string ⟨#[38, 35, 120, 52, 49]⟩, .bool true] w fun e w' => e = .returned (.string ⟨#[65]⟩) ∧ Below w.heap.size w w' := by
    have h := decode_any ⟨#[38, 35, 120, 52, 49]⟩ (by decide) true
    rw [show (⟨#[38, 35, 120, 52, 49]⟩ : ByteArray).data.toList = [38, 35, 120, 52, 49] from rfl, alive_dec] at h
    exact h
  have h3 : ∀ w, OldOk w → Calls Tryd.prog 12 #[.int .i64 65] w fun e w' => e = .returned (.string ⟨#[65]⟩) ∧ Below w.heap.size w w' := by
    have h := number_any 65 (by decide)
    rw [alive_num] at h
    exact h
  have H1 := hide h1
  have H2 := hide h2
  have H3 := hide h3
  clear h1 h2 h3
  have HO := hide ho
  clear ho
  go_enter Tryd.func9, Tryd.ntmps9
  go_wp2_with fail
  refine (H1.out _ HO.out).mono ?_
  rintro e w1 ⟨rfl, b1⟩
  go_wp2_with fail
  refine (H2.out _ (HO.out.below b1)).mono ?_
  rintro e w2 ⟨rfl, b2⟩
  have a2 := b1.trans (b2.mono b1.size)
  go_wp2_with fail
  refine (H3.out _ (HO.out.below a2)).mono ?_
  rintro e w3 ⟨rfl, b3⟩
  have a3 := a2.trans (b3.mono a2.size)
  go_wp2
  go_ret
  have c2 := b1.trans (b2.mono b1.size)
  exact ⟨rfl, c2.trans (b3.mono c2.size)⟩
end Go.Proofs.YtiapnmplfkghlaaDoor
