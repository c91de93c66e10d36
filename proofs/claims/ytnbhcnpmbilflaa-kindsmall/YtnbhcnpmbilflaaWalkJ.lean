/- What the statements' live question answers: true; nothing that was there is written. -/
import Derived.Test.YtnbhcnpmbilflaaWalkF
set_option linter.unusedVariables false
set_option linter.unusedSimpArgs false
namespace Go.Proofs.Ytnbhcnpmbilflaa
open Go.RowKit

theorem alive_is : isL 1 [98, 114] = true ∧ isL 1 [66, 82] = false := by
  rw [is_1, is_1]
  decide +kernel
theorem alive_lower : lowerL [97, 66] = [97, 98] := by decide +kernel

set_option maxHeartbeats 1000000 in
theorem alive_any (w : World) :
    Calls Try.prog 8 #[] w fun e w' => e = .returned (.bool true) ∧ Below w.heap.size w w' := by
  have h1 : ∀ w, Calls Try.prog 19 #[.int .i64 1, .string ⟨#[98, 114]⟩] w fun e w' => e = .returned (.bool true) ∧ Below w.heap.size w w' := by
    have h := isp_1 ⟨#[98, 114]⟩
    rw [show (⟨#[98, 114]⟩ : ByteArray).data.toList = [98, 114] from rfl, alive_is.1] at h
    exact h
  have h2 : ∀ w, Calls Try.prog 19 #[.int .i64 1, .string ⟨#[66, 82]⟩] w fun e w' => e = .returned (.bool false) ∧ Below w.heap.size w w' := by
    have h := isp_1 ⟨#[66, 82]⟩
    rw [show (⟨#[66, 82]⟩ : ByteArray).data.toList = [66, 82] from rfl, alive_is.2] at h
    exact h
  have h3 : ∀ w, Calls Try.prog 17 #[.string ⟨#[97, 66]⟩] w fun e w' => e = .returned (.string ⟨#[97, 98]⟩) ∧ Below w.heap.size w w' := by
    have h := lower_any ⟨#[97, 66]⟩ (by decide)
    rw [show (⟨#[97, 66]⟩ : ByteArray).data.toList = [97, 66] from rfl, alive_lower] at h
    exact h
  have h4 : ∀ w, Calls Try.prog 9 #[.int .u8 9] w fun e w' => e = .returned (.bool true) ∧ w' = w := space_any 9
  have h5 : ∀ w, Calls Try.prog 11 #[.int .u8 122] w fun e w' => e = .returned (.bool true) ∧ w' = w := letter_any 122
  have h6 : ∀ w, Calls Try.prog 13 #[.int .u8 48] w fun e w' => e = .returned (.bool true) ∧ w' = w := figure_any 48
  have h7 : ∀ w, Calls Try.prog 15 #[.string ⟨#[]⟩] w fun e w' => e = .returned (.bool true) ∧ w' = w := white_any ⟨#[]⟩ (by decide)
  have H1 := hide h1
  have H2 := hide h2
  have H3 := hide h3
  have H4 := hide h4
  have H5 := hide h5
  have H6 := hide h6
  have H7 := hide h7
  clear h1 h2 h3 h4 h5 h6 h7
  go_enter Try.func8, Try.ntmps8
  go_wp2_with fail
  refine (H1.out _).mono ?_
  rintro e w1 ⟨rfl, b1⟩
  go_wp2_with fail
  refine (H2.out _).mono ?_
  rintro e w2 ⟨rfl, b2⟩
  go_wp2_with fail
  refine (H3.out _).mono ?_
  rintro e w3 ⟨rfl, b3⟩
  go_wp2_with fail
  refine (H4.out _).mono ?_
  rintro e w4 ⟨rfl, rfl⟩
  go_wp2_with fail
  refine (H5.out _).mono ?_
  rintro e w5 ⟨rfl, rfl⟩
  go_wp2_with fail
  refine (H6.out _).mono ?_
  rintro e w6 ⟨rfl, rfl⟩
  go_wp2_with fail
  refine (H7.out _).mono ?_
  rintro e w7 ⟨rfl, rfl⟩
  go_wp2
  go_ret
  have c2 := b1.trans (b2.mono b1.size)
  exact ⟨rfl, c2.trans (b3.mono c2.size)⟩

theorem byte_of (a : Int) (h : (Lit.int .u8 a).wf = true) : ∃ c : UInt8, a = (c.toNat : Int) := by
  have h2 : 0 ≤ a ∧ a ≤ 255 := by
    have h3 : (decide ((0 : Int) ≤ a) && decide (a ≤ 255)) = true := h
    simpa using h3
  refine ⟨UInt8.ofNat a.toNat, ?_⟩
  rw [UInt8.toNat_ofNat']
  omega
end Go.Proofs.Ytnbhcnpmbilflaa
