/- The live question, and what the document's Sum answers. -/
import Derived.Test.YtffdlpcdjmhfkaaPk15
import Derived.Test.YtffdlpcdjmhfkaaRw15
import Derived.Lib.SmallJoins
set_option linter.unusedVariables false
set_option linter.unusedSimpArgs false
set_option maxRecDepth 40000
namespace Go.Proofs.Ytffdlpcdjmhfkaa
open Go.RowKit

theorem bel_on {w x y : World} (h : Below w.heap.size w x) (k : Below x.heap.size x y) : Below w.heap.size w y := h.trans (k.mono h.size)
def nine : Bs := [49, 50, 51, 52, 53, 54, 55, 56, 57]
theorem nine_sum : ((sumB nine).toNat : Int) = 3421780262 := by kernel_rfl
theorem nine_is (w : World) : IsY (w.alloc (.cells #[.int .u8 49, .int .u8 50, .int .u8 51, .int .u8 52, .int .u8 53, .int .u8 54, .int .u8 55, .int .u8 56, .int .u8 57] 5 (9, 10))) (.slice (some ⟨w.heap.size, 0, none⟩) 9 9) nine := .inr ⟨w.heap.size, 0, 9, rfl, Nat.le_refl _, fun j hj => by
  have hj9 : j < 9 := hj
  rw [Nat.zero_add, World.cell?_alloc_mark]
  rcases (by omega : j = 0 ∨ j = 1 ∨ j = 2 ∨ j = 3 ∨ j = 4 ∨ j = 5 ∨ j = 6 ∨ j = 7 ∨ j = 8) with rfl | rfl | rfl | rfl | rfl | rfl | rfl | rfl | rfl <;> rfl⟩
set_option maxHeartbeats 2000000 in
theorem alive_any (w : World) : Calls Try.prog 8 #[] w fun e w' => e = .returned (.bool true) ∧ Below w.heap.size w w' := by
  have HS : Hid (Calls Try.prog 9 #[.slice (some ⟨w.heap.size, 0, none⟩) 9 9] (w.alloc (.cells #[.int .u8 49, .int .u8 50, .int .u8 51, .int .u8 52, .int .u8 53, .int .u8 54, .int .u8 55, .int .u8 56, .int .u8 57] 5 (9, 10))) fun e w' => e = .returned (.int .u32 3421780262) ∧ Hid (Below w.heap.size w w')) := hide ((psum_any _ nine _ (nine_is w) (by decide)).mono fun e w' hh => ⟨by rw [hh.1, nine_sum], hide (bel_on (below_alloc w _) hh.2)⟩)
  have hcv : (convert 22 22 (.slice (some ⟨w.heap.size, 0, none⟩) 9 9)).run Try.prog (w.alloc (.cells #[.int .u8 49, .int .u8 50, .int .u8 51, .int .u8 52, .int .u8 53, .int .u8 54, .int .u8 55, .int .u8 56, .int .u8 57] 5)) = .ok (.slice (some ⟨w.heap.size, 0, none⟩) 9 9) (w.alloc (.cells #[.int .u8 49, .int .u8 50, .int .u8 51, .int .u8 52, .int .u8 53, .int .u8 54, .int .u8 55, .int .u8 56, .int .u8 57] 5 (9, 10))) := Lib.run_convert_bytes_const w 22 5 #[.int .u8 49, .int .u8 50, .int .u8 51, .int .u8 52, .int .u8 53, .int .u8 54, .int .u8 55, .int .u8 56, .int .u8 57] 9 9 Try.underlying22 Try.underlying5
  go_enter Try.func8, Try.ntmps8
  go_wp2_with fail
  refine HS.out.mono ?_
  rintro e w1 ⟨rfl, b1⟩
  clear HS
  go_wp2
  go_ret
  exact ⟨rfl, b1.out⟩
set_option maxHeartbeats 2000000 in
theorem rsum_any (bv : Value) (b : Bs) (w : World) (hY : IsY w bv b) (hl : b.length ≤ 1000000) : Calls Try.prog 10 #[bv] w fun e w' => e = .returned (.int .u32 ((sumB b).toNat : Int)) ∧ w' = w := by
  have HM : Hid (Calls Try.prog 12 #[.int .u32 0, bv] w fun e w' => e = .returned (.int .u32 ((sumB b).toNat : Int)) ∧ w' = w) := hide ((rmore_any 0 (by omega) bv b w hY hl).mono fun e w' hh => by
    rw [moreD_is] at hh
    exact hh)
  obtain ⟨a, c, rfl⟩ := hY.form
  clear hY
  generalize (sumB b).toNat = X at *
  generalize b.length = n at *
  go_enter Try.func10, Try.ntmps10
  go_wp2_with fail
  refine HM.out.mono ?_
  rintro e w1 ⟨rfl, rfl⟩
  clear HM
  go_wp2
  go_ret
  exact ⟨rfl, rfl⟩
theorem conv_isY0 {w : World} {a : Option Addr} {n c : Nat} {l : Bs} (h : IsY w (.slice a n c) l) (h0 : n ≠ 0) : (convert 22 9 (.slice a n c)).run Try.prog w = .ok (.string ⟨l.toArray⟩) w := by
  rcases h with ⟨rfl, a', c', e⟩ | ⟨b, o, cap, e, _, hc⟩
  · injection e with _ e2
    exact absurd e2 h0
  · rw [e]
    exact conv_bytes w b o cap l hc
end Go.Proofs.Ytffdlpcdjmhfkaa
