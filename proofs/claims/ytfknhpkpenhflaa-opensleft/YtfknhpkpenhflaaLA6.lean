/- What the statements' live question and small answer. -/
import Derived.Test.YtfknhpkpenhflaaPE6
set_option linter.unusedVariables false
set_option linter.unusedSimpArgs false
namespace Go.Proofs.Ytfknhpkpenhflaa
open Go.RowKit

def fourL : List OV := [⟨0, 0, ⟨#[104, 116, 109, 108]⟩⟩, ⟨1, 0, ⟨#[116, 97, 98, 108, 101]⟩⟩, ⟨2, 0, ⟨#[116, 100]⟩⟩, ⟨3, 0, ⟨#[112]⟩⟩]
def tableB : List (List UInt8) := [[116, 97, 98, 108, 101]]
def fourC : Array Value := #[.int .i64 0, .int .i64 0, .string ⟨#[104, 116, 109, 108]⟩, .int .i64 1, .int .i64 0, .string ⟨#[116, 97, 98, 108, 101]⟩, .int .i64 2, .int .i64 0, .string ⟨#[116, 100]⟩, .int .i64 3, .int .i64 0, .string ⟨#[112]⟩]
theorem four_has1 : hasZ fourL tableB 1 = false := by decide +kernel
theorem four_has4 : hasZ fourL tableB 4 = true := by decide +kernel
theorem four_cut : cutZ fourL tableB = 1 := by decide +kernel
theorem four_implied : impliedZ fourL ⟨#[]⟩ = 3 := by decide +kernel
theorem four_find : findZ fourL 2 = 2 := by decide +kernel
theorem four_isO (w : World) : IsO (w.alloc (.cells fourC 24)) (.slice (some ⟨w.heap.size, 0, none⟩) 4 4) fourL := by
  have hc : ∀ i, i < 12 → (w.alloc (.cells fourC 24)).cell? ⟨w.heap.size, i, none⟩ = fourC[i]? := by
    intro i hi
    have : i < fourC.size := hi
    simp [go_sem, Array.getElem?_eq_getElem this]
  refine .inr ⟨_, _, _, rfl, fun j hj => ?_⟩
  have hj2 : j < 4 := hj
  rw [Nat.zero_add, hc _ (by omega), hc _ (by omega), hc _ (by omega)]
  rcases (by omega : j = 0 ∨ j = 1 ∨ j = 2 ∨ j = 3) with rfl | rfl | rfl | rfl
  · exact ⟨rfl, rfl, rfl⟩
  · exact ⟨rfl, rfl, rfl⟩
  · exact ⟨rfl, rfl, rfl⟩
  · exact ⟨rfl, rfl, rfl⟩
theorem alive_has (sc : Int) (V : Bool) (hV : hasZ fourL tableB sc = V) (v : Value) (w : World) (hO : IsO w v fourL) :
    Calls Try.prog 17 #[v, .slice (some ⟨w.heap.size, 0, none⟩) 1 1, .int .i64 sc] (w.alloc (.cells (cellsOf tableB) 9)) fun e w' => e = .returned (.bool V) ∧ Below w.heap.size w w' :=
  (has_any fourL (by decide) tableB (by decide) sc v _ _ (hO.below (below_alloc w _)) (isW_built w tableB)).mono fun e w' ⟨h1, h2⟩ => ⟨by rw [h1, hV], (below_alloc w _).trans (h2.mono (below_alloc w _).size)⟩
theorem alive_cut (v : Value) (w : World) (hO : IsO w v fourL) :
    Calls Try.prog 19 #[v, .slice (some ⟨w.heap.size, 0, none⟩) 1 1] (w.alloc (.cells (cellsOf tableB) 9)) fun e w' => e = .returned (.int .i64 1) ∧ Below w.heap.size w w' :=
  (cut_any fourL (by decide) tableB (by decide) v _ _ (hO.below (below_alloc w _)) (isW_built w tableB)).mono fun e w' ⟨h1, h2⟩ => ⟨by rw [h1, four_cut], (below_alloc w _).trans (h2.mono (below_alloc w _).size)⟩

/-- The live question's calls, in a world that has its list. -/
structure Four (w w1 : World) : Prop where
  isO : IsO w1 (.slice (some ⟨w.heap.size, 0, none⟩) 4 4) fourL
  bel : Below w.heap.size w w1
theorem Four.next {w w1 w2 : World} (h : Four w w1) (b : Below w1.heap.size w1 w2) : Four w w2 := ⟨h.isO.below b, h.bel.trans (b.mono h.bel.size)⟩
theorem four_start (w : World) : Four w (w.alloc (.cells fourC 24)) := ⟨four_isO w, below_alloc w _⟩
theorem four_first (w : World) : Calls Try.prog 17 #[.slice (some ⟨w.heap.size, 0, none⟩) 4 4, .slice (some ⟨w.heap.size + 1, 0, none⟩) 1 1, .int .i64 1] ((w.alloc (.cells #[.int .i64 0, .int .i64 0, .string ⟨#[104, 116, 109, 108]⟩, .int .i64 1, .int .i64 0, .string ⟨#[116, 97, 98, 108, 101]⟩, .int .i64 2, .int .i64 0, .string ⟨#[116, 100]⟩, .int .i64 3, .int .i64 0, .string ⟨#[112]⟩] 24)).alloc (.cells #[.string ⟨#[116, 97, 98, 108, 101]⟩] 9)) fun e w' => e = .returned (.bool false) ∧ Four w w' := by
  have h := alive_has 1 false four_has1 _ _ (four_start w).isO
  have e : (w.alloc (.cells fourC 24)).heap.size = w.heap.size + 1 := by simp
  have h2 := h.mono (R' := fun e w' => e = .returned (.bool false) ∧ Four w w') fun e w' ⟨h1, h2⟩ => ⟨h1, (four_start w).next h2⟩
  rw [e] at h2
  exact h2

set_option maxHeartbeats 1000000 in
theorem alive_any (w : World) :
    Calls Try.prog 9 #[] w fun e w' => e = .returned (.bool true) ∧ Below w.heap.size w w' := by
  have H1 := hide (four_first w)
  have H2 := hide (fun w1 (b : Four w w1) => alive_has 4 true four_has4 (.slice (some ⟨w.heap.size, 0, none⟩) 4 4) w1 b.isO)
  have H3 := hide (fun w1 (b : Four w w1) => alive_cut (.slice (some ⟨w.heap.size, 0, none⟩) 4 4) w1 b.isO)
  have H4 := hide (fun w1 (b : Four w w1) => implied_any fourL (by decide) ⟨#[]⟩ (.slice (some ⟨w.heap.size, 0, none⟩) 4 4) w1 b.isO)
  have H5 := hide (fun w1 (b : Four w w1) => find_any fourL (by decide) 2 (.slice (some ⟨w.heap.size, 0, none⟩) 4 4) w1 b.isO)
  rw [four_implied] at H4
  rw [four_find] at H5
  go_enter Try.func9, Try.ntmps9
  go_wp2_with fail
  refine H1.out.mono ?_
  rintro e w1 ⟨rfl, b1⟩
  have B1 := hide b1
  clear b1 H1
  go_wp2_with fail
  refine (H2.out _ B1.out).mono ?_
  rintro e w2 ⟨rfl, b2⟩
  have B2 := hide (B1.out.next b2)
  clear b2 H2
  go_wp2_with fail
  refine (H3.out _ B2.out).mono ?_
  rintro e w3 ⟨rfl, b3⟩
  have B3 := hide (B2.out.next b3)
  clear b3 H3
  go_wp2_with fail
  refine (H4.out _ B3.out).mono ?_
  rintro e w4 ⟨rfl, b4⟩
  have B4 := hide (B3.out.next b4)
  clear b4 H4
  go_wp2_with fail
  refine (H5.out _ B4.out).mono ?_
  rintro e w5 ⟨rfl, b5⟩
  have B5 := hide (B4.out.next b5)
  clear b5 H5
  go_wp2
  go_ret
  exact ⟨rfl, B5.out.bel⟩

set_option maxHeartbeats 1000000 in
theorem small_any (a b : Option Addr) (n m c d : Nat) (w : World) :
    Calls Try.prog 16 #[.slice a n c, .slice b m d] w fun e w' => e = .returned (.bool (decide (n ≤ 60) && decide (m ≤ 60))) ∧ w' = w := by
  by_cases h1 : n ≤ 60
  · have h2 : (n : Int) ≤ 60 := by omega
    by_cases h3 : m ≤ 60
    · have h4 : (m : Int) ≤ 60 := by omega
      rw [decide_eq_true h1, decide_eq_true h3]
      clear h1 h3
      go_enter Try.func16, Try.ntmps16
      go_wp2
      go_ret
      exact ⟨rfl, rfl⟩
    · have h4 : ¬ (m : Int) ≤ 60 := by omega
      rw [decide_eq_true h1, decide_eq_false h3]
      clear h1 h3
      go_enter Try.func16, Try.ntmps16
      go_wp2
      go_ret
      exact ⟨rfl, rfl⟩
  · have h2 : ¬ (n : Int) ≤ 60 := by omega
    rw [decide_eq_false h1]
    clear h1
    go_enter Try.func16, Try.ntmps16
    go_wp2
    go_ret
    exact ⟨rfl, rfl⟩
end Go.Proofs.Ytfknhpkpenhflaa
