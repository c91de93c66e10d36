/- What the statements' live question answers: true; nothing that was there is written. MarksAlike's walk. -/
import Derived.Test.YtihpjalbdkiecaaPP7
import Derived.Test.YtihpjalbdkiecaaRF7
set_option linter.unusedVariables false
set_option linter.unusedSimpArgs false
namespace Go.Proofs.Ytihpjalbdkiecaa
open Go.RowKit

def aM : MV := ⟨1, ⟨#[97]⟩, [], .slice none 0 0⟩
def kM : MV := ⟨0, ⟨#[]⟩, [], .slice none 0 0⟩
def bM : MV := ⟨2, ⟨#[98]⟩, [], .slice none 0 0⟩
def twoL : List MV := [aM, kM]
def threeL : List MV := [aM, kM, bM]
theorem two_push : pushL twoL bM = threeL := push_keep twoL bM (.inr (by decide +kernel))
theorem three_a : lastZ threeL ⟨#[97]⟩ = -1 := by decide +kernel
theorem three_b : lastZ threeL ⟨#[98]⟩ = 2 := by decide +kernel
theorem three_renew : renewL threeL [2] = 3 := by decide +kernel
theorem three_find : findZ threeL 2 = 2 := by decide +kernel
theorem three_clear : (clearL threeL).length = 1 := by decide +kernel
theorem isQ_nil (w : World) : IsQ w (.slice none 0 0) [] := .inl ⟨rfl, _, _, rfl⟩
theorem small_three : SmallM threeL := ⟨by decide, fun x hx => by
  simp only [threeL, List.mem_cons, List.not_mem_nil, or_false] at hx
  rcases hx with rfl | rfl | rfl <;> decide⟩
theorem small_two : SmallM twoL := ⟨by decide, fun x hx => by
  simp only [twoL, List.mem_cons, List.not_mem_nil, or_false] at hx
  rcases hx with rfl | rfl <;> decide⟩
theorem ok_three (w : World) : OkM w threeL := fun x hx => by
  simp only [threeL, List.mem_cons, List.not_mem_nil, or_false] at hx
  rcases hx with rfl | rfl | rfl <;> exact isQ_nil w
theorem ok_two (w : World) : OkM w twoL := fun x hx => by
  simp only [twoL, List.mem_cons, List.not_mem_nil, or_false] at hx
  rcases hx with rfl | rfl <;> exact isQ_nil w
def twoC : Array Value := #[.int .i64 1, .string ⟨#[97]⟩, .slice none 0 0, .int .i64 0, .string ⟨#[]⟩, .slice none 0 0]
theorem two_row (w : World) : RowM (w.alloc (.cells twoC 27)) (.slice (some ⟨w.heap.size, 0, none⟩) 2 2) twoL := by
  have hc : ∀ i, i < 6 → (w.alloc (.cells twoC 27)).cell? ⟨w.heap.size, i, none⟩ = twoC[i]? := by
    intro i hi
    have : i < twoC.size := hi
    simp [go_sem, Array.getElem?_eq_getElem this]
  refine .inr ⟨_, _, _, rfl, by decide, fun j hj => ?_⟩
  have hj2 : j < 2 := hj
  rw [Nat.zero_add, hc _ (by omega), hc _ (by omega), hc _ (by omega)]
  rcases (by omega : j = 0 ∨ j = 1) with rfl | rfl
  · exact ⟨rfl, rfl, rfl⟩
  · exact ⟨rfl, rfl, rfl⟩
theorem alive_push (w : World) : Calls Try.prog 14 #[.slice (some ⟨w.heap.size, 0, none⟩) 2 2, .agg #[.int .i64 2, .string ⟨#[98]⟩, .slice none 0 0]] (w.alloc (.cells #[.int .i64 1, .string ⟨#[97]⟩, .slice none 0 0, .int .i64 0, .string ⟨#[]⟩, .slice none 0 0] 27)) fun e w' => (∃ a c, e = .returned (.slice a 3 c) ∧ RowM w' (.slice a 3 c) threeL) ∧ Below w.heap.size w w' := by
  refine (push_p (.slice (some ⟨w.heap.size, 0, none⟩) 2 2) twoL small_two bM (by decide) _ (two_row w) (ok_two _) (isQ_nil _)).mono ?_
  rintro e w' ⟨⟨v', rfl, hN⟩, b⟩
  rw [two_push] at hN
  obtain ⟨a, c, rfl⟩ := new_form hN
  exact ⟨⟨a, c, rfl, hN.row⟩, box_below w _ b⟩
theorem isZ_two (w : World) : IsZ (w.alloc (.cells #[.int .i64 2] 3)) (.slice (some ⟨w.heap.size, 0, none⟩) 1 1) [2] :=
  .inr ⟨_, _, _, rfl, fun j hj => by
    have hj2 : j < 1 := hj
    obtain rfl : j = 0 := by omega
    simp [go_sem]⟩

set_option maxHeartbeats 1000000 in
theorem alive_any (w : World) :
    Calls Try.prog 9 #[] w fun e w' => e = .returned (.bool true) ∧ Below w.heap.size w w' := by
  have H1 := hide (alive_push w)
  have H2 := hide (fun v w1 (h : RowM w1 v threeL) => last_p v threeL small_three ⟨#[97]⟩ w1 h (ok_three w1))
  have H3 := hide (fun v w1 (h : RowM w1 v threeL) => last_p v threeL small_three ⟨#[98]⟩ w1 h (ok_three w1))
  have H4 := hide (fun v w1 (h : RowM w1 v threeL) => clear_p v threeL small_three w1 h (ok_three w1))
  have H5 := hide (fun v w1 (h : RowM w1 v threeL) => renew_p v (.slice (some ⟨w1.heap.size, 0, none⟩) 1 1) threeL small_three [2] (by decide) (w1.alloc (.cells #[.int .i64 2] 3)) (h.below (below_alloc w1 _)) (ok_three _) (isZ_two w1))
  have H6 := hide (fun v w1 (h : RowM w1 v threeL) => find_p v threeL small_three 2 w1 h (ok_three w1))
  have H7 := hide (fun w1 => alike_p (.slice none 0 0) (.slice none 0 0) [] [] (by decide) (by decide) w1 (isQ_nil w1) (isQ_nil w1))
  rw [three_a] at H2
  rw [three_b] at H3
  rw [three_renew] at H5
  rw [three_find] at H6
  have e7 : alikeL [] [] = true := by decide
  rw [e7] at H7
  have HC := hide three_clear
  generalize threeL = T at *
  clear e7
  go_enter Try.func9, Try.ntmps9
  go_wp2_with fail
  refine H1.out.mono ?_
  rintro e w1 ⟨⟨a, c, rfl, hR⟩, b1⟩
  have HR := hide hR
  have B1 := hide b1
  clear hR b1 H1
  go_wp2_with fail
  refine (H2.out _ _ HR.out).mono ?_
  rintro e w2 ⟨rfl, b2⟩
  have HR2 := hide (HR.out.below b2)
  have B2 := hide (B1.out.trans (b2.mono B1.out.size))
  clear b2 HR B1 H2
  go_wp2_with fail
  refine (H3.out _ _ HR2.out).mono ?_
  rintro e w3 ⟨rfl, b3⟩
  have HR3 := hide (HR2.out.below b3)
  have B3 := hide (B2.out.trans (b3.mono B2.out.size))
  clear b3 HR2 B2 H3
  go_wp2_with fail
  refine (H4.out _ _ HR3.out).mono ?_
  rintro e w4 ⟨⟨v4, rfl, hN⟩, b4⟩
  obtain ⟨a4, c4, rfl⟩ := new_form hN
  rw [HC.out]
  have HR4 := hide (HR3.out.below b4)
  have B4 := hide (B3.out.trans (b4.mono B3.out.size))
  clear b4 HR3 B3 H4 hN
  go_wp2_with fail
  refine (H5.out _ _ HR4.out).mono ?_
  rintro e w5 ⟨rfl, b5⟩
  have b5 := box_below w4 _ b5
  have HR5 := hide (HR4.out.below b5)
  have B5 := hide (B4.out.trans (b5.mono B4.out.size))
  clear b5 HR4 B4 H5
  go_wp2_with fail
  refine (H6.out _ _ HR5.out).mono ?_
  rintro e w6 ⟨rfl, b6⟩
  have B6 := hide (B5.out.trans (b6.mono B5.out.size))
  clear b6 HR5 B5 H6
  go_wp2_with fail
  refine (H7.out _).mono ?_
  rintro e w7 ⟨rfl, b7⟩
  have B7 := hide (B6.out.trans (b7.mono B6.out.size))
  clear b7 B6 H7
  go_wp2
  go_ret
  exact ⟨rfl, B7.out⟩

set_option maxHeartbeats 1000000 in
theorem marksAlike_walk (va vb : Value) (l r : AttrL) (w : World) (hA : IsQ w va l) (hB : IsQ w vb r) :
    Calls Try.prog 3 #[va, vb] w fun e w' => e = .returned (.bool true) ∧ Below w.heap.size w w' := by
  have H1 := hide alive_any
  by_cases h1 : List.length l ≤ 6
  · by_cases h2 : List.length r ≤ 6
    · have H2 := hide (fun w1 (b : Below w.heap.size w w1) => alike_p va vb l r (by omega) (by omega) w1 (hA.below b) (hB.below b))
      have H3 := hide (fun w1 (b : Below w.heap.size w w1) => ralike_any va vb l r (by omega) (by omega) w1 (hA.below b) (hB.below b))
      obtain ⟨a1, c1, rfl⟩ := isQ_form hA
      obtain ⟨a2, c2, rfl⟩ := isQ_form hB
      generalize alikeL l r = V at *
      generalize List.length l = N at *
      generalize List.length r = M at *
      have h1' : ¬ ((6 : Int) < N) := by omega
      have h2' : ¬ ((6 : Int) < M) := by omega
      clear hA hB h1 h2
      go_enter Try.func3, Try.ntmps3
      go_wp2_with fail
      refine (H1.out _).mono ?_
      rintro e w1 ⟨rfl, b1⟩
      go_wp2_with fail
      refine (H2.out _ b1).mono ?_
      rintro e w2 ⟨rfl, b2⟩
      have c2 := b1.trans (b2.mono b1.size)
      go_wp2_with fail
      refine (H3.out _ c2).mono ?_
      rintro e w3 ⟨rfl, b3⟩
      have c3 := c2.trans (b3.mono c2.size)
      go_wp2
      go_ret
      exact ⟨by simp, c3⟩
    · obtain ⟨a1, c1, rfl⟩ := isQ_form hA
      obtain ⟨a2, c2, rfl⟩ := isQ_form hB
      generalize List.length l = N at *
      generalize List.length r = M at *
      have h1' : ¬ ((6 : Int) < N) := by omega
      have h2' : (6 : Int) < M := by omega
      clear hA hB h1 h2
      go_enter Try.func3, Try.ntmps3
      go_wp2_with fail
      refine (H1.out _).mono ?_
      rintro e w1 ⟨rfl, b1⟩
      go_wp2
      go_ret
      exact ⟨rfl, b1⟩
  · obtain ⟨a1, c1, rfl⟩ := isQ_form hA
    obtain ⟨a2, c2, rfl⟩ := isQ_form hB
    generalize List.length l = N at *
    generalize List.length r = M at *
    have h1' : (6 : Int) < N := by omega
    clear hA hB h1
    go_enter Try.func3, Try.ntmps3
    go_wp2_with fail
    refine (H1.out _).mono ?_
    rintro e w1 ⟨rfl, b1⟩
    go_wp2
    go_ret
    exact ⟨rfl, b1⟩
end Go.Proofs.Ytihpjalbdkiecaa
