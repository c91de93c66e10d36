/- What cmp.Compare of texts, cmp.Or of numbers and the closure of distinct answer; slices.SortFunc of attributes. -/
import Derived.Test.YtihpjalbdkiecaaLow7
import Derived.Test.YtihpjalbdkiecaaOrd7
import Derived.Test.YtihpjalbdkiecaaSh7
import Derived.Deep.RegionHeld2
set_option linter.unusedVariables false
set_option linter.unusedSimpArgs false
namespace Go.Proofs.Ytihpjalbdkiecaa
open Go.RowKit Go.Sort

set_option maxHeartbeats 1000000 in
theorem nan_p (x : ByteArray) (w : World) : Calls Try.prog 56 #[.string x] w fun e w' => e = .returned (.bool false) ∧ w' = w := by
  go_enter Try.func56, Try.ntmps56
  go_wp2
  go_ret
  exact ⟨by simp, rfl⟩
set_option maxHeartbeats 1000000 in
theorem compare_p (a b : List UInt8) (w : World) : Calls Try.prog 51 #[.string ⟨a.toArray⟩, .string ⟨b.toArray⟩] w fun e w' => e = .returned (.int .i64 (cmpB a b)) ∧ w' = w := by
  have H := hide nan_p
  have e1 : Op.bytesLess (⟨a.toArray⟩ : ByteArray).toList (⟨b.toArray⟩ : ByteArray).toList = Op.bytesLess a b := by rw [Lib.toList_data, Lib.toList_data, str_data, str_data]
  have e2 : ((⟨a.toArray⟩ : ByteArray).toList == (⟨b.toArray⟩ : ByteArray).toList) = (a == b) := by rw [Lib.toList_data, Lib.toList_data, str_data, str_data]
  unfold cmpB
  rw [← e1, ← e2]
  clear e1 e2
  generalize (⟨a.toArray⟩ : ByteArray) = x
  generalize (⟨b.toArray⟩ : ByteArray) = y
  by_cases h1 : Op.bytesLess x.toList y.toList = true
  · rw [if_pos h1]
    go_enter Try.func51, Try.ntmps51
    go_wp2_with fail
    refine (H.out _ _).mono ?_
    rintro e w1 ⟨rfl, rfl⟩
    go_wp2_with fail
    refine (H.out _ _).mono ?_
    rintro e w1 ⟨rfl, rfl⟩
    go_wp2
    go_ret
    exact ⟨rfl, rfl⟩
  · rw [if_neg h1]
    have h1 := Bool.eq_false_iff.2 h1
    by_cases h2 : (x.toList == y.toList) = true
    · rw [if_pos h2]
      go_enter Try.func51, Try.ntmps51
      go_wp2_with fail
      refine (H.out _ _).mono ?_
      rintro e w1 ⟨rfl, rfl⟩
      go_wp2_with fail
      refine (H.out _ _).mono ?_
      rintro e w1 ⟨rfl, rfl⟩
      go_wp2
      go_ret
      exact ⟨rfl, rfl⟩
    · rw [if_neg h2]
      have h2 := Bool.eq_false_iff.2 h2
      go_enter Try.func51, Try.ntmps51
      go_wp2_with fail
      refine (H.out _ _).mono ?_
      rintro e w1 ⟨rfl, rfl⟩
      go_wp2_with fail
      refine (H.out _ _).mono ?_
      rintro e w1 ⟨rfl, rfl⟩
      go_wp2
      go_ret
      exact ⟨rfl, rfl⟩

set_option maxHeartbeats 1000000 in
theorem or_p (x y : Int) (b : Nat) (w : World) (h0 : w.cell? ⟨b, 0, none⟩ = some (.int .i64 x)) (h1 : w.cell? ⟨b, 1, none⟩ = some (.int .i64 y)) :
    Calls Try.prog 50 #[.slice (some ⟨b, 0, none⟩) 2 2] w fun e w' => e = .returned (.int .i64 (if x = 0 then y else x)) ∧ w' = w := by
  by_cases hx : x = 0
  · rw [if_pos hx]
    subst hx
    by_cases hy : y = 0
    · subst hy
      go_enter Try.func50, Try.ntmps50
      go_wp2
      refine wp_loop_rounds 3 ?_
      rw [rounds_succ]
      go_wp2
      rw [rounds_succ]
      go_wp2
      rw [rounds_succ]
      go_wp2
      go_ret
      exact ⟨rfl, rfl⟩
    · have hy2 := ne_int y 0 hy
      go_enter Try.func50, Try.ntmps50
      go_wp2
      refine wp_loop_rounds 2 ?_
      rw [rounds_succ]
      go_wp2
      rw [rounds_succ]
      go_wp2
      go_ret
      exact ⟨rfl, rfl⟩
  · rw [if_neg hx]
    have hx2 := ne_int x 0 hx
    go_enter Try.func50, Try.ntmps50
    go_wp2
    refine wp_loop_rounds 1 ?_
    rw [rounds_succ]
    go_wp2
    go_ret
    exact ⟨rfl, rfl⟩

def encA (x : At) : List Value := [.string ⟨x.1.toArray⟩, .string ⟨x.2.toArray⟩]
set_option maxHeartbeats 1000000 in
theorem closure_p (x y : At) (w : World) :
    Calls Try.prog 49 #[.agg #[.string ⟨x.1.toArray⟩, .string ⟨x.2.toArray⟩], .agg #[.string ⟨y.1.toArray⟩, .string ⟨y.2.toArray⟩]] w fun e w' => e = .returned (.int .i64 (cmpA x y)) ∧ ∃ q os', w' = grow (w.drewN q) os' := by
  have H1 := hide (fun W => compare_p x.1 y.1 W)
  have H2 := hide (fun W => compare_p x.2 y.2 W)
  unfold cmpA
  generalize cmpB x.1 y.1 = P at *
  generalize cmpB x.2 y.2 = Q at *
  have H3 := hide (fun b w h0 h1 => or_p P Q b w h0 h1)
  generalize (if P = 0 then Q else P) = R at *
  generalize (⟨x.1.toArray⟩ : ByteArray) = a at *
  generalize (⟨x.2.toArray⟩ : ByteArray) = b at *
  generalize (⟨y.1.toArray⟩ : ByteArray) = c at *
  generalize (⟨y.2.toArray⟩ : ByteArray) = d at *
  go_enter Try.func49, Try.ntmps49
  go_wp2_with fail
  generalize hW0 : (w.alloc (.cells #[.string a, .string b] 43)).alloc (.cells #[.string c, .string d] 43) = W0
  have HE : Hid (W0 = grow w #[.cells #[.string a, .string b] 43, .cells #[.string c, .string d] 43]) := hide (by rw [← hW0, alloc_eq_grow, alloc_eq_grow, grow_grow]; rfl)
  have h0 : W0.cell? ⟨w.heap.size, 0, none⟩ = some (.string a) := by rw [← hW0]; simp [go_sem]
  have h1 : W0.cell? ⟨w.heap.size, 1, none⟩ = some (.string b) := by rw [← hW0]; simp [go_sem]
  have h2 : W0.cell? ⟨w.heap.size + 1, 0, none⟩ = some (.string c) := by rw [← hW0]; simp [go_sem]
  have h3 : W0.cell? ⟨w.heap.size + 1, 1, none⟩ = some (.string d) := by rw [← hW0]; simp [go_sem]
  have HC := hide (And.intro h0 (And.intro h1 (And.intro h2 h3)))
  have HO := hide (H3.out W0.heap.size (W0.drew.alloc (.cells #[.int .i64 P, .int .i64 Q] 3)) (by simp [go_sem]) (by simp [go_sem]))
  have HO2 := hide (H3.out W0.heap.size (W0.alloc (.cells #[.int .i64 P, .int .i64 Q] 3)).drew (by simp [go_sem]) (by simp [go_sem]))
  have HC2 : Hid ((W0.alloc (.cells #[.int .i64 P, .int .i64 Q] 3)).drew.cell? ⟨w.heap.size, 0, none⟩ = some (.string a) ∧ (W0.alloc (.cells #[.int .i64 P, .int .i64 Q] 3)).drew.cell? ⟨w.heap.size, 1, none⟩ = some (.string b) ∧ (W0.alloc (.cells #[.int .i64 P, .int .i64 Q] 3)).drew.cell? ⟨w.heap.size + 1, 0, none⟩ = some (.string c) ∧ (W0.alloc (.cells #[.int .i64 P, .int .i64 Q] 3)).drew.cell? ⟨w.heap.size + 1, 1, none⟩ = some (.string d)) := hide (by
    have bb := (below_alloc W0 (.cells #[.int .i64 P, .int .i64 Q] 3)).drew
    exact ⟨by rw [bb.cell (cell_lt h0)]; exact h0, by rw [bb.cell (cell_lt h1)]; exact h1, by rw [bb.cell (cell_lt h2)]; exact h2, by rw [bb.cell (cell_lt h3)]; exact h3⟩)
  clear hW0 h0 h1 h2 h3 H3
  go_region_held2 (fun W' => W'.cell? ⟨w.heap.size, 0, none⟩ = some (.string a) ∧ W'.cell? ⟨w.heap.size, 1, none⟩ = some (.string b) ∧ W'.cell? ⟨w.heap.size + 1, 0, none⟩ = some (.string c) ∧ W'.cell? ⟨w.heap.size + 1, 1, none⟩ = some (.string d)) (first | with_reducible exact HC.out | with_reducible exact HC2.out | exact HC.out) (first | (go_at_call 51; first | (with_reducible refine (H1.out _).mono ?_; rintro e w1 ⟨rfl, rfl⟩) | (with_reducible refine (H2.out _).mono ?_; rintro e w1 ⟨rfl, rfl⟩)) | (go_at_call 50; first | (with_reducible refine HO.out.mono ?_; rintro e w1 ⟨rfl, rfl⟩) | (with_reducible refine HO2.out.mono ?_; rintro e w1 ⟨rfl, rfl⟩)))
  go_wp2
  go_ret
  refine ⟨rfl, 1, #[.cells #[.string a, .string b] 43, .cells #[.string c, .string d] 43, .cells #[.int .i64 P, .int .i64 Q] 3], ?_⟩
  rw [HE.out, alloc_eq_grow, grow_grow]
  rfl
end Go.Proofs.Ytihpjalbdkiecaa
