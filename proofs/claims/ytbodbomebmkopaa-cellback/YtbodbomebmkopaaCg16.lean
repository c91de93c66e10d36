/- What the document's Same answers of two cells. -/
import Derived.Test.YtbodbomebmkopaaCf16
import Derived.Laws.BytesArg
set_option linter.unusedVariables false
set_option linter.unusedSimpArgs false
set_option maxRecDepth 40000
namespace Go.Proofs.Ytbodbomebmkopaa
open Go.RowKit

theorem conv_zeroC (w : World) (a : Option Addr) (c : Nat) : (convert 23 9 (.slice a 0 c)).run Try.prog w = .ok (.string ⟨#[]⟩) w := by
  cases a with
  | none => exact run_convert_bytes_nil _ 23 5 Try.underlying23 Try.underlying5 0 c 9 Try.underlying9
  | some x => exact run_convert_bytes_back w 23 9 5 x c [] Try.underlying23 Try.underlying5 Try.underlying9 (fun j hj => absurd hj (Nat.not_lt_zero j))
theorem conv_isYC {w : World} {v : Value} {l : Bs} (h : IsY w v l) : (convert 23 9 v).run Try.prog w = .ok (.string ⟨l.toArray⟩) w := by
  rcases h with ⟨rfl, a, c, rfl⟩ | ⟨b, o, cap, rfl, _, hc⟩
  · exact conv_zeroC w a c
  · exact run_convert_bytes_back w 23 9 5 ⟨b, o, none⟩ cap l Try.underlying23 Try.underlying5 Try.underlying9 (fun j hj => by rw [addr_addo]; exact hc j hj)
theorem below_two (w : World) (o1 o2 : Obj) : Below w.heap.size w ((w.alloc o1).alloc o2) := (below_alloc w o1).trans ((below_alloc (w.alloc o1) o2).mono (below_alloc w o1).size)
set_option maxHeartbeats 4000000 in
theorem rsame_any (a b : CL) (av bv : Value) (w : World) (hA : IsC w a av) (hB : IsC w b bv) : Calls Try.prog 12 #[clA a av, clA b bv] w fun e w' => e = .returned (.bool (sameC a b)) ∧ Below w.heap.size w w' := by
  have BB := hide (fun o1 o2 => below_two w o1 o2)
  have hca : ∀ o1 o2, (convert 23 9 av).run Try.prog ((w.alloc o1).alloc o2) = .ok (.string ⟨a.data.toArray⟩) ((w.alloc o1).alloc o2) := fun o1 o2 => conv_isYC (hA.d.below (below_two w o1 o2))
  have hcb : ∀ o1 o2, (convert 23 9 bv).run Try.prog ((w.alloc o1).alloc o2) = .ok (.string ⟨b.data.toArray⟩) ((w.alloc o1).alloc o2) := fun o1 o2 => conv_isYC (hB.d.below (below_two w o1 o2))
  obtain ⟨aa, ac, rfl⟩ := hA.d.form
  obtain ⟨ba, bc, rfl⟩ := hB.d.form
  clear hA hB
  obtain ⟨e1, l1, p1, o1, d1⟩ := a
  obtain ⟨e2, l2, p2, o2, d2⟩ := b
  unfold sameC
  simp only [] at *
  by_cases h5 : d1 = d2
  · subst h5
    rw [decide_eq_true (rfl : d1 = d1), Bool.and_true]
    generalize hs : (⟨d1.toArray⟩ : ByteArray) = S at *
    clear hs
    generalize d1.length = m at *
    by_cases he : e1 = e2
    · subst he
      rw [decide_eq_true (rfl : e1 = e1), Bool.true_and]
      by_cases hl : l1 = l2
      · subst hl
        rw [decide_eq_true (rfl : l1 = l1), Bool.true_and]
        by_cases hp : p1 = p2
        · subst hp
          rw [decide_eq_true (rfl : p1 = p1), Bool.true_and]
          by_cases ho : o1 = o2
          · subst ho
            rw [decide_eq_true (rfl : o1 = o1)]
            go_enter Try.func12, Try.ntmps12
            go_wp2
            go_ret
            exact ⟨by first | rfl | exact congrArg (fun k => Ending.returned (.bool k)) hsn, BB.out _ _⟩
          · have ho2 : (o1 == o2) = false := by rw [beq_eq_false_iff_ne]; omega
            have ho3 : ¬ o1 = o2 := by omega
            rw [decide_eq_false ho]
            clear ho
            go_enter Try.func12, Try.ntmps12
            go_wp2
            go_ret
            exact ⟨by first | rfl | exact congrArg (fun k => Ending.returned (.bool k)) hsn, BB.out _ _⟩
        · have hp2 : (p1 == p2) = false := by rw [beq_eq_false_iff_ne]; omega
          have hp3 : ¬ p1 = p2 := by omega
          rw [decide_eq_false hp, Bool.false_and]
          clear hp
          go_enter Try.func12, Try.ntmps12
          go_wp2
          go_ret
          exact ⟨by first | rfl | exact congrArg (fun k => Ending.returned (.bool k)) hsn, BB.out _ _⟩
      · have hl2 : ((l1 : Int) == (l2 : Int)) = false := by rw [beq_eq_false_iff_ne]; omega
        have hl3 : ¬ (l1 : Int) = (l2 : Int) := by omega
        rw [decide_eq_false hl, Bool.false_and]
        clear hl
        go_enter Try.func12, Try.ntmps12
        go_wp2
        go_ret
        exact ⟨by first | rfl | exact congrArg (fun k => Ending.returned (.bool k)) hsn, BB.out _ _⟩
    · have he2 : ((e1 : Int) == (e2 : Int)) = false := by rw [beq_eq_false_iff_ne]; omega
      have he3 : ¬ (e1 : Int) = (e2 : Int) := by omega
      rw [decide_eq_false he, Bool.false_and]
      clear he
      go_enter Try.func12, Try.ntmps12
      go_wp2
      go_ret
      exact ⟨by first | rfl | exact congrArg (fun k => Ending.returned (.bool k)) hsn, BB.out _ _⟩
  · rw [decide_eq_false h5, Bool.and_false, Bool.and_false, Bool.and_false, Bool.and_false]
    have hsn : ((⟨d1.toArray⟩ : ByteArray).data.toList == (⟨d2.toArray⟩ : ByteArray).data.toList) = false := by rw [str_data, str_data, beq_eq_false_iff_ne]; exact h5
    rw [← Lib.toList_data, ← Lib.toList_data] at hsn
    clear h5
    generalize (⟨d1.toArray⟩ : ByteArray) = S1 at *
    generalize (⟨d2.toArray⟩ : ByteArray) = S2 at *
    generalize d1.length = m1 at *
    generalize d2.length = m2 at *
    by_cases he : e1 = e2
    · subst he
      by_cases hl : l1 = l2
      · subst hl
        by_cases hp : p1 = p2
        · subst hp
          by_cases ho : o1 = o2
          · subst ho
            go_enter Try.func12, Try.ntmps12
            go_wp2
            go_ret
            exact ⟨by first | rfl | exact congrArg (fun k => Ending.returned (.bool k)) hsn, BB.out _ _⟩
          · have ho2 : (o1 == o2) = false := by rw [beq_eq_false_iff_ne]; omega
            have ho3 : ¬ o1 = o2 := by omega
            clear ho
            go_enter Try.func12, Try.ntmps12
            go_wp2
            go_ret
            exact ⟨by first | rfl | exact congrArg (fun k => Ending.returned (.bool k)) hsn, BB.out _ _⟩
        · have hp2 : (p1 == p2) = false := by rw [beq_eq_false_iff_ne]; omega
          have hp3 : ¬ p1 = p2 := by omega
          clear hp
          go_enter Try.func12, Try.ntmps12
          go_wp2
          go_ret
          exact ⟨by first | rfl | exact congrArg (fun k => Ending.returned (.bool k)) hsn, BB.out _ _⟩
      · have hl2 : ((l1 : Int) == (l2 : Int)) = false := by rw [beq_eq_false_iff_ne]; omega
        have hl3 : ¬ (l1 : Int) = (l2 : Int) := by omega
        clear hl
        go_enter Try.func12, Try.ntmps12
        go_wp2
        go_ret
        exact ⟨by first | rfl | exact congrArg (fun k => Ending.returned (.bool k)) hsn, BB.out _ _⟩
    · have he2 : ((e1 : Int) == (e2 : Int)) = false := by rw [beq_eq_false_iff_ne]; omega
      have he3 : ¬ (e1 : Int) = (e2 : Int) := by omega
      clear he
      go_enter Try.func12, Try.ntmps12
      go_wp2
      go_ret
      exact ⟨by first | rfl | exact congrArg (fun k => Ending.returned (.bool k)) hsn, BB.out _ _⟩
end Go.Proofs.Ytbodbomebmkopaa
