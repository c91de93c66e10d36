/- html, textsWithin, wayOf: which way a node is written. -/
import Derived.Test.YthoibenncjbkdaaDoorPt9
set_option linter.unusedVariables false
set_option linter.unusedSimpArgs false
set_option maxRecDepth 4000
namespace Go.Proofs.YthoibenncjbkdaaDoor
open Go.RowKit

theorem box_kept {w W : World} {cs : Array Value} {T : TypeId} (hb : Below (w.alloc (.cells cs T)).heap.size (w.alloc (.cells cs T)) W) (j : Nat) : W.cell? ⟨w.heap.size, j, none⟩ = cs[j]? := by
  have h := hb.block w.heap.size (by simp)
  rw [new_heap] at h
  exact Lib.cell_of_heap h j
theorem box_below {w W : World} {o : Obj} (hb : Below (w.alloc o).heap.size (w.alloc o) W) : Below w.heap.size w W := (S5.below_alloc w o).trans (hb.mono (S5.below_alloc w o).size)
set_option maxHeartbeats 400000 in
theorem html_p (kd sp : Int) (nm tx : ByteArray) (av kv : Value) (w : World) :
    Calls Tryd.prog 35 #[.agg #[.int .i64 kd, .int .i64 sp, .string nm, av, .string tx, kv]] w fun e w' => e = .returned (.bool (sp == 0)) ∧ Below w.heap.size w w' := by
  go_enter Tryd.func35, Tryd.ntmps35
  go_wp2
  go_ret
  exact ⟨rfl, S5.below_alloc w _⟩
/-- The ways, as values. -/
abbrev wText : Value := .func (.func 14) #[] #[]
abbrev wRaw : Value := .func (.func 44) #[] #[]
abbrev wElement : Value := .func (.func 27) #[] #[]
abbrev wComment : Value := .func (.func 28) #[] #[]
abbrev wNothing : Value := .func (.func 29) #[] #[]
abbrev wayOfTexts (raw : Bool) : Value := if raw then wRaw else wText
set_option maxHeartbeats 400000 in
theorem wayOf_p (k : Int) (v : Value) (w : World) :
    Calls Tryd.prog 19 #[.int .i64 k, v] w fun e w' => e = .returned (if k = 1 then wElement else if k = 2 then v else if k = 3 then wComment else wNothing) ∧ w' = w := by
  by_cases h1 : k = 1
  · subst h1
    go_enter Tryd.func19, Tryd.ntmps19
    go_wp2
    go_ret
    exact ⟨rfl, rfl⟩
  · have e1 : (k == 1) = false := beq_eq_false_iff_ne.2 h1
    by_cases h2 : k = 2
    · subst h2
      go_enter Tryd.func19, Tryd.ntmps19
      go_wp2
      go_ret
      exact ⟨rfl, rfl⟩
    · have e2 : (k == 2) = false := beq_eq_false_iff_ne.2 h2
      by_cases h3 : k = 3
      · subst h3
        go_enter Tryd.func19, Tryd.ntmps19
        go_wp2
        go_ret
        exact ⟨rfl, rfl⟩
      · have e3 : (k == 3) = false := beq_eq_false_iff_ne.2 h3
        rw [if_neg h1, if_neg h2, if_neg h3]
        go_enter Tryd.func19, Tryd.ntmps19
        go_wp2
        go_ret
        exact ⟨rfl, rfl⟩
set_option maxHeartbeats 400000 in
theorem textsWithin_p (kd sp : Int) (nm tx : ByteArray) (av kv : Value) (w : World) :
    Calls Tryd.prog 37 #[.agg #[.int .i64 kd, .int .i64 sp, .string nm, av, .string tx, kv]] w fun e w' => e = .returned (wayOfTexts ((sp == 0) && (S6.isL 2 nm.data.toList || nm.data.toList == plainT))) ∧ Below w.heap.size w w' := by
  have HH := hide (html_p kd sp nm tx av kv)
  have HI := hide (S6.is_any 2 nm)
  have hx : nm.toList = nm.data.toList := Lib.toList_data nm
  cases hs : (sp == 0)
  · rw [hs] at HH
    rw [Bool.false_and]
    go_enter Tryd.func37, Tryd.ntmps37
    go_wp2_with fail
    refine (HH.out _).mono ?_
    rintro e w1 ⟨rfl, b1⟩
    have n2 : w1.cell? ⟨w.heap.size, 2, none⟩ = some (.string nm) := box_kept b1 2
    go_wp2
    go_ret
    exact ⟨rfl, box_below b1⟩
  · rw [hs] at HH
    rw [Bool.true_and]
    cases h2 : S6.isL 2 nm.data.toList
    · rw [h2] at HI
      rw [Bool.false_or]
      cases h3 : (nm.data.toList == plainT)
      · have h4 : (nm.toList == [112, 108, 97, 105, 110, 116, 101, 120, 116]) = false := by rw [hx]; exact h3
        clear h3 hx
        go_enter Tryd.func37, Tryd.ntmps37
        go_wp2_with fail
        refine (HH.out _).mono ?_
        rintro e w1 ⟨rfl, b1⟩
        have n2 : w1.cell? ⟨w.heap.size, 2, none⟩ = some (.string nm) := box_kept b1 2
        go_wp2_with fail
        refine (HI.out _).mono ?_
        rintro e w2 ⟨rfl, b2⟩
        have n3 : w2.cell? ⟨w.heap.size, 2, none⟩ = some (.string nm) := box_kept (b1.trans (b2.mono b1.size)) 2
        go_wp2
        go_ret
        exact ⟨rfl, box_below (b1.trans (b2.mono b1.size))⟩
      · have h4 : (nm.toList == [112, 108, 97, 105, 110, 116, 101, 120, 116]) = true := by rw [hx]; exact h3
        clear h3 hx
        go_enter Tryd.func37, Tryd.ntmps37
        go_wp2_with fail
        refine (HH.out _).mono ?_
        rintro e w1 ⟨rfl, b1⟩
        have n2 : w1.cell? ⟨w.heap.size, 2, none⟩ = some (.string nm) := box_kept b1 2
        go_wp2_with fail
        refine (HI.out _).mono ?_
        rintro e w2 ⟨rfl, b2⟩
        have n3 : w2.cell? ⟨w.heap.size, 2, none⟩ = some (.string nm) := box_kept (b1.trans (b2.mono b1.size)) 2
        go_wp2
        go_ret
        exact ⟨rfl, box_below (b1.trans (b2.mono b1.size))⟩
    · rw [h2] at HI
      rw [Bool.true_or]
      clear hx
      go_enter Tryd.func37, Tryd.ntmps37
      go_wp2_with fail
      refine (HH.out _).mono ?_
      rintro e w1 ⟨rfl, b1⟩
      have n2 : w1.cell? ⟨w.heap.size, 2, none⟩ = some (.string nm) := box_kept b1 2
      go_wp2_with fail
      refine (HI.out _).mono ?_
      rintro e w2 ⟨rfl, b2⟩
      have n3 : w2.cell? ⟨w.heap.size, 2, none⟩ = some (.string nm) := box_kept (b1.trans (b2.mono b1.size)) 2
      go_wp2
      go_ret
      exact ⟨rfl, box_below (b1.trans (b2.mono b1.size))⟩
end Go.Proofs.YthoibenncjbkdaaDoor
