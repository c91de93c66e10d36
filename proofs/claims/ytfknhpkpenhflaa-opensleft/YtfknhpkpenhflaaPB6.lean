/- What Point, endsAtName, Ends, named and Special answer, of whatever element, scope and names; nothing that was there is written. -/
import Derived.Test.YtfknhpkpenhflaaPA6
set_option linter.unusedVariables false
set_option linter.unusedSimpArgs false
namespace Go.Proofs.Ytfknhpkpenhflaa
open Go.RowKit

theorem box_size (w : World) (x : Array Value) : (w.alloc (.cells x 24)).heap.size = w.heap.size + 1 := by simp
theorem box_cells (w : World) (id sp : Int) (nm : ByteArray) {w1 : World} (b1 : Below (w.alloc (.cells #[.int .i64 id, .int .i64 sp, .string nm] 24)).heap.size (w.alloc (.cells #[.int .i64 id, .int .i64 sp, .string nm] 24)) w1) :
    w1.cell? ⟨w.heap.size, 0, none⟩ = some (.int .i64 id) ∧ w1.cell? ⟨w.heap.size, 1, none⟩ = some (.int .i64 sp) ∧ w1.cell? ⟨w.heap.size, 2, none⟩ = some (.string nm) := by
  refine ⟨?_, ?_, ?_⟩
  all_goals
    rw [b1.cell (by simp)]
    simp [go_sem]
theorem box_below (w : World) (x : Obj) {w1 : World} (b1 : Below (w.alloc x).heap.size (w.alloc x) w1) : Below w.heap.size w w1 := (below_alloc w x).trans (b1.mono (below_alloc w x).size)

set_option maxHeartbeats 1000000 in
theorem point_any (o : OV) (w : World) :
    Calls Try.prog 12 #[.agg #[.int .i64 o.id, .int .i64 o.sp, .string o.nm]] w fun e w' => e = .returned (.bool (pointL o)) ∧ Below w.heap.size w w' := by
  obtain ⟨id, sp, nm⟩ := o
  show Calls Try.prog 12 #[.agg #[.int .i64 id, .int .i64 sp, .string nm]] w fun e w' => e = .returned (.bool (pointS sp nm.data.toList)) ∧ Below w.heap.size w w'
  by_cases h1 : sp = 1
  · subst h1
    have e : pointS 1 nm.data.toList = amongL svgN nm.data.toList := rfl
    rw [e]
    generalize hV : amongL svgN nm.data.toList = V
    have H := hide (pamong_built nm svgN (by decide) V hV (w.alloc (.cells #[.int .i64 id, .int .i64 1, .string nm] 24)))
    rw [box_size] at H
    clear hV e
    go_enter Try.func12, Try.ntmps12
    go_wp2_with fail
    refine H.out.mono ?_
    rintro e w1 ⟨rfl, b1⟩
    go_wp2
    go_ret
    exact ⟨rfl, box_below w _ (by rw [box_size]; exact b1)⟩
  · by_cases h2 : sp = 2
    · subst h2
      have e : pointS 2 nm.data.toList = amongL mathN nm.data.toList := rfl
      rw [e]
      generalize hV : amongL mathN nm.data.toList = V
      have H := hide (pamong_built nm mathN (by decide) V hV (w.alloc (.cells #[.int .i64 id, .int .i64 2, .string nm] 24)))
      rw [box_size] at H
      clear hV e
      go_enter Try.func12, Try.ntmps12
      go_wp2_with fail
      refine H.out.mono ?_
      rintro e w1 ⟨rfl, b1⟩
      go_wp2
      go_ret
      exact ⟨rfl, box_below w _ (by rw [box_size]; exact b1)⟩
    · have e : pointS sp nm.data.toList = false := by
        unfold pointS
        rw [if_neg h1, if_neg h2]
      rw [e]
      have e1 := ne_int sp 1 h1
      have e2 := ne_int sp 2 h2
      clear e h1 h2
      go_enter Try.func12, Try.ntmps12
      go_wp2_with fail
      go_ret
      exact ⟨rfl, below_alloc w _⟩

set_option maxHeartbeats 1000000 in
theorem endsAtName_any (n : ByteArray) (k : Int) (w : World) :
    Calls Try.prog 27 #[.string n, .int .i64 k] w fun e w' => e = .returned (.bool (endsNameL n.data.toList k)) ∧ Below w.heap.size w w' := by
  have H1 := hide (endsAll_any n)
  by_cases h4 : k = 4
  · subst h4
    have e : endsNameL n.data.toList 4 = amongL tabN n.data.toList := rfl
    rw [e]
    generalize hV : amongL tabN n.data.toList = V
    have H := hide (pamong_built n tabN (by decide) V hV w)
    clear hV e
    go_enter Try.func27, Try.ntmps27
    go_wp2_with fail
    refine H.out.mono ?_
    rintro e w1 ⟨rfl, b1⟩
    go_wp2
    go_ret
    exact ⟨rfl, b1⟩
  by_cases h2 : k = 2
  · subst h2
    have e : endsNameL n.data.toList 2 = (amongL wholeN n.data.toList || amongL rowN n.data.toList) := rfl
    rw [e]
    generalize hV : amongL rowN n.data.toList = V
    have H := hide (pamong_built n rowN (by decide) V hV)
    generalize amongL wholeN n.data.toList = U at *
    clear hV e
    cases U
    · go_enter Try.func27, Try.ntmps27
      go_wp2_with fail
      refine (H1.out _).mono ?_
      rintro e w1 ⟨rfl, b1⟩
      go_wp2_with fail
      refine (H.out _).mono ?_
      rintro e w2 ⟨rfl, b2⟩
      go_wp2
      go_ret
      exact ⟨ret_bool (Bool.false_or V).symm, b1.trans (b2.mono b1.size)⟩
    · go_enter Try.func27, Try.ntmps27
      go_wp2_with fail
      refine (H1.out _).mono ?_
      rintro e w1 ⟨rfl, b1⟩
      go_wp2
      go_ret
      exact ⟨ret_bool (Bool.true_or V).symm, b1⟩
  by_cases h3 : k = 3
  · subst h3
    have e : endsNameL n.data.toList 3 = (amongL wholeN n.data.toList || n.data.toList == buttonB) := rfl
    rw [e]
    have hs := str_eq n buttonB
    generalize amongL wholeN n.data.toList = U at *
    generalize (n.data.toList == buttonB) = V at *
    have hs2 : (n.toList == [98, 117, 116, 116, 111, 110]) = V := hs
    clear e hs
    cases U
    · go_enter Try.func27, Try.ntmps27
      go_wp2_with fail
      refine (H1.out _).mono ?_
      rintro e w1 ⟨rfl, b1⟩
      go_wp2
      go_ret
      exact ⟨ret_bool (Bool.false_or V).symm, b1⟩
    · go_enter Try.func27, Try.ntmps27
      go_wp2_with fail
      refine (H1.out _).mono ?_
      rintro e w1 ⟨rfl, b1⟩
      go_wp2
      go_ret
      exact ⟨ret_bool (Bool.true_or V).symm, b1⟩
  have e : endsNameL n.data.toList k = amongL wholeN n.data.toList := by
    unfold endsNameL
    rw [if_neg h4, if_neg h2, if_neg h3]
  rw [e]
  have e2 := ne_int k 2 h2
  have e3 := ne_int k 3 h3
  have e4 := ne_int k 4 h4
  generalize amongL wholeN n.data.toList = U at *
  clear e h2 h3 h4
  go_enter Try.func27, Try.ntmps27
  go_wp2_with fail
  refine (H1.out _).mono ?_
  rintro e w1 ⟨rfl, b1⟩
  go_wp2
  go_ret
  exact ⟨rfl, b1⟩

set_option maxHeartbeats 1000000 in
theorem ends_any (o : OV) (k : Int) (w : World) :
    Calls Try.prog 10 #[.agg #[.int .i64 o.id, .int .i64 o.sp, .string o.nm], .int .i64 k] w fun e w' => e = .returned (.bool (endsL o k)) ∧ Below w.heap.size w w' := by
  have H1 := hide (html_any o)
  have H2 := hide (endsAtName_any o.nm k)
  have H3 := hide (point_any o)
  unfold endsL
  generalize endsNameL o.nm.data.toList k = E at *
  generalize pointL o = P at *
  generalize htmlL o = B at *
  obtain ⟨id, sp, nm⟩ := o
  simp only [] at H1 H2 H3 ⊢
  cases B with
  | true =>
    go_enter Try.func10, Try.ntmps10
    go_wp2_with fail
    refine (H1.out _).mono ?_
    rintro e w1 ⟨rfl, b1⟩
    obtain ⟨c0, c1, c2⟩ := box_cells w id sp nm b1
    have bb := box_below w _ b1
    clear b1
    go_wp2_with fail
    refine (H2.out _).mono ?_
    rintro e w2 ⟨rfl, b2⟩
    go_wp2
    go_ret
    exact ⟨rfl, bb.trans (b2.mono bb.size)⟩
  | false =>
    by_cases h4 : k = 4
    · subst h4
      go_enter Try.func10, Try.ntmps10
      go_wp2_with fail
      refine (H1.out _).mono ?_
      rintro e w1 ⟨rfl, b1⟩
      obtain ⟨c0, c1, c2⟩ := box_cells w id sp nm b1
      have bb := box_below w _ b1
      clear b1
      go_wp2
      go_ret
      exact ⟨rfl, bb⟩
    · have e4 := ne_int k 4 h4
      go_enter Try.func10, Try.ntmps10
      go_wp2_with fail
      refine (H1.out _).mono ?_
      rintro e w1 ⟨rfl, b1⟩
      obtain ⟨c0, c1, c2⟩ := box_cells w id sp nm b1
      have bb := box_below w _ b1
      clear b1
      go_wp2_with fail
      refine (H3.out _).mono ?_
      rintro e w2 ⟨rfl, b2⟩
      go_wp2
      go_ret
      exact ⟨rfl, bb.trans (b2.mono bb.size)⟩

set_option maxHeartbeats 1000000 in
theorem named_any (o : OV) (names : List (List UInt8)) (hl : names.length ≤ 1000000) (v : Value) (w : World) (hW : IsW w v names) :
    Calls Try.prog 33 #[.agg #[.int .i64 o.id, .int .i64 o.sp, .string o.nm], v] w fun e w' => e = .returned (.bool (namedL names o)) ∧ Below w.heap.size w w' := by
  have H1 := hide (html_any o)
  have H2 := hide (fun w1 (b1 : Below w.heap.size w w1) => contains_any o.nm names v w1 hl (hW.below b1))
  unfold namedL
  generalize amongL names o.nm.data.toList = P at *
  generalize htmlL o = B at *
  obtain ⟨id, sp, nm⟩ := o
  simp only [] at H1 H2 ⊢
  clear hW
  cases B with
  | true =>
    go_enter Try.func33, Try.ntmps33
    go_wp2_with fail
    refine (H1.out _).mono ?_
    rintro e w1 ⟨rfl, b1⟩
    obtain ⟨c0, c1, c2⟩ := box_cells w id sp nm b1
    have bb := box_below w _ b1
    clear b1
    go_wp2_with fail
    refine (H2.out w1 bb).mono ?_
    rintro e w2 ⟨rfl, rfl⟩
    go_wp2
    go_ret
    exact ⟨rfl, bb⟩
  | false =>
    go_enter Try.func33, Try.ntmps33
    go_wp2_with fail
    refine (H1.out _).mono ?_
    rintro e w1 ⟨rfl, b1⟩
    have bb := box_below w _ b1
    clear b1
    go_wp2
    go_ret
    exact ⟨rfl, bb⟩

set_option maxHeartbeats 1000000 in
theorem special6_any (o : OV) (w : World) :
    Calls Try.prog 14 #[.agg #[.int .i64 o.id, .int .i64 o.sp, .string o.nm]] w fun e w' => e = .returned (.bool (specialL o)) ∧ Below w.heap.size w w' := by
  have H1 := hide (html_any o)
  have H2 := hide (isp_4 o.nm)
  have H3 := hide (point_any o)
  unfold specialL
  generalize isL 4 o.nm.data.toList = S at *
  generalize pointL o = P at *
  generalize htmlL o = B at *
  obtain ⟨id, sp, nm⟩ := o
  simp only [] at H1 H2 H3 ⊢
  cases B with
  | true =>
    cases S with
    | true =>
      go_enter Try.func14, Try.ntmps14
      go_wp2_with fail
      refine (H1.out _).mono ?_
      rintro e w1 ⟨rfl, b1⟩
      obtain ⟨c0, c1, c2⟩ := box_cells w id sp nm b1
      have bb := box_below w _ b1
      clear b1
      go_wp2_with fail
      refine (H2.out _).mono ?_
      rintro e w2 ⟨rfl, b2⟩
      go_wp2
      go_ret
      exact ⟨rfl, bb.trans (b2.mono bb.size)⟩
    | false =>
      go_enter Try.func14, Try.ntmps14
      go_wp2_with fail
      refine (H1.out _).mono ?_
      rintro e w1 ⟨rfl, b1⟩
      obtain ⟨c0, c1, c2⟩ := box_cells w id sp nm b1
      have bb := box_below w _ b1
      go_wp2_with fail
      refine (H2.out _).mono ?_
      rintro e w2 ⟨rfl, b2⟩
      have b12 := b1.trans (b2.mono b1.size)
      obtain ⟨d0, d1, d2⟩ := box_cells w id sp nm b12
      have bb2 := box_below w _ b12
      clear b1 b2 b12 c0 c1 c2
      go_wp2_with fail
      refine (H3.out _).mono ?_
      rintro e w3 ⟨rfl, b3⟩
      go_wp2
      go_ret
      exact ⟨rfl, bb2.trans (b3.mono bb2.size)⟩
  | false =>
    go_enter Try.func14, Try.ntmps14
    go_wp2_with fail
    refine (H1.out _).mono ?_
    rintro e w1 ⟨rfl, b1⟩
    obtain ⟨c0, c1, c2⟩ := box_cells w id sp nm b1
    have bb := box_below w _ b1
    clear b1
    go_wp2_with fail
    refine (H3.out _).mono ?_
    rintro e w3 ⟨rfl, b3⟩
    go_wp2
    go_ret
    exact ⟨rfl, bb.trans (b3.mono bb.size)⟩
end Go.Proofs.Ytfknhpkpenhflaa
