/- What the document's own Point, Special, among and Ends answer, of whatever element, names and scope; nothing that was there is written. -/
import Derived.Test.YtfknhpkpenhflaaPC6
import Derived.Test.YtfknhpkpenhflaaWalkI
set_option linter.unusedVariables false
set_option linter.unusedSimpArgs false
namespace Go.Proofs.Ytfknhpkpenhflaa
open Go.RowKit

theorem in_of (T : List UInt8) (N : List (List UInt8)) (h : piecesL [] T = N) (hl : T.length ≤ 1000) (n : ByteArray) (V : Bool) (hV : amongL N n.data.toList = V) (w : World) :
    Calls Try.prog 28 #[.string ⟨T.toArray⟩, .string n] w fun e w' => e = .returned (.bool V) ∧ w' = w := by
  have := in_any ⟨T.toArray⟩ n (by rw [size_list, str_data]; omega) w
  rw [str_data, h, hV] at this
  exact this

set_option maxHeartbeats 1000000 in
theorem rpoint_any (o : OV) (w : World) :
    Calls Try.prog 13 #[.agg #[.int .i64 o.id, .int .i64 o.sp, .string o.nm]] w fun e w' => e = .returned (.bool (pointL o)) ∧ Below w.heap.size w w' := by
  obtain ⟨id, sp, nm⟩ := o
  show Calls Try.prog 13 #[.agg #[.int .i64 id, .int .i64 sp, .string nm]] w fun e w' => e = .returned (.bool (pointS sp nm.data.toList)) ∧ Below w.heap.size w w'
  by_cases h1 : sp = 1
  · subst h1
    have e : pointS 1 nm.data.toList = amongL svgN nm.data.toList := rfl
    rw [e]
    generalize hV : amongL svgN nm.data.toList = V
    have H := hide (in_of svgT svgN svg_pieces (by decide) nm V hV)
    clear hV e
    cases V with
    | true =>
      go_enter Try.func13, Try.ntmps13
      go_wp2_with fail
      refine (H.out _).mono ?_
      rintro e w1 ⟨rfl, rfl⟩
      go_wp2
      go_ret
      exact ⟨rfl, below_alloc w _⟩
    | false =>
      go_enter Try.func13, Try.ntmps13
      go_wp2_with fail
      refine (H.out _).mono ?_
      rintro e w1 ⟨rfl, rfl⟩
      go_wp2
      go_ret
      exact ⟨rfl, below_alloc w _⟩
  · by_cases h2 : sp = 2
    · subst h2
      have e : pointS 2 nm.data.toList = amongL mathN nm.data.toList := rfl
      rw [e]
      generalize hV : amongL mathN nm.data.toList = V
      have H := hide (in_of mathT mathN math_pieces (by decide) nm V hV)
      clear hV e
      go_enter Try.func13, Try.ntmps13
      go_wp2_with fail
      refine (H.out _).mono ?_
      rintro e w1 ⟨rfl, rfl⟩
      go_wp2
      go_ret
      exact ⟨rfl, below_alloc w _⟩
    · have e : pointS sp nm.data.toList = false := by
        unfold pointS
        rw [if_neg h1, if_neg h2]
      rw [e]
      have e1 := ne_int sp 1 h1
      have e2 := ne_int sp 2 h2
      clear e h1 h2
      go_enter Try.func13, Try.ntmps13
      go_wp2
      go_ret
      exact ⟨rfl, below_alloc w _⟩

set_option maxHeartbeats 1000000 in
theorem rspecial_any (o : OV) (w : World) :
    Calls Try.prog 15 #[.agg #[.int .i64 o.id, .int .i64 o.sp, .string o.nm]] w fun e w' => e = .returned (.bool (specialL o)) ∧ Below w.heap.size w w' := by
  have H2 := hide (ris_any 4 o.nm)
  have H3 := hide (rpoint_any o)
  unfold specialL
  generalize isL 4 o.nm.data.toList = S at *
  generalize pointL o = P at *
  obtain ⟨id, sp, nm⟩ := o
  simp only [htmlL] at H2 H3 ⊢
  by_cases h0 : sp = 0
  · subst h0
    cases S with
    | true =>
      go_enter Try.func15, Try.ntmps15
      go_wp2_with fail
      refine (H2.out _).mono ?_
      rintro e w2 ⟨rfl, b2⟩
      go_wp2
      go_ret
      exact ⟨rfl, box_below w _ b2⟩
    | false =>
      go_enter Try.func15, Try.ntmps15
      go_wp2_with fail
      refine (H2.out _).mono ?_
      rintro e w2 ⟨rfl, b2⟩
      obtain ⟨d0, d1, d2⟩ := box_cells w id 0 nm b2
      have bb2 := box_below w _ b2
      clear b2
      go_wp2_with fail
      refine (H3.out _).mono ?_
      rintro e w3 ⟨rfl, b3⟩
      go_wp2
      go_ret
      exact ⟨rfl, bb2.trans (b3.mono bb2.size)⟩
  · have e0 := ne_int sp 0 h0
    rw [e0]
    clear h0
    go_enter Try.func15, Try.ntmps15
    go_wp2_with fail
    refine (H3.out _).mono ?_
    rintro e w3 ⟨rfl, b3⟩
    go_wp2
    go_ret
    exact ⟨rfl, box_below w _ b3⟩

set_option maxHeartbeats 1000000 in
theorem rends_any (o : OV) (k : Int) (w : World) :
    Calls Try.prog 11 #[.agg #[.int .i64 o.id, .int .i64 o.sp, .string o.nm], .int .i64 k] w fun e w' => e = .returned (.bool (endsL o k)) ∧ Below w.heap.size w w' := by
  have H3 := hide (rpoint_any o)
  have hP : o.sp = 0 → pointL o = false := by
    intro h
    unfold pointL pointS
    rw [h]
    rfl
  unfold endsL
  generalize pointL o = P at *
  obtain ⟨id, sp, nm⟩ := o
  simp only [htmlL] at H3 hP ⊢
  by_cases h0 : sp = 0
  · subst h0
    obtain rfl := hP rfl
    clear hP
    simp only [beq_self_eq_true, if_true]
    by_cases h4 : k = 4
    · subst h4
      have e : endsNameL nm.data.toList 4 = amongL tabN nm.data.toList := rfl
      rw [e]
      generalize hV : amongL tabN nm.data.toList = V
      have H := hide (in_of tabT tabN tab_pieces (by decide) nm V hV)
      clear hV e
      go_enter Try.func11, Try.ntmps11
      go_wp2_with fail
      refine (H.out _).mono ?_
      rintro e w1 ⟨rfl, rfl⟩
      go_wp2
      go_ret
      exact ⟨rfl, below_alloc w _⟩
    have e4 := ne_int k 4 h4
    generalize hU : amongL wholeN nm.data.toList = U
    have HU := hide (in_of wholeT wholeN whole_pieces (by decide) nm U hU)
    cases U with
    | true =>
      have hE : endsNameL nm.data.toList k = true := by
        unfold endsNameL
        rw [if_neg h4, hU]
        split
        · rfl
        · split <;> rfl
      rw [hE]
      clear hE hU h4
      go_enter Try.func11, Try.ntmps11
      go_wp2_with fail
      refine (HU.out _).mono ?_
      rintro e w1 ⟨rfl, rfl⟩
      go_wp2
      go_ret
      exact ⟨rfl, below_alloc w _⟩
    | false =>
      by_cases h2 : k = 2
      · subst h2
        have e : endsNameL nm.data.toList 2 = amongL rowN nm.data.toList := by
          show (amongL wholeN nm.data.toList || amongL rowN nm.data.toList) = _
          rw [hU, Bool.false_or]
        rw [e]
        generalize hV : amongL rowN nm.data.toList = V
        have H := hide (in_of rowT rowN row_pieces (by decide) nm V hV)
        clear hV e hU h4
        cases V with
        | true =>
          go_enter Try.func11, Try.ntmps11
          go_wp2_with fail
          refine (HU.out _).mono ?_
          rintro e w1 ⟨rfl, rfl⟩
          go_wp2_with fail
          refine (H3.out _).mono ?_
          rintro e w2 ⟨rfl, b2⟩
          obtain ⟨d0, d1, d2⟩ := box_cells w id 0 nm b2
          go_wp2_with fail
          refine (H.out _).mono ?_
          rintro e w3 ⟨rfl, rfl⟩
          go_wp2
          go_ret
          exact ⟨rfl, box_below w _ b2⟩
        | false =>
          go_enter Try.func11, Try.ntmps11
          go_wp2_with fail
          refine (HU.out _).mono ?_
          rintro e w1 ⟨rfl, rfl⟩
          go_wp2_with fail
          refine (H3.out _).mono ?_
          rintro e w2 ⟨rfl, b2⟩
          obtain ⟨d0, d1, d2⟩ := box_cells w id 0 nm b2
          go_wp2_with fail
          refine (H.out _).mono ?_
          rintro e w3 ⟨rfl, rfl⟩
          go_wp2
          go_ret
          exact ⟨rfl, box_below w _ b2⟩
      · have e2 := ne_int k 2 h2
        by_cases h3 : k = 3
        · subst h3
          have e : endsNameL nm.data.toList 3 = (nm.data.toList == buttonB) := by
            show (amongL wholeN nm.data.toList || nm.data.toList == buttonB) = _
            rw [hU, Bool.false_or]
          rw [e]
          have hs := str_eq nm buttonB
          generalize (nm.data.toList == buttonB) = V at *
          have hs2 : (nm.toList == [98, 117, 116, 116, 111, 110]) = V := hs
          clear e hs hU h4 h2 e2 e4
          go_enter Try.func11, Try.ntmps11
          go_wp2_with fail
          refine (HU.out _).mono ?_
          rintro e w1 ⟨rfl, rfl⟩
          go_wp2_with fail
          refine (H3.out _).mono ?_
          rintro e w2 ⟨rfl, b2⟩
          obtain ⟨d0, d1, d2⟩ := box_cells w id 0 nm b2
          go_wp2
          go_ret
          exact ⟨rfl, box_below w _ b2⟩
        · have e3 := ne_int k 3 h3
          have hE : endsNameL nm.data.toList k = false := by
            unfold endsNameL
            rw [if_neg h4, if_neg h2, if_neg h3, hU]
          rw [hE]
          clear hE hU h4 h2 h3
          go_enter Try.func11, Try.ntmps11
          go_wp2_with fail
          refine (HU.out _).mono ?_
          rintro e w1 ⟨rfl, rfl⟩
          go_wp2_with fail
          refine (H3.out _).mono ?_
          rintro e w2 ⟨rfl, b2⟩
          obtain ⟨d0, d1, d2⟩ := box_cells w id 0 nm b2
          go_wp2
          go_ret
          exact ⟨rfl, box_below w _ b2⟩
  · have e0 := ne_int sp 0 h0
    clear h0 hP
    simp only [e0, Bool.false_eq_true, if_false]
    by_cases h4 : k = 4
    · subst h4
      go_enter Try.func11, Try.ntmps11
      go_wp2_with fail
      go_ret
      exact ⟨rfl, below_alloc w _⟩
    · have e4 := ne_int k 4 h4
      have hE : (k != 4 && P) = P := by simp [h4]
      rw [hE]
      clear hE h4
      cases P with
      | true =>
        go_enter Try.func11, Try.ntmps11
        go_wp2_with fail
        refine (H3.out _).mono ?_
        rintro e w2 ⟨rfl, b2⟩
        go_wp2
        go_ret
        exact ⟨rfl, box_below w _ b2⟩
      | false =>
        go_enter Try.func11, Try.ntmps11
        go_wp2_with fail
        refine (H3.out _).mono ?_
        rintro e w2 ⟨rfl, b2⟩
        go_wp2
        go_ret
        exact ⟨rfl, box_below w _ b2⟩
end Go.Proofs.Ytfknhpkpenhflaa
