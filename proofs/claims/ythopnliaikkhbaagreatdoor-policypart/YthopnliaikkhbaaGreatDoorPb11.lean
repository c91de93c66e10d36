/- What the program's own neverElement, neverAttr, neverScheme answer; nothing that was there is written. -/
import Derived.Test.YthopnliaikkhbaaGreatDoorPa11
set_option linter.unusedVariables false
set_option linter.unusedSimpArgs false
set_option maxRecDepth 4000
namespace Go.Proofs.YthopnliaikkhbaaGreatDoor
open Go.RowKit

theorem odd_is (n : Bs) : amongL oddN n = (n == [109, 97, 116, 104] || n == [110, 111, 115, 99, 114, 105, 112, 116] || n == [112, 108, 97, 105, 110, 116, 101, 120, 116] || n == [115, 118, 103] || n == [116, 101, 109, 112, 108, 97, 116, 101]) := by
  unfold amongL oddN
  simp [Bool.or_assoc]
set_option maxHeartbeats 1000000 in
theorem neverE_any (n : ByteArray) (w : World) :
    Calls Tryz.prog 45 #[.string n] w fun e w' => e = .returned (.bool (neverE n.data.toList)) ∧ Below w.heap.size w w' := by
  have H1 := hide (isp_2 n)
  have H2 := hide (isp_3 n)
  have H3 := hide (isp_12 n)
  unfold neverE
  rw [odd_is]
  have e0 := str_eq n [109, 97, 116, 104]
  have e1 := str_eq n [110, 111, 115, 99, 114, 105, 112, 116]
  have e2 := str_eq n [112, 108, 97, 105, 110, 116, 101, 120, 116]
  have e3 := str_eq n [115, 118, 103]
  have e4 := str_eq n [116, 101, 109, 112, 108, 97, 116, 101]
  generalize (n.data.toList == [109, 97, 116, 104]) = b0 at *
  generalize (n.data.toList == [110, 111, 115, 99, 114, 105, 112, 116]) = b1 at *
  generalize (n.data.toList == [112, 108, 97, 105, 110, 116, 101, 120, 116]) = b2 at *
  generalize (n.data.toList == [115, 118, 103]) = b3 at *
  generalize (n.data.toList == [116, 101, 109, 112, 108, 97, 116, 101]) = b4 at *
  generalize isL 2 n.data.toList = I2 at *
  generalize isL 3 n.data.toList = I3 at *
  generalize isL 12 n.data.toList = I12 at *
  cases b0 with
  | true =>
    go_enter Tryz.func45, Tryz.ntmps45
    go_wp2
    go_ret
    exact ⟨by simp, Below.refl _ w⟩
  | false =>
    cases b1 with
    | true =>
      go_enter Tryz.func45, Tryz.ntmps45
      go_wp2
      go_ret
      exact ⟨by simp, Below.refl _ w⟩
    | false =>
      cases b2 with
      | true =>
        go_enter Tryz.func45, Tryz.ntmps45
        go_wp2
        go_ret
        exact ⟨by simp, Below.refl _ w⟩
      | false =>
        cases b3 with
        | true =>
          go_enter Tryz.func45, Tryz.ntmps45
          go_wp2
          go_ret
          exact ⟨by simp, Below.refl _ w⟩
        | false =>
          cases b4 with
          | true =>
            go_enter Tryz.func45, Tryz.ntmps45
            go_wp2
            go_ret
            exact ⟨by simp, Below.refl _ w⟩
          | false =>
            cases I2 with
            | true =>
              go_enter Tryz.func45, Tryz.ntmps45
              go_wp2_with fail
              refine (H1.out _).mono ?_
              rintro e w1 ⟨rfl, b1⟩
              have c1 := b1
              go_wp2
              go_ret
              exact ⟨by simp, c1⟩
            | false =>
              cases I3 with
              | true =>
                go_enter Tryz.func45, Tryz.ntmps45
                go_wp2_with fail
                refine (H1.out _).mono ?_
                rintro e w1 ⟨rfl, b1⟩
                have c1 := b1
                go_wp2_with fail
                refine (H2.out _).mono ?_
                rintro e w2 ⟨rfl, b2⟩
                have c2 := c1.trans (b2.mono c1.size)
                go_wp2
                go_ret
                exact ⟨by simp, c2⟩
              | false =>
                go_enter Tryz.func45, Tryz.ntmps45
                go_wp2_with fail
                refine (H1.out _).mono ?_
                rintro e w1 ⟨rfl, b1⟩
                have c1 := b1
                go_wp2_with fail
                refine (H2.out _).mono ?_
                rintro e w2 ⟨rfl, b2⟩
                have c2 := c1.trans (b2.mono c1.size)
                go_wp2_with fail
                refine (H3.out _).mono ?_
                rintro e w3 ⟨rfl, b3⟩
                have c3 := c2.trans (b3.mono c2.size)
                go_wp2
                go_ret
                exact ⟨by simp, c3⟩

theorem neverS_any (n : ByteArray) (w : World) :
    Calls Tryz.prog 49 #[.string n] w fun e w' => e = .returned (.bool (neverS n.data.toList)) ∧ w' = w := by
  unfold neverS
  have e0 := str_eq n dataN
  have e1 := str_eq n jsN
  have e2 := str_eq n vbN
  generalize (n.data.toList == dataN) = b0 at *
  generalize (n.data.toList == jsN) = b1 at *
  generalize (n.data.toList == vbN) = b2 at *
  unfold dataN at e0
  unfold jsN at e1
  unfold vbN at e2
  cases b0 <;> cases b1 <;> cases b2 <;> (go_enter Tryz.func49, Tryz.ntmps49; go_wp2; go_ret; exact ⟨by simp, rfl⟩)
theorem take_two (s : ByteArray) : ((s.extract 0 2).toList == [111, 110]) = (s.data.toList.take 2 == onN) := by
  rw [Lib.toList_data, Lib.extract_data, List.drop_zero]; rfl
set_option maxHeartbeats 1000000 in
theorem hasOn_any (s : ByteArray) (w : World) :
    Calls Tryz.prog 67 #[.string s, .string ⟨#[111, 110]⟩] w fun e w' => e = .returned (.bool (decide (2 ≤ s.data.toList.length) && s.data.toList.take 2 == onN)) ∧ w' = w := by
  rw [← size_list]
  have e := take_two s
  generalize (s.data.toList.take 2 == onN) = T at *
  by_cases h : 2 ≤ s.size
  · have hi : (2 : Int) ≤ s.size := by omega
    rw [decide_eq_true h]
    cases T <;> (go_enter Tryz.func67, Tryz.ntmps67; go_wp2; go_ret; exact ⟨rfl, rfl⟩)
  · have hi : ¬ (2 : Int) ≤ s.size := by omega
    rw [decide_eq_false h]
    go_enter Tryz.func67, Tryz.ntmps67
    go_wp2
    go_ret
    exact ⟨rfl, rfl⟩
theorem neverA_any (n : ByteArray) (w : World) :
    Calls Tryz.prog 47 #[.string n] w fun e w' => e = .returned (.bool (badA n.data.toList)) ∧ w' = w := by
  unfold badA
  have H := hide (hasOn_any n)
  have e0 := str_eq n styleN
  have e1 := str_eq n srcdocN
  generalize (n.data.toList == styleN) = b0 at *
  generalize (n.data.toList == srcdocN) = b1 at *
  generalize (decide (2 ≤ n.data.toList.length) && n.data.toList.take 2 == onN) = T at *
  unfold styleN at e0
  unfold srcdocN at e1
  cases T <;> cases b0 <;> cases b1 <;> (go_enter Tryz.func47, Tryz.ntmps47; go_wp2_with fail; refine (H.out _).mono ?_; rintro e w1 ⟨rfl, rfl⟩; go_wp2; go_ret; exact ⟨by simp, rfl⟩)
end Go.Proofs.YthopnliaikkhbaaGreatDoor
