import Derived.Test.YthpepkfodcgbcaaWq35
/- WalNil's walk. -/
set_option linter.unusedVariables false
set_option linter.unusedSimpArgs false
set_option maxRecDepth 40000
namespace Go.Proofs.Ythpepkfodcgbcaa
open Go.RowKit

set_option maxHeartbeats 8000000 in
theorem walNil_walk (bv : Value) (b : Bs) (at_ size : Int) (w : World) (hY : IsY w bv b) (h1 : -9223372036854775808 ≤ at_ ∧ at_ ≤ 9223372036854775807) (h2 : -9223372036854775808 ≤ size ∧ size ≤ 9223372036854775807) :
    Calls Try.prog 7 #[bv, .int .i64 at_, .int .i64 size] w fun e w' => e = .returned (.bool true) ∧ Below w.heap.size w w' := by
  have HN := hide (live_new 4 w w (Below.refl _ _) (by decide))
  have HO := hide (fun (p : Addr) x (h : Liv w (.pointer (some p)) (newD 4) x) m (hm : openW (newD 4) at_ size 1 = (some m, 0)) => lw_open (first := at_) (size := size) (ep := 1) (m := m) h (Fit.new (by decide)) (by decide) h1 h2 (by decide) hm)
  have HX := hide (fun (p : Addr) x (h : Liv w (.pointer (some p)) (newD 4) x) (hm : openW (newD 4) at_ size 1 = (none, 1)) => lw_none (first := at_) (size := size) (ep := 1) h (Fit.new (by decide)) (by decide) h1 h2 (by decide) hm)
  have HNO := hide (fun x => nil_open 0 1 1 x (by decide) (by decide))
  have HAL := hide alive17_any
  have HY := hide (fun x (hb : Below w.heap.size w x) => hY.below hb)
  have HG := hide (reg_four at_ size)
  obtain ⟨ba, bc, rfl⟩ := hY.form
  clear hY
  generalize b.length = bl at *
  by_cases hr : isReg (newD 4) at_ size = true
  · obtain ⟨m, hm⟩ := open_four hr
    have hd := HG.out
    rw [hr] at hd
    obtain ⟨g0, g1, g2, g3, g4⟩ : 0 ≤ at_ ∧ at_ < 4 ∧ 1 ≤ size ∧ size ≤ 4 ∧ at_ ≤ 4 - size := by
      have := hd.symm
      simpa using this
    have HO2 := hide (fun p x h => HO.out p x h m hm)
    clear hr hm hd HG HO HX
    go_enter Try.func7, Try.ntmps7
    go_wp2_with fail
    refine HN.out.mono ?_
    rintro e x1 ⟨p, rfl, L1⟩
    have H1 := hide (HO2.out p x1 L1.out)
    clear HN HO2 L1
    go_wp2_with fail
    refine H1.out.mono ?_
    rintro e x3 ⟨q, rfl, L2⟩
    have B3 := hide L2.out.b
    clear H1 L2
    have HB1 := hide (HNO.out x3)
    go_wp2_with fail
    refine HB1.out.mono ?_
    rintro e x4 ⟨rfl, b4⟩
    have B4 := hide (B3.out.trans (b4.mono B3.out.size))
    have H4 := hide (HAL.out x4)
    clear HB1 b4
    go_wp2_with fail
    refine H4.out.mono ?_
    rintro e x5 ⟨rfl, b5⟩
    have B5 := hide (B4.out.trans (b5.mono B4.out.size))
    have H5 := hide (nil_records (w := x5))
    clear H4 b5
    go_wp2_with fail
    refine H5.out.mono ?_
    rintro e x6 ⟨⟨ra, rc, rfl⟩, b6⟩
    have B6 := hide (B5.out.trans (b6.mono B5.out.size))
    have H6 := hide (nil_append _ b x6 (HY.out x6 B6.out))
    clear H5 b6
    go_wp2_with fail
    refine H6.out.mono ?_
    rintro e x7 ⟨rfl, b7⟩
    have B7 := hide (B6.out.trans (b7.mono B6.out.size))
    have H7 := hide (nil_sync (w := x7))
    clear H6 b7
    go_wp2_with fail
    refine H7.out.mono ?_
    rintro e x8 ⟨rfl, b8⟩
    have B8 := hide (B7.out.trans (b8.mono B7.out.size))
    have H8 := hide (nil_reset 9 x8)
    clear H7 b8
    go_wp2_with fail
    refine H8.out.mono ?_
    rintro e x9 ⟨rfl, b9⟩
    have B9 := hide (B8.out.trans (b9.mono B8.out.size))
    have H9 := hide (nil_room (w := x9))
    clear H8 b9
    go_wp2_with fail
    refine H9.out.mono ?_
    rintro e y1 ⟨rfl, c1⟩
    have C1 := hide (B9.out.trans (c1.mono B9.out.size))
    have HA1 := hide (nil_epoch (w := y1))
    clear H9 c1
    go_wp2_with fail
    refine HA1.out.mono ?_
    rintro e y2 ⟨rfl, c2⟩
    have C2 := hide (C1.out.trans (c2.mono C1.out.size))
    have HA2 := hide (nil_life (w := y2))
    clear HA1 c2
    go_wp2_with fail
    refine HA2.out.mono ?_
    rintro e y3 ⟨rfl, c3⟩
    have C3 := hide (C2.out.trans (c3.mono C2.out.size))
    clear HA2 c3
    go_wp2
    go_ret
    exact ⟨rfl, C3.out⟩
  · have hm := open_not (Bool.eq_false_iff.2 hr)
    have hd := HG.out
    rw [Bool.eq_false_iff.2 hr] at hd
    have hno : ¬ (0 ≤ at_ ∧ at_ < 4 ∧ 1 ≤ size ∧ size ≤ 4 ∧ at_ ≤ 4 - size) := by
      rintro ⟨g0, g1, g2, g3, g4⟩
      rw [decide_eq_true g0, decide_eq_true g1, decide_eq_true g2, decide_eq_true g3, decide_eq_true g4] at hd
      cases hd
    have HX2 := hide (fun p x h => HX.out p x h hm)
    clear hr hm hd HG HO HX
    have hcases : (¬ 0 ≤ at_) ∨ (0 ≤ at_ ∧ ¬ at_ < 4) ∨ (0 ≤ at_ ∧ at_ < 4 ∧ ¬ 1 ≤ size) ∨ (0 ≤ at_ ∧ at_ < 4 ∧ 1 ≤ size ∧ ¬ size ≤ 4) ∨ (0 ≤ at_ ∧ at_ < 4 ∧ 1 ≤ size ∧ size ≤ 4 ∧ ¬ at_ ≤ 4 - size) := by omega
    clear hno
    rcases hcases with g0 | ⟨g0, g1⟩ | ⟨g0, g1, g2⟩ | ⟨g0, g1, g2, g3⟩ | ⟨g0, g1, g2, g3, g4⟩
    all_goals
      go_enter Try.func7, Try.ntmps7
      go_wp2_with fail
      refine HN.out.mono ?_
      rintro e x1 ⟨p, rfl, L1⟩
      have H1 := hide (HX2.out p x1 L1.out)
      clear HN HX2 L1
      go_wp2_with fail
      refine H1.out.mono ?_
      rintro e x3 ⟨rfl, L2⟩
      have B3 := hide L2.out.b
      clear H1 L2
      have HB1 := hide (HNO.out x3)
      go_wp2_with fail
      refine HB1.out.mono ?_
      rintro e x4 ⟨rfl, b4⟩
      have B4 := hide (B3.out.trans (b4.mono B3.out.size))
      have H4 := hide (HAL.out x4)
      clear HB1 b4
      go_wp2_with fail
      refine H4.out.mono ?_
      rintro e x5 ⟨rfl, b5⟩
      have B5 := hide (B4.out.trans (b5.mono B4.out.size))
      have H5 := hide (nil_records (w := x5))
      clear H4 b5
      go_wp2_with fail
      refine H5.out.mono ?_
      rintro e x6 ⟨⟨ra, rc, rfl⟩, b6⟩
      have B6 := hide (B5.out.trans (b6.mono B5.out.size))
      have H6 := hide (nil_append _ b x6 (HY.out x6 B6.out))
      clear H5 b6
      go_wp2_with fail
      refine H6.out.mono ?_
      rintro e x7 ⟨rfl, b7⟩
      have B7 := hide (B6.out.trans (b7.mono B6.out.size))
      have H7 := hide (nil_sync (w := x7))
      clear H6 b7
      go_wp2_with fail
      refine H7.out.mono ?_
      rintro e x8 ⟨rfl, b8⟩
      have B8 := hide (B7.out.trans (b8.mono B7.out.size))
      have H8 := hide (nil_reset 9 x8)
      clear H7 b8
      go_wp2_with fail
      refine H8.out.mono ?_
      rintro e x9 ⟨rfl, b9⟩
      have B9 := hide (B8.out.trans (b9.mono B8.out.size))
      have H9 := hide (nil_room (w := x9))
      clear H8 b9
      go_wp2_with fail
      refine H9.out.mono ?_
      rintro e y1 ⟨rfl, c1⟩
      have C1 := hide (B9.out.trans (c1.mono B9.out.size))
      have HA1 := hide (nil_epoch (w := y1))
      clear H9 c1
      go_wp2_with fail
      refine HA1.out.mono ?_
      rintro e y2 ⟨rfl, c2⟩
      have C2 := hide (C1.out.trans (c2.mono C1.out.size))
      have HA2 := hide (nil_life (w := y2))
      clear HA1 c2
      go_wp2_with fail
      refine HA2.out.mono ?_
      rintro e y3 ⟨rfl, c3⟩
      have C3 := hide (C2.out.trans (c3.mono C2.out.size))
      clear HA2 c3
      go_wp2
      go_ret
      exact ⟨rfl, C3.out⟩
end Go.Proofs.Ythpepkfodcgbcaa
