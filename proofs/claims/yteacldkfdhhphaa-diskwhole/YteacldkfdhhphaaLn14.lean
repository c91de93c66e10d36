/- DiskNil's walk. -/
import Derived.Test.YteacldkfdhhphaaLa14
set_option linter.unusedVariables false
set_option linter.unusedSimpArgs false
set_option maxRecDepth 40000
namespace Go.Proofs.Yteacldkfdhhphaa
open Go.RowKit

theorem bel_on {w x y : World} (h : Below w.heap.size w x) (k : Below x.heap.size x y) : Below w.heap.size w y := h.trans (k.mono h.size)
set_option maxHeartbeats 4000000 in
theorem diskNil_walk (n : Int) (hn : (Lit.int .i64 n).wf = true) (v : Value) (l : Bs) (w : World) (hY : IsY w v l) (hl : l.length ≤ 9223372036854775807) :
    Calls Try.prog 8 #[.int .i64 n, v] w fun e w' => e = .returned (.bool true) ∧ Below w.heap.size w w' := by
  obtain ⟨va, vc, rfl⟩ := hY.form
  have HR := hide (fun x => nil_read n x)
  have HU := hide (fun x => nil_fuse n x)
  have HC := hide (fun x => nil_crash x)
  have HA := hide (fun x => alive_any x)
  have HW := hide (fun x => nil_write n va l.length vc x)
  have HF := hide (fun x => nil_flush x)
  have HP := hide (fun x => nil_pending x)
  have HB := hide (fun x => nil_blocks x)
  have HD := hide (fun x => nil_dump x)
  have BE := hide (fun x y (h : Below w.heap.size w x) (k : Below x.heap.size x y) => bel_on h k)
  have B0 := hide (Below.refl w.heap.size w)
  clear hY hn
  generalize l.length = k at *
  go_enter Try.func8, Try.ntmps8
  go_wp2_with fail
  refine (HR.out _).mono ?_
  rintro e x1 ⟨⟨a1, c1, rfl⟩, b1⟩
  have B1 := hide (BE.out _ _ B0.out b1)
  clear HR B0 b1
  go_wp2_with fail
  refine (HU.out _).mono ?_
  rintro e x2 ⟨rfl, b2⟩
  have B2 := hide (BE.out _ _ B1.out b2)
  clear HU B1 b2
  go_wp2_with fail
  refine (HC.out _).mono ?_
  rintro e x3 ⟨rfl, b3⟩
  have B3 := hide (BE.out _ _ B2.out b3)
  clear HC B2 b3
  go_wp2_with fail
  refine (HA.out _).mono ?_
  rintro e x4 ⟨rfl, b4⟩
  have B4 := hide (BE.out _ _ B3.out b4)
  clear HA B3 b4
  go_wp2_with fail
  refine (HW.out _).mono ?_
  rintro e x5 ⟨rfl, b5⟩
  have B5 := hide (BE.out _ _ B4.out b5)
  clear HW B4 b5
  go_wp2_with fail
  refine (HF.out _).mono ?_
  rintro e x6 ⟨rfl, b6⟩
  have B6 := hide (BE.out _ _ B5.out b6)
  clear HF B5 b6
  go_wp2_with fail
  refine (HP.out _).mono ?_
  rintro e x7 ⟨rfl, b7⟩
  have B7 := hide (BE.out _ _ B6.out b7)
  clear HP B6 b7
  go_wp2_with fail
  refine (HB.out _).mono ?_
  rintro e x8 ⟨rfl, b8⟩
  have B8 := hide (BE.out _ _ B7.out b8)
  clear HB B7 b8
  go_wp2_with fail
  refine (HD.out _).mono ?_
  rintro e x9 ⟨⟨a9, c9, rfl⟩, b9⟩
  have B9 := hide (BE.out _ _ B8.out b9)
  clear HD B8 b9
  go_wp2
  go_ret
  exact ⟨rfl, B9.out⟩
end Go.Proofs.Yteacldkfdhhphaa
