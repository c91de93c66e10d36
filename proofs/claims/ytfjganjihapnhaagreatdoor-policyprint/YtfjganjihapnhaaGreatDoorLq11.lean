/- What PolicyPrint answers. -/
import Derived.Test.YtfjganjihapnhaaGreatDoorQe11
import Derived.Test.YtfjganjihapnhaaGreatDoorQh11
import Derived.Test.YtfjganjihapnhaaGreatDoorRow11
set_option linter.unusedVariables false
set_option linter.unusedSimpArgs false
set_option maxRecDepth 4000
namespace Go.Proofs.YtfjganjihapnhaaGreatDoor
open Go.RowKit

set_option maxHeartbeats 4000000 in
theorem policyPrint_walk (p : PV) (w : World) (hP : InP w p) :
    Calls Tryz.prog 5 #[poA p] w fun e w' => e = .returned (.bool true) ∧ Below w.heap.size w w' := by
  have HAL := hide alive_any
  have HSM := hide (fun x (b : Below w.heap.size w x) => rsmall_any p hP.len x (hP.i.below b))
  have HCP := hide (small_cap hP)
  have HPR0 := hide (fun hp x (b : Below w.heap.size w x) => print_any p hp x (hP.i.below b))
  have HRP0 := hide (fun hp x (b : Below w.heap.size w x) => rprint_any p hp x (hP.i.below b))
  have hI := hP.i
  clear hP
  generalize smallP p.po = SM at *
  generalize (⟨(printP p.po).1.toArray⟩ : ByteArray) = t at *
  generalize (printP p.po).2 = c at *
  have HB := hide (fun x (b : Below (poW w p).heap.size (poW w p) x) => po_box w p b)
  obtain ⟨rs, li, sc, dr, de, rv, lv, sv, dv⟩ := p
  simp only [] at *
  have gr : IsR w rv rs := hI.r
  have gl : IsW w lv li := hI.l
  have gs : IsW w sv sc := hI.s
  have gd : IsW w dv dr := hI.d
  obtain ⟨ra, rc, rfl⟩ := gr.form
  obtain ⟨la, lc, rfl⟩ := gl.form
  obtain ⟨sa, sc', rfl⟩ := gs.form
  obtain ⟨da, dc, rfl⟩ := gd.form
  clear gl gs gd gr
  have B0 := hide (Below.refl (poW w ⟨rs, li, sc, dr, de, .slice ra rs.length rc, .slice la li.length lc, .slice sa sc.length sc', .slice da dr.length dc⟩).heap.size (poW w ⟨rs, li, sc, dr, de, .slice ra rs.length rc, .slice la li.length lc, .slice sa sc.length sc', .slice da dr.length dc⟩))
  obtain ⟨c0, c1, c2, c3, c4, bb⟩ := HB.out _ B0.out
  have BB := hide bb
  clear bb hI
  cases SM with
  | false =>
    clear HCP HPR0 HRP0
    go_enter Tryz.func5, Tryz.ntmps5
    go_wp2_with fail
    refine (HSM.out _ BB.out).mono ?_
    rintro e w1 ⟨rfl, b1⟩
    have B1 := hide (B0.out.trans (b1.mono B0.out.size))
    clear b1 c0 c1 c2 c3 c4
    obtain ⟨c0, c1, c2, c3, c4, bb⟩ := HB.out _ B1.out
    have BB1 := hide bb
    clear bb
    go_wp2_with fail
    refine (HAL.out _).mono ?_
    rintro e w2 ⟨rfl, b2⟩
    have B2 := hide (B1.out.trans (b2.mono B1.out.size))
    clear b2 c0 c1 c2 c3 c4
    obtain ⟨c0, c1, c2, c3, c4, bb⟩ := HB.out _ B2.out
    have BB2 := hide bb
    clear bb
    go_wp2
    go_ret
    exact ⟨rfl, BB2.out⟩
  | true =>
    have HPR := hide (HPR0.out (HCP.out rfl))
    have HRP := hide (HRP0.out (HCP.out rfl))
    clear HCP HPR0 HRP0
    go_enter Tryz.func5, Tryz.ntmps5
    go_wp2_with fail
    refine (HSM.out _ BB.out).mono ?_
    rintro e w1 ⟨rfl, b1⟩
    have B1 := hide (B0.out.trans (b1.mono B0.out.size))
    clear b1 c0 c1 c2 c3 c4
    obtain ⟨c0, c1, c2, c3, c4, bb⟩ := HB.out _ B1.out
    have BB1 := hide bb
    clear bb
    go_wp2_with fail
    refine (HPR.out _ BB1.out).mono ?_
    rintro e w2 ⟨rfl, b2⟩
    have B2 := hide (B1.out.trans (b2.mono B1.out.size))
    clear b2 c0 c1 c2 c3 c4
    obtain ⟨c0, c1, c2, c3, c4, bb⟩ := HB.out _ B2.out
    have BB2 := hide bb
    clear bb
    go_wp2_with fail
    refine (HRP.out _ BB2.out).mono ?_
    rintro e w3 ⟨rfl, b3⟩
    have B3 := hide (B2.out.trans (b3.mono B2.out.size))
    clear b3 c0 c1 c2 c3 c4
    obtain ⟨c0, c1, c2, c3, c4, bb⟩ := HB.out _ B3.out
    have BB3 := hide bb
    clear bb
    go_wp2_with fail
    refine (HAL.out _).mono ?_
    rintro e w4 ⟨rfl, b4⟩
    have B4 := hide (B3.out.trans (b4.mono B3.out.size))
    clear b4 c0 c1 c2 c3 c4
    obtain ⟨c0, c1, c2, c3, c4, bb⟩ := HB.out _ B4.out
    have BB4 := hide bb
    clear bb
    go_wp2
    go_ret
    exact ⟨by simp, BB4.out⟩
end Go.Proofs.YtfjganjihapnhaaGreatDoor
