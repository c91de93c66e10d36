/- PolicyParse's walk. -/
import Derived.Test.YthopnliaikkhbaaGreatDoorQp11
import Derived.Test.YthopnliaikkhbaaGreatDoorQf11
import Derived.Test.YthopnliaikkhbaaGreatDoorPh11
set_option linter.unusedVariables false
set_option linter.unusedSimpArgs false
set_option maxRecDepth 4000
namespace Go.Proofs.YthopnliaikkhbaaGreatDoor
open Go.RowKit

theorem cap_len {p : PV} (h : CapP p) : LenP p := ⟨by have := h.s.r; omega, by have := h.s.l; omega, by have := h.s.s; omega, by have := h.s.d; omega, fun r hr => by have := (h.s.a r hr).1; omega⟩
set_option maxHeartbeats 4000000 in
theorem policyParse_walk (s : ByteArray) (w : World) :
    Calls Tryz.prog 3 #[.string s] w fun e w' => e = .returned (.bool true) ∧ Below w.heap.size w w' := by
  have HAL := hide alive_any
  by_cases hl : 2100 < s.size
  · have hli : (2100 : Int) < s.size := by omega
    clear hl
    go_enter Tryz.func3, Tryz.ntmps3
    go_wp2_with fail
    refine (HAL.out _).mono ?_
    rintro e w1 ⟨rfl, b1⟩
    have B1 := hide b1
    clear b1
    go_wp2
    go_ret
    exact ⟨rfl, B1.out⟩
  · have hli : ¬ (2100 : Int) < s.size := by omega
    have HP := hide (fun W => parse_any s (by omega) W)
    have HR := hide (fun W => rparse_any s (by omega) W)
    have HS := hide (fun (p q : PV) h1 h2 h3 W h4 h5 => rsame_eq p q h1 h2 h3 W h4 h5)
    unfold ParseD at HP HR
    generalize (parseP s.data.toList).1 = P0 at *
    generalize (parseP s.data.toList).2.1 = N0 at *
    generalize (parseP s.data.toList).2.2 = C0 at *
    clear hl
    go_enter Tryz.func3, Tryz.ntmps3
    go_wp2_with fail
    refine (HP.out _).mono ?_
    rintro e w1 ⟨q, h1, rfl, h2, h3, h4⟩
    have HB1 := hide (fun x (b : Below (poW w1 q).heap.size (poW w1 q) x) => po_box w1 q b)
    have HQ1 := hide (⟨h1, h2, h3, h4⟩ : q.po = P0 ∧ IsPo w1 q ∧ CapP q ∧ Below w.heap.size w w1)
    obtain ⟨rs, li, sc, dr, de, rv, lv, sv, dv⟩ := q
    obtain ⟨a0, d0, rfl⟩ : ∃ a c, rv = .slice a rs.length c := h2.r.form
    obtain ⟨a1, d1, rfl⟩ : ∃ a c, lv = .slice a li.length c := h2.l.form
    obtain ⟨a2, d2, rfl⟩ : ∃ a c, sv = .slice a sc.length c := h2.s.form
    obtain ⟨a3, d3, rfl⟩ : ∃ a c, dv = .slice a dr.length c := h2.d.form
    clear h1 h2 h3 h4 HP
    simp only [] at HB1
    generalize rs.length = n0 at *
    generalize li.length = n1 at *
    generalize sc.length = n2 at *
    generalize dr.length = n3 at *
    go_wp2_with fail
    refine (HR.out _).mono ?_
    rintro e w2 ⟨q2, h1, rfl, h2, h3, h4⟩
    have HB2 := hide (fun x (b : Below (poW w2 q2).heap.size (poW w2 q2) x) => po_box w2 q2 b)
    have HQ2 := hide (⟨h1, h2, h3, h4⟩ : _ ∧ _ ∧ _ ∧ _)
    obtain ⟨rs2, li2, sc2, dr2, de2, rv2, lv2, sv2, dv2⟩ := q2
    obtain ⟨x0, f0, rfl⟩ : ∃ a c, rv2 = .slice a rs2.length c := h2.r.form
    obtain ⟨x1, f1, rfl⟩ : ∃ a c, lv2 = .slice a li2.length c := h2.l.form
    obtain ⟨x2, f2, rfl⟩ : ∃ a c, sv2 = .slice a sc2.length c := h2.s.form
    obtain ⟨x3, f3, rfl⟩ : ∃ a c, dv2 = .slice a dr2.length c := h2.d.form
    clear h1 h2 h3 h4 HR
    simp only [] at HB2
    generalize rs2.length = m0 at *
    generalize li2.length = m1 at *
    generalize sc2.length = m2 at *
    generalize dr2.length = m3 at *
    go_wp2_with fail
    refine (HAL.out _).mono ?_
    rintro e w3 ⟨rfl, b3⟩
    obtain ⟨k1, k2, k3, k4⟩ := HQ1.out
    obtain ⟨l1, l2, l3, l4⟩ := HQ2.out
    obtain ⟨y0, y1, y2, y3, y4, bb⟩ := HB2.out _ b3
    have b13 := l4.trans (bb.mono l4.size)
    obtain ⟨z0, z1, z2, z3, z4, bc⟩ := HB1.out _ b13
    have HF := hide (HS.out _ _ (k1.trans l1.symm) (cap_len k3) k3.s.r w3 (k2.below bc) (l2.below bb))
    have BW := hide (k4.trans (bc.mono k4.size))
    clear k1 k2 k3 k4 l1 l2 l3 l4 bb b13 bc b3 HB1 HB2 HQ1 HQ2 HS HAL
    go_wp2_with fail
    refine HF.out.mono ?_
    rintro e w4 ⟨rfl, b4⟩
    have B4 := hide (BW.out.trans (b4.mono BW.out.size))
    clear b4 BW
    go_wp2
    go_ret
    exact ⟨rfl, B4.out⟩
end Go.Proofs.YthopnliaikkhbaaGreatDoor
