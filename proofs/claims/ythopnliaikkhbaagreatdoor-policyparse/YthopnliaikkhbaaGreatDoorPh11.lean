/- What Attr and Allowed of nothing answer; the live question; nothing that was there is written. -/
import Derived.Test.YthopnliaikkhbaaGreatDoorPg11
set_option linter.unusedVariables false
set_option linter.unusedSimpArgs false
set_option maxRecDepth 4000
namespace Go.Proofs.YthopnliaikkhbaaGreatDoor
open Go.RowKit

set_option maxHeartbeats 1000000 in
theorem attr_any (p : PV) (hp : CapP p) (s an av : ByteArray) (hv : av.size ≤ 1000000) (w : World) (hI : IsPo w p) :
    Calls Tryz.prog 16 #[poA p, .string s, .agg #[.string an, .string av]] w fun e w' => e = .returned (.bool (attrP p.po s.data.toList an.data.toList av.data.toList)) ∧ Below w.heap.size w w' := by
  have H1 := hide (fun x (b : Below w.heap.size w x) => check_any p hp x (hI.below b))
  have H2 := hide (fun x (b : Below w.heap.size w x) => attrLet_any p hp s an av hv x (hI.below b))
  unfold attrP
  generalize checkP p.po = c at *
  generalize attrB p.po s.data.toList an.data.toList av.data.toList = F at *
  have HB := hide (fun x (b : Below (poW w p).heap.size (poW w p) x) => po_box w p b)
  obtain ⟨rs, li, sc, dr, de, rv, lv, sv, dv⟩ := p
  simp only [] at *
  have gr : IsR w rv rs := hI.r
  have gl : IsW w lv li := hI.l
  have gs : IsW w sv sc := hI.s
  have gd : IsW w dv dr := hI.d
  obtain ⟨ra, rc, rfl⟩ := gr.form
  obtain ⟨la, lc, rfl⟩ := gl.form
  obtain ⟨sa, sc', rfl⟩ := gs.form
  obtain ⟨da, dc, rfl⟩ := gd.form
  clear gl gs gd
  have HBA := hide (fun x (b : Below ((poW w ⟨rs, li, sc, dr, de, .slice ra rs.length rc, .slice la li.length lc, .slice sa sc.length sc', .slice da dr.length dc⟩).alloc (.cells #[.string an, .string av] 46)).heap.size ((poW w ⟨rs, li, sc, dr, de, .slice ra rs.length rc, .slice la li.length lc, .slice sa sc.length sc', .slice da dr.length dc⟩).alloc (.cells #[.string an, .string av] 46)) x) => at_box w ⟨rs, li, sc, dr, de, .slice ra rs.length rc, .slice la li.length lc, .slice sa sc.length sc', .slice da dr.length dc⟩ an av b)
  have B0 := hide (Below.refl ((poW w ⟨rs, li, sc, dr, de, .slice ra rs.length rc, .slice la li.length lc, .slice sa sc.length sc', .slice da dr.length dc⟩).alloc (.cells #[.string an, .string av] 46)).heap.size ((poW w ⟨rs, li, sc, dr, de, .slice ra rs.length rc, .slice la li.length lc, .slice sa sc.length sc', .slice da dr.length dc⟩).alloc (.cells #[.string an, .string av] 46)))
  obtain ⟨a0, a1, ab⟩ := HBA.out _ B0.out
  obtain ⟨c0, c1, c2, c3, c4, bb⟩ := HB.out _ ab
  have BB := hide bb
  clear ab bb
  clear hI gr hp
  by_cases hc : c = 0
  · subst hc
    rw [decide_eq_true rfl, Bool.true_and]
    go_enter Tryz.func16, Tryz.ntmps16
    go_wp2_with fail
    refine (H1.out _ BB.out).mono ?_
    rintro e w1 ⟨rfl, b1⟩
    have BC := hide (BB.out.trans (b1.mono BB.out.size))
    have B1 := hide (B0.out.trans (b1.mono B0.out.size))
    clear b1 c0 c1 c2 c3 c4 a0 a1
    obtain ⟨a0, a1, ab⟩ := HBA.out _ B1.out
    obtain ⟨c0, c1, c2, c3, c4, bb⟩ := HB.out _ ab
    clear bb ab
    go_wp2_with fail
    refine (H2.out _ BC.out).mono ?_
    rintro e w2 ⟨rfl, b2⟩
    have BD := hide (BC.out.trans (b2.mono BC.out.size))
    clear b2
    go_wp2
    go_ret
    exact ⟨rfl, BD.out⟩
  · have hci : (c == 0) = false := by rw [beq_eq_false_iff_ne]; exact hc
    rw [decide_eq_false hc, Bool.false_and]
    clear hc
    go_enter Tryz.func16, Tryz.ntmps16
    go_wp2_with fail
    refine (H1.out _ BB.out).mono ?_
    rintro e w1 ⟨rfl, b1⟩
    have BC := hide (BB.out.trans (b1.mono BB.out.size))
    clear b1
    go_wp2
    go_ret
    exact ⟨rfl, BC.out⟩
set_option maxHeartbeats 1000000 in
theorem all_none (p : PV) (a : Option Addr) (c : Nat) (d : Int) (w : World) (hI : IsPo w p) :
    Calls Tryz.prog 22 #[poA p, .slice a 0 c, .int .i64 d] w fun e w' => e = .returned (.bool true) ∧ Below w.heap.size w w' := by
  have HB := hide (fun x (b : Below (poW w p).heap.size (poW w p) x) => po_box w p b)
  obtain ⟨rs, li, sc, dr, de, rv, lv, sv, dv⟩ := p
  simp only [] at *
  have gr : IsR w rv rs := hI.r
  have gl : IsW w lv li := hI.l
  have gs : IsW w sv sc := hI.s
  have gd : IsW w dv dr := hI.d
  obtain ⟨ra, rc, rfl⟩ := gr.form
  obtain ⟨la, lc, rfl⟩ := gl.form
  obtain ⟨sa, sc', rfl⟩ := gs.form
  obtain ⟨da, dc, rfl⟩ := gd.form
  clear gl gs gd
  have B0 := hide (Below.refl (poW w ⟨rs, li, sc, dr, de, .slice ra rs.length rc, .slice la li.length lc, .slice sa sc.length sc', .slice da dr.length dc⟩).heap.size (poW w ⟨rs, li, sc, dr, de, .slice ra rs.length rc, .slice la li.length lc, .slice sa sc.length sc', .slice da dr.length dc⟩))
  obtain ⟨c0, c1, c2, c3, c4, bb⟩ := HB.out _ B0.out
  have BB := hide bb
  clear hI bb gr
  go_enter Tryz.func22, Tryz.ntmps22
  go_wp2
  go_loop [11] (fun i => i = .int .i64 0) (fun i => 0)
  case atStart => rfl
  case round =>
    subst hrel
    go_wp2
    go_ret
    exact ⟨rfl, BB.out⟩
set_option maxHeartbeats 1000000 in
theorem allowed_none (p : PV) (hp : CapP p) (a : Option Addr) (k : Nat) (w : World) (hI : IsPo w p) :
    Calls Tryz.prog 12 #[poA p, .slice a 0 k] w fun e w' => e = .returned (.bool (decide (checkP p.po = 0))) ∧ Below w.heap.size w w' := by
  have H1 := hide (fun x (b : Below w.heap.size w x) => check_any p hp x (hI.below b))
  have H2 := hide (fun x (b : Below w.heap.size w x) => all_none p a k 1 x (hI.below b))
  generalize checkP p.po = c at *
  have HB := hide (fun x (b : Below (poW w p).heap.size (poW w p) x) => po_box w p b)
  obtain ⟨rs, li, sc, dr, de, rv, lv, sv, dv⟩ := p
  simp only [] at *
  have gr : IsR w rv rs := hI.r
  have gl : IsW w lv li := hI.l
  have gs : IsW w sv sc := hI.s
  have gd : IsW w dv dr := hI.d
  obtain ⟨ra, rc, rfl⟩ := gr.form
  obtain ⟨la, lc, rfl⟩ := gl.form
  obtain ⟨sa, sc', rfl⟩ := gs.form
  obtain ⟨da, dc, rfl⟩ := gd.form
  clear gl gs gd
  have B0 := hide (Below.refl (poW w ⟨rs, li, sc, dr, de, .slice ra rs.length rc, .slice la li.length lc, .slice sa sc.length sc', .slice da dr.length dc⟩).heap.size (poW w ⟨rs, li, sc, dr, de, .slice ra rs.length rc, .slice la li.length lc, .slice sa sc.length sc', .slice da dr.length dc⟩))
  obtain ⟨c0, c1, c2, c3, c4, bb⟩ := HB.out _ B0.out
  have BB := hide bb
  clear hI bb gr hp
  by_cases hc : c = 0
  · subst hc
    rw [decide_eq_true rfl]
    go_enter Tryz.func12, Tryz.ntmps12
    go_wp2_with fail
    refine (H1.out _ BB.out).mono ?_
    rintro e w1 ⟨rfl, b1⟩
    have BC := hide (BB.out.trans (b1.mono BB.out.size))
    have B1 := hide (B0.out.trans (b1.mono B0.out.size))
    clear b1 c0 c1 c2 c3 c4
    obtain ⟨c0, c1, c2, c3, c4, bb⟩ := HB.out _ B1.out
    clear bb
    go_wp2_with fail
    refine (H2.out _ BC.out).mono ?_
    rintro e w2 ⟨rfl, b2⟩
    have BD := hide (BC.out.trans (b2.mono BC.out.size))
    clear b2
    go_wp2
    go_ret
    exact ⟨rfl, BD.out⟩
  · have hci : (c == 0) = false := by rw [beq_eq_false_iff_ne]; exact hc
    rw [decide_eq_false hc]
    clear hc
    go_enter Tryz.func12, Tryz.ntmps12
    go_wp2_with fail
    refine (H1.out _ BB.out).mono ?_
    rintro e w1 ⟨rfl, b1⟩
    have BC := hide (BB.out.trans (b1.mono BB.out.size))
    clear b1
    go_wp2
    go_ret
    exact ⟨rfl, BC.out⟩
/-! The live question. -/
def liveP : PO := { ru := [⟨[98], []⟩, ⟨[97], [[104, 114, 101, 102]]⟩], li := [[104, 114, 101, 102]], sc := [[104, 116, 116, 112, 115]], de := 3 }
theorem eqPO (a b : PO) (h1 : a.ru.map (fun r => (r.nm, r.at_)) = b.ru.map (fun r => (r.nm, r.at_))) (h2 : a.li = b.li) (h3 : a.sc = b.sc) (h4 : a.dr = b.dr) (h5 : a.de = b.de) : a = b := by
  obtain ⟨ru, li, sc, dr, de⟩ := a
  obtain ⟨ru', li', sc', dr', de'⟩ := b
  simp only [] at h1 h2 h3 h4 h5
  subst h2 h3 h4 h5
  have : ru = ru' := by
    have inj : Function.Injective (fun r : RU => (r.nm, r.at_)) := fun x y e => by
      obtain ⟨a, b⟩ := x
      obtain ⟨c, d⟩ := y
      simp only [Prod.mk.injEq] at e
      obtain ⟨rfl, rfl⟩ := e
      rfl
    exact (List.map_inj_right (fun x y e => inj e)).1 h1
  rw [this]
theorem live_parse1 : (parseP [100, 101, 101, 112, 32, 51, 10, 101, 108, 101, 109, 101, 110, 116, 32, 98, 10, 101, 108, 101, 109, 101, 110, 116, 32, 97, 32, 104, 114, 101, 102, 10, 108, 105, 110, 107, 32, 104, 114, 101, 102, 10, 115, 99, 104, 101, 109, 101, 32, 104, 116, 116, 112, 115, 10]).1 = liveP ∧ (parseP [100, 101, 101, 112, 32, 51, 10, 101, 108, 101, 109, 101, 110, 116, 32, 98, 10, 101, 108, 101, 109, 101, 110, 116, 32, 97, 32, 104, 114, 101, 102, 10, 108, 105, 110, 107, 32, 104, 114, 101, 102, 10, 115, 99, 104, 101, 109, 101, 32, 104, 116, 116, 112, 115, 10]).2 = (0, 0) :=
  ⟨eqPO _ _ (by decide +kernel) (by decide +kernel) (by decide +kernel) (by decide +kernel) (by decide +kernel), by decide +kernel⟩
theorem live_parse2 : (parseP [100, 101, 101, 112, 32, 51, 10, 10, 100, 101, 101, 112, 32, 48, 51]).2 = (3, 7) := by decide +kernel
theorem live_check : checkP liveP = 0 := by decide +kernel
theorem live_el1 : elementP liveP [98] = true := by decide +kernel
theorem live_el2 : elementP liveP [105] = false := by decide +kernel
theorem live_at1 : attrP liveP [97] [104, 114, 101, 102] [47, 120] = true := by decide +kernel
theorem live_at2 : attrP liveP [97] [104, 114, 101, 102] [104, 116, 116, 112, 58, 120] = false := by decide +kernel
set_option maxHeartbeats 4000000 in
theorem alive_any (w : World) :
    Calls Tryz.prog 6 #[] w fun e w' => e = .returned (.bool true) ∧ Below w.heap.size w w' := by
  have H1 : Hid (∀ w, Calls Tryz.prog 7 #[.string ⟨#[100, 101, 101, 112, 32, 51, 10, 101, 108, 101, 109, 101, 110, 116, 32, 98, 10, 101, 108, 101, 109, 101, 110, 116, 32, 97, 32, 104, 114, 101, 102, 10, 108, 105, 110, 107, 32, 104, 114, 101, 102, 10, 115, 99, 104, 101, 109, 101, 32, 104, 116, 116, 112, 115, 10]⟩] w fun e w' => ∃ q : PV, e = .returned (.tuple #[poA q, .int .i64 0, .int .i64 0]) ∧ Hid (q.po = liveP) ∧ Hid (IsPo w' q) ∧ Hid (CapP q) ∧ Hid (Below w.heap.size w w')) := hide (fun w => (parse_any ⟨#[100, 101, 101, 112, 32, 51, 10, 101, 108, 101, 109, 101, 110, 116, 32, 98, 10, 101, 108, 101, 109, 101, 110, 116, 32, 97, 32, 104, 114, 101, 102, 10, 108, 105, 110, 107, 32, 104, 114, 101, 102, 10, 115, 99, 104, 101, 109, 101, 32, 104, 116, 116, 112, 115, 10]⟩ (by decide) w).mono fun e w' h => by
    obtain ⟨q, h1, h2, h3, h4, h5⟩ := h
    have e1 := live_parse1.1
    have e2 := live_parse1.2
    refine ⟨q, ?_, hide (h1.trans e1), hide h3, hide h4, hide h5⟩
    rw [h2]
    show Ending.returned (.tuple #[poA q, .int .i64 (((parseP [100, 101, 101, 112, 32, 51, 10, 101, 108, 101, 109, 101, 110, 116, 32, 98, 10, 101, 108, 101, 109, 101, 110, 116, 32, 97, 32, 104, 114, 101, 102, 10, 108, 105, 110, 107, 32, 104, 114, 101, 102, 10, 115, 99, 104, 101, 109, 101, 32, 104, 116, 116, 112, 115, 10]).2.1 : Nat) : Int), .int .i64 (parseP [100, 101, 101, 112, 32, 51, 10, 101, 108, 101, 109, 101, 110, 116, 32, 98, 10, 101, 108, 101, 109, 101, 110, 116, 32, 97, 32, 104, 114, 101, 102, 10, 108, 105, 110, 107, 32, 104, 114, 101, 102, 10, 115, 99, 104, 101, 109, 101, 32, 104, 116, 116, 112, 115, 10]).2.2]) = _
    rw [e2]
    rfl)
  have H2 : Hid (∀ w, Calls Tryz.prog 7 #[.string ⟨#[100, 101, 101, 112, 32, 51, 10, 10, 100, 101, 101, 112, 32, 48, 51]⟩] w fun e w' => ∃ q : PV, e = .returned (.tuple #[poA q, .int .i64 3, .int .i64 7]) ∧ Hid (IsPo w' q) ∧ Hid (Below w.heap.size w w')) := hide (fun w => (parse_any ⟨#[100, 101, 101, 112, 32, 51, 10, 10, 100, 101, 101, 112, 32, 48, 51]⟩ (by decide) w).mono fun e w' h => by
    obtain ⟨q, h1, h2, h3, h4, h5⟩ := h
    have e2 := live_parse2
    refine ⟨q, ?_, hide h3, hide h5⟩
    rw [h2]
    show Ending.returned (.tuple #[poA q, .int .i64 (((parseP [100, 101, 101, 112, 32, 51, 10, 10, 100, 101, 101, 112, 32, 48, 51]).2.1 : Nat) : Int), .int .i64 (parseP [100, 101, 101, 112, 32, 51, 10, 10, 100, 101, 101, 112, 32, 48, 51]).2.2]) = _
    rw [e2]
    rfl)
  go_enter Tryz.func6, Tryz.ntmps6
  go_wp2_with fail
  refine (H1.out _).mono ?_
  rintro e w1 ⟨q, rfl, hq, hI, hp, hb⟩
  have HE1 := hide (fun x (b : Below w1.heap.size w1 x) => element_any q hp.out ⟨#[98]⟩ x (hI.out.below b))
  have HE2 := hide (fun x (b : Below w1.heap.size w1 x) => element_any q hp.out ⟨#[105]⟩ x (hI.out.below b))
  have HA1 := hide (fun x (b : Below w1.heap.size w1 x) => attr_any q hp.out ⟨#[97]⟩ ⟨#[104, 114, 101, 102]⟩ ⟨#[47, 120]⟩ (by decide) x (hI.out.below b))
  have HA2 := hide (fun x (b : Below w1.heap.size w1 x) => attr_any q hp.out ⟨#[97]⟩ ⟨#[104, 114, 101, 102]⟩ ⟨#[104, 116, 116, 112, 58, 120]⟩ (by decide) x (hI.out.below b))
  have HC := hide (fun x (b : Below w1.heap.size w1 x) => check_any q hp.out x (hI.out.below b))
  have HL := hide (fun x (b : Below w1.heap.size w1 x) => allowed_none q hp.out none 0 x (hI.out.below b))
  rw [hq.out, show (⟨#[98]⟩ : ByteArray).data.toList = [98] from rfl, live_el1] at HE1
  rw [hq.out, show (⟨#[105]⟩ : ByteArray).data.toList = [105] from rfl, live_el2] at HE2
  rw [hq.out, show (⟨#[97]⟩ : ByteArray).data.toList = [97] from rfl, show (⟨#[104, 114, 101, 102]⟩ : ByteArray).data.toList = [104, 114, 101, 102] from rfl, show (⟨#[47, 120]⟩ : ByteArray).data.toList = [47, 120] from rfl, live_at1] at HA1
  rw [hq.out, show (⟨#[97]⟩ : ByteArray).data.toList = [97] from rfl, show (⟨#[104, 114, 101, 102]⟩ : ByteArray).data.toList = [104, 114, 101, 102] from rfl, show (⟨#[104, 116, 116, 112, 58, 120]⟩ : ByteArray).data.toList = [104, 116, 116, 112, 58, 120] from rfl, live_at2] at HA2
  rw [hq.out, live_check] at HC HL
  have HBX := hide (fun x (b : Below (poW w1 q).heap.size (poW w1 q) x) => po_box w1 q b)
  obtain ⟨a0, d0, e0⟩ := hI.out.r.form
  obtain ⟨a1, d1, e1⟩ := hI.out.l.form
  obtain ⟨a2, d2, e2⟩ := hI.out.s.form
  obtain ⟨a3, d3, e3⟩ := hI.out.d.form
  clear hq hI hp
  obtain ⟨rs, li, sc, dr, de, rv, lv, sv, dv⟩ := q
  simp only [] at e0 e1 e2 e3 HE1 HE2 HA1 HA2 HC HL HBX
  subst e0 e1 e2 e3
  generalize rs.length = n0 at *
  generalize li.length = n1 at *
  generalize sc.length = n2 at *
  generalize dr.length = n3 at *
  go_wp2_with fail
  refine (H2.out _).mono ?_
  rintro e w2 ⟨q2, rfl, hI2, hb2⟩
  obtain ⟨f0, g0, i0⟩ := hI2.out.r.form
  obtain ⟨f1, g1, i1⟩ := hI2.out.l.form
  obtain ⟨f2, g2, i2⟩ := hI2.out.s.form
  obtain ⟨f3, g3, i3⟩ := hI2.out.d.form
  obtain ⟨rs2, li2, sc2, dr2, de2, rv2, lv2, sv2, dv2⟩ := q2
  simp only [] at i0 i1 i2 i3
  subst i0 i1 i2 i3
  have B0 := hide (hb2.out.trans ((below_alloc w2 (.cells #[.slice f0 rs2.length g0, .slice f1 li2.length g1, .slice f2 sc2.length g2, .slice f3 dr2.length g3, .int .i64 de2] 26)).mono hb2.out.size))
  obtain ⟨c0, c1, c2, c3, c4, dd⟩ := HBX.out _ B0.out
  have D0 := hide dd
  clear dd hI2 hb2
  go_wp2_with fail
  refine (HE1.out _ D0.out).mono ?_
  rintro e x0 ⟨rfl, b0⟩
  have B1 := hide (B0.out.trans (b0.mono B0.out.size))
  clear c0 c1 c2 c3 c4
  obtain ⟨c0, c1, c2, c3, c4, dd⟩ := HBX.out _ B1.out
  have D1 := hide dd
  clear dd b0
  go_wp2_with fail
  refine (HE2.out _ D1.out).mono ?_
  rintro e x1 ⟨rfl, b1⟩
  have B2 := hide (B1.out.trans (b1.mono B1.out.size))
  clear c0 c1 c2 c3 c4
  obtain ⟨c0, c1, c2, c3, c4, dd⟩ := HBX.out _ B2.out
  have D2 := hide dd
  clear dd b1
  go_wp2_with fail
  refine (HA1.out _ D2.out).mono ?_
  rintro e x2 ⟨rfl, b2⟩
  have B3 := hide (B2.out.trans (b2.mono B2.out.size))
  clear c0 c1 c2 c3 c4
  obtain ⟨c0, c1, c2, c3, c4, dd⟩ := HBX.out _ B3.out
  have D3 := hide dd
  clear dd b2
  go_wp2_with fail
  refine (HA2.out _ D3.out).mono ?_
  rintro e x3 ⟨rfl, b3⟩
  have B4 := hide (B3.out.trans (b3.mono B3.out.size))
  clear c0 c1 c2 c3 c4
  obtain ⟨c0, c1, c2, c3, c4, dd⟩ := HBX.out _ B4.out
  have D4 := hide dd
  clear dd b3
  go_wp2_with fail
  refine (HC.out _ D4.out).mono ?_
  rintro e x4 ⟨rfl, b4⟩
  have B5 := hide (B4.out.trans (b4.mono B4.out.size))
  clear c0 c1 c2 c3 c4
  obtain ⟨c0, c1, c2, c3, c4, dd⟩ := HBX.out _ B5.out
  have D5 := hide dd
  clear dd b4
  go_wp2_with fail
  refine (HL.out _ D5.out).mono ?_
  rintro e x5 ⟨rfl, b5⟩
  have B6 := hide (B5.out.trans (b5.mono B5.out.size))
  clear c0 c1 c2 c3 c4
  obtain ⟨c0, c1, c2, c3, c4, dd⟩ := HBX.out _ B6.out
  have D6 := hide dd
  clear dd b5
  go_wp2
  go_ret
  exact ⟨rfl, hb.out.trans (D6.out.mono hb.out.size)⟩
end Go.Proofs.YthopnliaikkhbaaGreatDoor
