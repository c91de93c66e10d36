/- What Element, Attr and Allowed of nothing answer; the live question; nothing that was there is written. -/
import Derived.Test.YthopnliaikkhbaaGreatDoorSz11
import Derived.Test.YthopnliaikkhbaaGreatDoorWc10
import Derived.Deep.RegionHeld2
set_option linter.unusedVariables false
set_option linter.unusedSimpArgs false
set_option maxRecDepth 4000
namespace Go.Proofs.YthopnliaikkhbaaGreatDoor
open Go.RowKit

def attrB (p : PO) (n an av : Bs) : Bool := match findR p.ru n with
  | none => false
  | some r => amongL r.at_ an && (!amongL p.li an || safeL av p.sc)
def attrP (p : PO) (n an av : Bs) : Bool := decide (checkP p = 0) && attrB p n an av
theorem find_po (p : PV) (n : Bs) : findR p.po.ru n = (p.rs.find? (nameIs n)).map RV.ru := by
  unfold findR PV.po
  simp only []
  induction p.rs with
  | nil => rfl
  | cons r l ih =>
    rw [List.map_cons, List.find?_cons, List.find?_cons]
    have e : ((fun r : RU => r.nm == n) r.ru) = nameIs n r := rfl
    simp only [] at e ⊢
    rw [e]
    cases nameIs n r
    · exact ih
    · rfl
theorem place_el (p : PV) (n : Bs) (z : Int) (h : PlaceR p.rs (nameIs n) z) : decide (0 ≤ z) = (findR p.po.ru n).isSome := by
  rw [find_po]
  rcases h with ⟨k, r, rfl, _, h⟩ | ⟨rfl, h⟩
  · rw [h]
    exact decide_eq_true (by omega)
  · rw [h]
    rfl
set_option maxHeartbeats 1000000 in
theorem element_any (p : PV) (hp : CapP p) (s : ByteArray) (w : World) (hI : IsPo w p) :
    Calls Tryz.prog 15 #[poA p, .string s] w fun e w' => e = .returned (.bool (elementP p.po s.data.toList)) ∧ Below w.heap.size w w' := by
  have H1 := hide (fun x (b : Below w.heap.size w x) => check_any p hp x (hI.below b))
  have H2 : Hid (∀ x, Below w.heap.size w x → Calls Tryz.prog 26 #[poA p, .string s] x fun e w' => ∃ z : Int, e = .returned (.int .i64 z) ∧ decide (0 ≤ z) = (findR p.po.ru s.data.toList).isSome ∧ Below x.heap.size x w') := hide (fun x b => (ruleOf_any p (by have := hp.s.r; omega) s x (hI.below b)).mono fun e w' h => by
    obtain ⟨⟨z, h1, h2⟩, h3⟩ := h
    exact ⟨z, h1, place_el p _ z h2, h3⟩)
  have hE : elementP p.po s.data.toList = (decide (checkP p.po = 0) && (findR p.po.ru s.data.toList).isSome) := by
    unfold elementP ruleOf
    by_cases h : checkP p.po = 0
    · rw [if_pos h, decide_eq_true h, Bool.true_and]
    · rw [if_neg h, decide_eq_false h, Bool.false_and]; rfl
  rw [hE]
  generalize checkP p.po = c at *
  generalize (findR p.po.ru s.data.toList).isSome = F at *
  have HB := hide (fun x (b : Below (poW w p).heap.size (poW w p) x) => po_box w p b)
  obtain ⟨rs, li, sc, dr, de, rv, lv, sv, dv⟩ := p
  simp only [] at *
  have gr : IsR w rv rs := hI.r
  have gl : IsW w lv li := hI.l
  have gs : IsW w sv sc := hI.s
  have gd : IsW w dv dr := hI.d
  obtain ⟨ra, rc, rfl⟩ := gr.form
  obtain ⟨la, lc, rfl⟩ := gl.form
  obtain ⟨sa, sc', rfl⟩ := gs.form
  obtain ⟨da, dc, rfl⟩ := gd.form
  clear gl gs gd
  have B0 := hide (Below.refl (poW w ⟨rs, li, sc, dr, de, .slice ra rs.length rc, .slice la li.length lc, .slice sa sc.length sc', .slice da dr.length dc⟩).heap.size (poW w ⟨rs, li, sc, dr, de, .slice ra rs.length rc, .slice la li.length lc, .slice sa sc.length sc', .slice da dr.length dc⟩))
  obtain ⟨c0, c1, c2, c3, c4, bb⟩ := HB.out _ B0.out
  have BB := hide bb
  clear hI bb gr hp hE
  by_cases hc : c = 0
  · subst hc
    rw [decide_eq_true rfl, Bool.true_and]
    go_enter Tryz.func15, Tryz.ntmps15
    go_wp2_with fail
    refine (H1.out _ BB.out).mono ?_
    rintro e w1 ⟨rfl, b1⟩
    have BC := hide (BB.out.trans (b1.mono BB.out.size))
    have B1 := hide (B0.out.trans (b1.mono B0.out.size))
    clear b1 c0 c1 c2 c3 c4
    obtain ⟨c0, c1, c2, c3, c4, bb⟩ := HB.out _ B1.out
    clear bb
    go_wp2_with fail
    refine (H2.out _ BC.out).mono ?_
    rintro e w2 ⟨z, rfl, hz, b2⟩
    have HZ := hide hz
    have BD := hide (BC.out.trans (b2.mono BC.out.size))
    clear b2 hz
    go_wp2
    go_ret
    exact ⟨ret_bool HZ.out, BD.out⟩
  · have hci : (c == 0) = false := by rw [beq_eq_false_iff_ne]; exact hc
    rw [decide_eq_false hc, Bool.false_and]
    clear hc
    go_enter Tryz.func15, Tryz.ntmps15
    go_wp2_with fail
    refine (H1.out _ BB.out).mono ?_
    rintro e w1 ⟨rfl, b1⟩
    have BC := hide (BB.out.trans (b1.mono BB.out.size))
    clear b1
    go_wp2
    go_ret
    exact ⟨rfl, BC.out⟩
theorem at_box (w : World) (p : PV) (an av : ByteArray) {x : World} (h : Below ((poW w p).alloc (.cells #[.string an, .string av] 46)).heap.size ((poW w p).alloc (.cells #[.string an, .string av] 46)) x) : x.cell? ⟨w.heap.size + 1, 0, none⟩ = some (.string an) ∧ x.cell? ⟨w.heap.size + 1, 1, none⟩ = some (.string av) ∧ Below (poW w p).heap.size (poW w p) x := by
  have hb := below_alloc (poW w p) (.cells #[.string an, .string av] 46)
  have hs : (poW w p).heap.size = w.heap.size + 1 := by simp
  have hc : ∀ j, j < 2 → x.cell? ⟨w.heap.size + 1, j, none⟩ = ((poW w p).alloc (.cells #[.string an, .string av] 46)).cell? ⟨w.heap.size + 1, j, none⟩ := fun j hj => h.cell (by show w.heap.size + 1 < ((poW w p).alloc _).heap.size; simp)
  refine ⟨?_, ?_, hb.trans (h.mono hb.size)⟩
  · rw [hc 0 (by omega), ← hs]; simp [go_sem]
  · rw [hc 1 (by omega), ← hs]; simp [go_sem]
end Go.Proofs.YthopnliaikkhbaaGreatDoor
