/- What the document's find, Element and Attr answer. -/
import Derived.Test.YtfjganjihapnhaaGreatDoorPh11
import Derived.Test.YtfjganjihapnhaaGreatDoorRk11
import Derived.Deep.RegionHeld2
set_option linter.unusedVariables false
set_option linter.unusedSimpArgs false
set_option maxRecDepth 4000
namespace Go.Proofs.YtfjganjihapnhaaGreatDoor
open Go.RowKit

def PlaceO (rs : List RV) (V : Option RV) (z : Int) : Prop := (∃ (k : Nat) (r : RV), z = (k : Int) ∧ rs[k]? = some r ∧ V = some r) ∨ (z = -1 ∧ V = none)
def findO (p : PV) (n : Bs) : Option RV := if checkP p.po = 0 then p.rs.find? (nameIs n) else none
theorem place_o {rs : List RV} {V : Option RV} {z : Int} (h : PlaceO rs V z) : decide (0 ≤ z) = V.isSome := by
  rcases h with ⟨k, r, rfl, _, rfl⟩ | ⟨rfl, rfl⟩
  · exact decide_eq_true (by omega)
  · rfl
theorem find_el (p : PV) (n : Bs) : elementP p.po n = (findO p n).isSome := by
  unfold elementP ruleOf findO
  rw [find_po]
  split
  · cases p.rs.find? (nameIs n) <;> rfl
  · rfl
theorem find_at (p : PV) (n an av : Bs) : attrP p.po n an av = match findO p n with
    | none => false
    | some r => amongL r.at_ an && (!amongL p.li an || safeL av p.sc) := by
  unfold attrP attrB findO
  rw [find_po]
  by_cases h : checkP p.po = 0
  · rw [decide_eq_true h, Bool.true_and, if_pos h]
    cases p.rs.find? (nameIs n) <;> rfl
  · rw [decide_eq_false h, Bool.false_and, if_neg h]
set_option maxHeartbeats 2000000 in
theorem rfind_any (p : PV) (hp : CapP p) (s : ByteArray) (w : World) (hI : IsPo w p) :
    Calls Tryz.prog 40 #[poA p, .string s] w fun e w' => (∃ z : Int, e = .returned (.int .i64 z) ∧ PlaceO p.rs (findO p s.data.toList) z) ∧ Below w.heap.size w w' := by
  have H1 := hide (fun x (b : Below w.heap.size w x) => rcheck_any p hp x (hI.below b))
  have hrl : p.rs.length ≤ 1000 := hp.s.r
  unfold findO
  generalize checkP p.po = c at *
  have HB := hide (fun x (b : Below (poW w p).heap.size (poW w p) x) => po_box w p b)
  obtain ⟨rs, li, sc, dr, de, rv, lv, sv, dv⟩ := p
  simp only [] at *
  have gr : IsR w rv rs := hI.r
  have gl : IsW w lv li := hI.l
  have gs : IsW w sv sc := hI.s
  have gd : IsW w dv dr := hI.d
  obtain ⟨ra, rc, rfl⟩ := gr.form
  obtain ⟨la, lc, rfl⟩ := gl.form
  obtain ⟨sa, sc', rfl⟩ := gs.form
  obtain ⟨da, dc, rfl⟩ := gd.form
  have HAT := hide (fun k r (hk : rs[k]? = some r) => gr.at_ k r hk)
  clear gl gs gd
  have B0 := hide (Below.refl (poW w ⟨rs, li, sc, dr, de, .slice ra rs.length rc, .slice la li.length lc, .slice sa sc.length sc', .slice da dr.length dc⟩).heap.size (poW w ⟨rs, li, sc, dr, de, .slice ra rs.length rc, .slice la li.length lc, .slice sa sc.length sc', .slice da dr.length dc⟩))
  obtain ⟨c0, c1, c2, c3, c4, bb⟩ := HB.out _ B0.out
  have BB := hide bb
  clear hI bb gr hp
  by_cases hc : c = 0
  · subst hc
    rw [if_pos rfl]
    generalize hV : rs.find? (nameIs s.data.toList) = V
    have HV := hide hV
    clear hV
    go_enter Tryz.func40, Tryz.ntmps40
    go_wp2_with fail
    refine (H1.out _ BB.out).mono ?_
    rintro e w1 ⟨rfl, b1⟩
    have BC := hide (BB.out.trans (b1.mono BB.out.size))
    have B1 := hide (B0.out.trans (b1.mono B0.out.size))
    clear b1 c0 c1 c2 c3 c4 BB B0 H1
    obtain ⟨c0, c1, c2, c3, c4, bb⟩ := HB.out _ B1.out
    clear bb c1 c2 c3 c4
    go_wp2
    go_loop [5] (fun i => ∃ k : Nat, k ≤ rs.length ∧ i = .int .i64 k ∧ Hid ((rs.drop k).find? (nameIs s.data.toList) = V)) (fun i => rs.length - (intOf i).toNat)
    case atStart => exact ⟨0, Nat.zero_le _, rfl, hide (by rw [List.drop_zero]; exact HV.out)⟩
    case round =>
      obtain ⟨k, hk, rfl, HR⟩ := hrel
      by_cases hlt : k < rs.length
      · have hlt2 : (k : Int) < rs.length := by omega
        obtain ⟨x, hx⟩ : ∃ x, rs[k]? = some x := ⟨_, List.getElem?_eq_getElem hlt⟩
        obtain ⟨⟨b, o, rfl, hq⟩, hw⟩ := HAT.out k x hx
        have d0 := (hq _ BC.out).1
        have hst := find_step (nameIs s.data.toList) rs k x hx
        rw [HR.out] at hst
        have he := str_eq2 x.nm s
        have hn : nameIs s.data.toList x = (x.nm.data.toList == s.data.toList) := rfl
        rw [hn] at hst
        clear hq HR hw hn
        cases hP : (x.nm.data.toList == s.data.toList)
        · rw [hP] at he hst
          have HR2 : Hid ((rs.drop (k + 1)).find? (nameIs s.data.toList) = V) := hide (by rw [hst]; rfl)
          clear hst hx hP
          generalize x.nm = xn at *
          go_wp2
          go_round
          case rel => exact ⟨k + 1, by omega, by go_num, HR2⟩
          case measure => simp [intOf]; omega
        · rw [hP] at he hst
          have HR2 : Hid (∃ r, rs[k]? = some r ∧ V = some r) := hide ⟨_, hx, by rw [hst]; rfl⟩
          clear hst hx hP
          generalize x.nm = xn at *
          go_wp2
          go_ret
          obtain ⟨r, r1, r2⟩ := HR2.out
          exact ⟨⟨_, rfl, .inl ⟨k, r, rfl, r1, r2⟩⟩, BC.out⟩
      · have hlt2 : ¬ (k : Int) < rs.length := by omega
        have hst := find_end (nameIs s.data.toList) rs k (by omega)
        rw [HR.out] at hst
        have HR2 := hide hst
        clear hst HR hlt
        go_wp2
        go_ret
        exact ⟨⟨_, rfl, .inr ⟨rfl, HR2.out⟩⟩, BC.out⟩
  · have hci : (c != 0) = true := by rw [bne_iff_ne]; exact hc
    rw [if_neg hc]
    clear hc
    go_enter Tryz.func40, Tryz.ntmps40
    go_wp2_with fail
    refine (H1.out _ BB.out).mono ?_
    rintro e w1 ⟨rfl, b1⟩
    have BC := hide (BB.out.trans (b1.mono BB.out.size))
    clear b1
    go_wp2
    go_ret
    exact ⟨⟨_, rfl, .inr ⟨rfl, rfl⟩⟩, BC.out⟩
set_option maxHeartbeats 1000000 in
theorem relement_any (p : PV) (hp : CapP p) (s : ByteArray) (w : World) (hI : IsPo w p) :
    Calls Tryz.prog 19 #[poA p, .string s] w fun e w' => e = .returned (.bool (elementP p.po s.data.toList)) ∧ Below w.heap.size w w' := by
  rw [find_el]
  have H1 : Hid (∀ x, Below w.heap.size w x → Calls Tryz.prog 40 #[poA p, .string s] x fun e w' => ∃ z : Int, e = .returned (.int .i64 z) ∧ decide (0 ≤ z) = (findO p s.data.toList).isSome ∧ Below x.heap.size x w') := hide (fun x b => (rfind_any p hp s x (hI.below b)).mono fun e w' h => by
    obtain ⟨⟨z, h1, h2⟩, h3⟩ := h
    exact ⟨z, h1, place_o h2, h3⟩)
  generalize (findO p s.data.toList).isSome = F at *
  have HB := hide (fun x (b : Below (poW w p).heap.size (poW w p) x) => po_box w p b)
  obtain ⟨rs, li, sc, dr, de, rv, lv, sv, dv⟩ := p
  simp only [] at *
  have gr : IsR w rv rs := hI.r
  have gl : IsW w lv li := hI.l
  have gs : IsW w sv sc := hI.s
  have gd : IsW w dv dr := hI.d
  obtain ⟨ra, rc, rfl⟩ := gr.form
  obtain ⟨la, lc, rfl⟩ := gl.form
  obtain ⟨sa, sc', rfl⟩ := gs.form
  obtain ⟨da, dc, rfl⟩ := gd.form
  clear gl gs gd
  have B0 := hide (Below.refl (poW w ⟨rs, li, sc, dr, de, .slice ra rs.length rc, .slice la li.length lc, .slice sa sc.length sc', .slice da dr.length dc⟩).heap.size (poW w ⟨rs, li, sc, dr, de, .slice ra rs.length rc, .slice la li.length lc, .slice sa sc.length sc', .slice da dr.length dc⟩))
  obtain ⟨c0, c1, c2, c3, c4, bb⟩ := HB.out _ B0.out
  have BB := hide bb
  clear hI bb gr hp
  go_enter Tryz.func19, Tryz.ntmps19
  go_wp2_with fail
  refine (H1.out _ BB.out).mono ?_
  rintro e w2 ⟨z, rfl, hz, b2⟩
  have HZ := hide hz
  have BD := hide (BB.out.trans (b2.mono BB.out.size))
  clear b2 hz
  go_wp2
  go_ret
  exact ⟨ret_bool HZ.out, BD.out⟩
end Go.Proofs.YtfjganjihapnhaaGreatDoor
