/- What the document's own Small answers; nothing that was there is written. -/
import Derived.Test.YthopnliaikkhbaaGreatDoorRc11
set_option linter.unusedVariables false
set_option linter.unusedSimpArgs false
set_option maxRecDepth 4000
namespace Go.Proofs.YthopnliaikkhbaaGreatDoor
open Go.RowKit

/-- No list is longer than a list may be. -/
structure LenP (p : PV) : Prop where
  r : p.rs.length ≤ 9223372036854775807
  l : p.li.length ≤ 9223372036854775807
  s : p.sc.length ≤ 9223372036854775807
  d : p.dr.length ≤ 9223372036854775807
  a : ∀ r ∈ p.rs, r.at_.length ≤ 9223372036854775807
theorem all_stepR (l : List RV) (k : Nat) (r : RV) (h : l[k]? = some r) : ((l.drop k).all fun r => decide (r.nm.size ≤ 60) && textsL r.at_) = ((decide (r.nm.size ≤ 60) && textsL r.at_) && (l.drop (k + 1)).all fun r => decide (r.nm.size ≤ 60) && textsL r.at_) := by
  obtain ⟨hlt, rfl⟩ := List.getElem?_eq_some_iff.1 h
  rw [List.drop_eq_getElem_cons hlt]; rfl
theorem small_po (p : PV) : smallP p.po = (decide (p.rs.length ≤ 60) && textsL p.li && textsL p.sc && textsL p.dr && p.rs.all fun r => decide (r.nm.size ≤ 60) && textsL r.at_) := by
  unfold smallP PV.po
  simp only [List.length_map, List.all_map]
  have e : ((fun r => decide (r.nm.length ≤ 60) && textsL r.at_) ∘ RV.ru) = fun r : RV => decide (r.nm.size ≤ 60) && textsL r.at_ := by
    funext r
    show (decide (r.nm.data.toList.length ≤ 60) && textsL r.at_) = _
    rw [← size_list]
  rw [e]
set_option maxHeartbeats 4000000 in
theorem rsmall_any (p : PV) (hp : LenP p) (w : World) (hI : IsPo w p) :
    Calls Tryz.prog 10 #[poA p] w fun e w' => e = .returned (.bool (smallP p.po)) ∧ Below w.heap.size w w' := by
  rw [small_po]
  have HB := hide (fun x (b : Below (poW w p).heap.size (poW w p) x) => po_box w p b)
  have H1 := hide (fun x (b : Below w.heap.size w x) => rtexts_any p.li hp.l p.lv x (hI.l.below b))
  have H2 := hide (fun x (b : Below w.heap.size w x) => rtexts_any p.sc hp.s p.sv x (hI.s.below b))
  have H3 := hide (fun x (b : Below w.heap.size w x) => rtexts_any p.dr hp.d p.dv x (hI.d.below b))
  have HR := hide hI.r
  have HA := hide hp.a
  have hrl := hp.r
  obtain ⟨rs, li, sc, dr, de, rv, lv, sv, dv⟩ := p
  simp only [] at *
  have gr : IsR w rv rs := hI.r
  have gl : IsW w lv li := hI.l
  have gs : IsW w sv sc := hI.s
  have gd : IsW w dv dr := hI.d
  obtain ⟨ra, rc, rfl⟩ := gr.form
  obtain ⟨la, lc, rfl⟩ := gl.form
  obtain ⟨sa, sc', rfl⟩ := gs.form
  obtain ⟨da, dc, rfl⟩ := gd.form
  clear gl gs gd
  have HAT := hide (fun k r (hk : rs[k]? = some r) => gr.at_ k r hk)
  have HTA := hide (fun k r (hk : rs[k]? = some r) x (b : Below w.heap.size w x) => rtexts_any r.at_ (hp.a r (List.mem_of_getElem? hk)) r.av x ((gr.at_ k r hk).2.below b))
  have hli := hp.l
  have hsc := hp.s
  have hdr := hp.d
  try simp only [] at hli hsc hdr
  have B0 := hide (Below.refl (poW w ⟨rs, li, sc, dr, de, .slice ra rs.length rc, .slice la li.length lc, .slice sa sc.length sc', .slice da dr.length dc⟩).heap.size (poW w ⟨rs, li, sc, dr, de, .slice ra rs.length rc, .slice la li.length lc, .slice sa sc.length sc', .slice da dr.length dc⟩))
  obtain ⟨c0, c1, c2, c3, c4, bb⟩ := HB.out _ B0.out
  have BB := hide bb
  try simp only [] at c0 c1 c2 c3 c4
  clear hI hp HA HR bb HB gr
  generalize textsL li = T1 at *
  generalize textsL sc = T2 at *
  generalize textsL dr = T3 at *
  generalize li.length = ll at *
  generalize sc.length = sl at *
  generalize dr.length = dl at *
  by_cases h60 : rs.length ≤ 60
  · have h60i : ¬ (60 : Int) < rs.length := by omega
    rw [decide_eq_true h60, Bool.true_and]
    cases T1 with
    | false =>
      go_enter Tryz.func10, Tryz.ntmps10
      go_wp2_with fail
      refine (H1.out _ BB.out).mono ?_
      rintro e w1 ⟨rfl, rfl⟩
      go_wp2
      go_ret
      exact ⟨by simp, BB.out⟩
    | true =>
      cases T2 with
      | false =>
        go_enter Tryz.func10, Tryz.ntmps10
        go_wp2_with fail
        refine (H1.out _ BB.out).mono ?_
        rintro e w1 ⟨rfl, rfl⟩
        go_wp2_with fail
        refine (H2.out _ BB.out).mono ?_
        rintro e w1 ⟨rfl, rfl⟩
        go_wp2
        go_ret
        exact ⟨by simp, BB.out⟩
      | true =>
        cases T3 with
        | false =>
          go_enter Tryz.func10, Tryz.ntmps10
          go_wp2_with fail
          refine (H1.out _ BB.out).mono ?_
          rintro e w1 ⟨rfl, rfl⟩
          go_wp2_with fail
          refine (H2.out _ BB.out).mono ?_
          rintro e w1 ⟨rfl, rfl⟩
          go_wp2_with fail
          refine (H3.out _ BB.out).mono ?_
          rintro e w1 ⟨rfl, rfl⟩
          go_wp2
          go_ret
          exact ⟨by simp, BB.out⟩
        | true =>
          rw [Bool.true_and, Bool.true_and, Bool.true_and]
          generalize hV : (rs.all fun r => decide (r.nm.size ≤ 60) && textsL r.at_) = V
          have HV := hide hV
          clear hV
          go_enter Tryz.func10, Tryz.ntmps10
          go_wp2_with fail
          refine (H1.out _ BB.out).mono ?_
          rintro e w1 ⟨rfl, rfl⟩
          go_wp2_with fail
          refine (H2.out _ BB.out).mono ?_
          rintro e w1 ⟨rfl, rfl⟩
          go_wp2_with fail
          refine (H3.out _ BB.out).mono ?_
          rintro e w1 ⟨rfl, rfl⟩
          go_wp2
          go_loop [3] (fun i => ∃ k : Nat, k ≤ rs.length ∧ i = .int .i64 k ∧ Hid (((rs.drop k).all fun r => decide (r.nm.size ≤ 60) && textsL r.at_) = V)) (fun i => rs.length - (intOf i).toNat)
          case atStart => exact ⟨0, Nat.zero_le _, rfl, hide (by rw [List.drop_zero]; exact HV.out)⟩
          case round =>
            obtain ⟨k, hk, rfl, HR⟩ := hrel
            by_cases hlt : k < rs.length
            · have hlt2 : (k : Int) < rs.length := by omega
              obtain ⟨r, hr⟩ : ∃ r, rs[k]? = some r := ⟨_, List.getElem?_eq_getElem hlt⟩
              obtain ⟨⟨b, o, rfl, q⟩, hw⟩ := HAT.out k r hr
              obtain ⟨d0, d1⟩ := q _ BB.out
              have hst := all_stepR rs k r hr
              rw [HR.out] at hst
              have HT := hide (HTA.out k r hr _ BB.out)
              obtain ⟨xa, xc, hx⟩ := hw.form
              obtain ⟨rn, rat, rav⟩ := r
              simp only [] at hst HT d0 d1 hx
              subst hx
              clear hw hr q
              generalize rat.length = rl at *
              by_cases h6 : rn.size ≤ 60
              · have h6i : ¬ (60 : Int) < rn.size := by omega
                rw [decide_eq_true h6, Bool.true_and] at hst
                clear h6
                generalize textsL rat = T4 at *
                cases T4
                · have HR2 : Hid (V = false) := hide (by rw [hst]; rfl)
                  clear hst HR
                  go_wp2_with fail
                  refine HT.out.mono ?_
                  rintro e w1 ⟨rfl, rfl⟩
                  go_wp2
                  go_ret
                  exact ⟨ret_bool HR2.out.symm, BB.out⟩
                · have HR2 : Hid (((rs.drop (k + 1)).all fun r => decide (r.nm.size ≤ 60) && textsL r.at_) = V) := hide (by rw [hst]; rfl)
                  clear hst HR
                  go_wp2_with fail
                  refine HT.out.mono ?_
                  rintro e w1 ⟨rfl, rfl⟩
                  go_wp2
                  go_round
                  case rel => exact ⟨k + 1, by omega, by go_num, HR2⟩
                  case measure => simp [intOf]; omega
              · have h6i : (60 : Int) < rn.size := by omega
                have HR2 : Hid (V = false) := hide (by rw [hst, decide_eq_false h6]; rfl)
                clear hst HR h6
                go_wp2
                go_ret
                exact ⟨ret_bool HR2.out.symm, BB.out⟩
            · have hlt2 : ¬ (k : Int) < rs.length := by omega
              have hst := HR.out
              rw [List.drop_eq_nil_of_le (by omega)] at hst
              have HR2 := hide hst
              clear hst HR hlt
              go_wp2
              go_ret
              exact ⟨ret_bool HR2.out, BB.out⟩
  · have h60i : (60 : Int) < rs.length := by omega
    rw [decide_eq_false h60]
    clear h60
    go_enter Tryz.func10, Tryz.ntmps10
    go_wp2
    go_ret
    exact ⟨by simp, BB.out⟩
end Go.Proofs.YthopnliaikkhbaaGreatDoor
