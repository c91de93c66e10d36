/- What the document's Same answers of two policies of one meaning. -/
import Derived.Test.YthopnliaikkhbaaGreatDoorSz11
import Derived.Test.YthopnliaikkhbaaGreatDoorRk11
import Derived.Deep.RegionHeld2
set_option linter.unusedVariables false
set_option linter.unusedSimpArgs false
set_option maxRecDepth 4000
namespace Go.Proofs.YthopnliaikkhbaaGreatDoor
open Go.RowKit

theorem po_box2 (w : World) (p q : PV) {x : World} (h : Below (poW (poW w p) q).heap.size (poW (poW w p) q) x) : x.cell? ⟨w.heap.size + 1, 0, none⟩ = some q.rv ∧ x.cell? ⟨w.heap.size + 1, 1, none⟩ = some q.lv ∧ x.cell? ⟨w.heap.size + 1, 2, none⟩ = some q.sv ∧ x.cell? ⟨w.heap.size + 1, 3, none⟩ = some q.dv ∧ x.cell? ⟨w.heap.size + 1, 4, none⟩ = some (.int .i64 q.de) ∧ Below (poW w p).heap.size (poW w p) x := by
  have hb := po_box (poW w p) q h
  have hs : (poW w p).heap.size = w.heap.size + 1 := by simp
  rw [hs] at hb ⊢
  exact hb
theorem ru_at {rs rs2 : List RV} (h : rs.map RV.ru = rs2.map RV.ru) {k : Nat} {x y : RV} (hx : rs[k]? = some x) (hy : rs2[k]? = some y) : y.nm = x.nm ∧ y.at_ = x.at_ := by
  have e := congrArg (fun l => l[k]?) h
  simp only [List.getElem?_map, hx, hy, Option.map_some, Option.some.injEq] at e
  have e1 : x.nm.data.toList = y.nm.data.toList := congrArg RU.nm e
  have e2 : x.at_ = y.at_ := congrArg RU.at_ e
  refine ⟨?_, e2.symm⟩
  obtain ⟨⟨⟨l⟩⟩, _, _⟩ := x
  obtain ⟨⟨⟨m⟩⟩, _, _⟩ := y
  simp only [] at e1 ⊢
  subst e1
  rfl
set_option maxHeartbeats 4000000 in
theorem rsame_eq (p q : PV) (hpq : p.po = q.po) (hp : LenP p) (hrl : p.rs.length ≤ 1000) (w : World) (hI : IsPo w p) (hJ : IsPo w q) :
    Calls Tryz.prog 9 #[poA p, poA q] w fun e w' => e = .returned (.bool true) ∧ Below w.heap.size w w' := by
  have q1 : p.rs.map RV.ru = q.rs.map RV.ru := congrArg PO.ru hpq
  have q2 : p.li = q.li := congrArg PO.li hpq
  have q3 : p.sc = q.sc := congrArg PO.sc hpq
  have q4 : p.dr = q.dr := congrArg PO.dr hpq
  have q5 : p.de = q.de := congrArg PO.de hpq
  clear hpq
  have HBQ := hide (fun x (b : Below (poW (poW w p) q).heap.size (poW (poW w p) q) x) => po_box2 w p q b)
  have HB := hide (fun x (b : Below (poW w p).heap.size (poW w p) x) => po_box w p b)
  obtain ⟨rs, li, sc, dr, de, rv, lv, sv, dv⟩ := p
  obtain ⟨rs2, li2, sc2', dr2, de2, rv2, lv2, sv2, dv2⟩ := q
  simp only [] at *
  subst q2 q3 q4 q5
  have hl2 : rs2.length = rs.length := by have := congrArg List.length q1; simpa using this.symm
  have gr : IsR w rv rs := hI.r
  have gl : IsW w lv li := hI.l
  have gs : IsW w sv sc := hI.s
  have gd : IsW w dv dr := hI.d
  have gr2 : IsR w rv2 rs2 := hJ.r
  have gl2 : IsW w lv2 li := hJ.l
  have gs2 : IsW w sv2 sc := hJ.s
  have gd2 : IsW w dv2 dr := hJ.d
  have hT : ∀ (l : List Bs) (v u : Value), l.length ≤ 9223372036854775807 → IsW w v l → IsW w u l → ∀ x, Below w.heap.size w x → Calls Tryz.prog 20 #[v, u] x fun e w' => e = .returned (.bool true) ∧ Below x.heap.size x w' := fun l v u hl h1 h2 x b => by
    have h := rTexts_any l l hl hl v u x (h1.below b) (h2.below b)
    rw [beq_self_eq_true] at h
    exact h
  have HT1 := hide (hT _ _ _ hp.l gl gl2)
  have HT2 := hide (hT _ _ _ hp.s gs gs2)
  have HT3 := hide (hT _ _ _ hp.d gd gd2)
  have HTX := hide (fun (k : Nat) x y (hx : rs[k]? = some x) (hy : rs2[k]? = some y) => hT x.at_ x.av y.av (hp.a x (List.mem_of_getElem? hx)) (gr.2 x (List.mem_of_getElem? hx)) (by have := gr2.2 y (List.mem_of_getElem? hy); rw [(ru_at q1 hx hy).2] at this; exact this))
  obtain ⟨ra, rc, rfl⟩ := gr.form
  obtain ⟨la, lc, rfl⟩ := gl.form
  obtain ⟨sa, sc', rfl⟩ := gs.form
  obtain ⟨da, dc, rfl⟩ := gd.form
  obtain ⟨ra2, rc2, hr2⟩ := gr2.form
  obtain ⟨la2, lc2, rfl⟩ := gl2.form
  obtain ⟨sa2, sc2, rfl⟩ := gs2.form
  obtain ⟨da2, dc2, rfl⟩ := gd2.form
  rw [hl2] at hr2
  subst hr2
  have HAT := hide (fun k r (hk : rs[k]? = some r) => gr.at_ k r hk)
  have HAT2 := hide (fun k r (hk : rs2[k]? = some r) => gr2.at_ k r hk)
  have HRU := hide (fun (k : Nat) x y (hx : rs[k]? = some x) (hy : rs2[k]? = some y) => ru_at q1 hx hy)
  have HL2 := hide hl2
  clear gl gs gd gl2 gs2 gd2 gr gr2 hT hI hJ hp q1 hl2
  have B0 := hide (Below.refl (poW (poW w ⟨rs, li, sc, dr, de, .slice ra rs.length rc, .slice la li.length lc, .slice sa sc.length sc', .slice da dr.length dc⟩) ⟨rs2, li, sc, dr, de, .slice ra2 rs.length rc2, .slice la2 li.length lc2, .slice sa2 sc.length sc2, .slice da2 dr.length dc2⟩).heap.size (poW (poW w ⟨rs, li, sc, dr, de, .slice ra rs.length rc, .slice la li.length lc, .slice sa sc.length sc', .slice da dr.length dc⟩) ⟨rs2, li, sc, dr, de, .slice ra2 rs.length rc2, .slice la2 li.length lc2, .slice sa2 sc.length sc2, .slice da2 dr.length dc2⟩))
  obtain ⟨e0, e1, e2, e3, e4, ab⟩ := HBQ.out _ B0.out
  obtain ⟨c0, c1, c2, c3, c4, bb⟩ := HB.out _ ab
  have BB := hide bb
  clear ab bb
  go_enter Tryz.func9, Tryz.ntmps9
  go_wp2_with fail
  refine (HT1.out _ BB.out).mono ?_
  rintro e w1 ⟨rfl, b1⟩
  have B1 := hide (B0.out.trans (b1.mono B0.out.size))
  clear b1 c0 c1 c2 c3 c4 e0 e1 e2 e3 e4
  obtain ⟨e0, e1, e2, e3, e4, ab⟩ := HBQ.out _ B1.out
  obtain ⟨c0, c1, c2, c3, c4, bb⟩ := HB.out _ ab
  have BB1 := hide bb
  clear ab bb
  go_wp2_with fail
  refine (HT2.out _ BB1.out).mono ?_
  rintro e w2 ⟨rfl, b1⟩
  have B2 := hide (B1.out.trans (b1.mono B1.out.size))
  clear b1 c0 c1 c2 c3 c4 e0 e1 e2 e3 e4
  obtain ⟨e0, e1, e2, e3, e4, ab⟩ := HBQ.out _ B2.out
  obtain ⟨c0, c1, c2, c3, c4, bb⟩ := HB.out _ ab
  have BB2 := hide bb
  clear ab bb
  go_wp2_with fail
  refine (HT3.out _ BB2.out).mono ?_
  rintro e w3 ⟨rfl, b1⟩
  have B3 := hide (B2.out.trans (b1.mono B2.out.size))
  clear b1 c0 c1 c2 c3 c4 e0 e1 e2 e3 e4
  obtain ⟨e0, e1, e2, e3, e4, ab⟩ := HBQ.out _ B3.out
  obtain ⟨c0, c1, c2, c3, c4, bb⟩ := HB.out _ ab
  have BB3 := hide bb
  clear ab bb
  go_wp2
  go_loopw [5] (fun i wr => ∃ k : Nat, k ≤ rs.length ∧ i = .int .i64 k ∧ Hid (Below (poW (poW w ⟨rs, li, sc, dr, de, .slice ra rs.length rc, .slice la li.length lc, .slice sa sc.length sc', .slice da dr.length dc⟩) ⟨rs2, li, sc, dr, de, .slice ra2 rs.length rc2, .slice la2 li.length lc2, .slice sa2 sc.length sc2, .slice da2 dr.length dc2⟩).heap.size (poW (poW w ⟨rs, li, sc, dr, de, .slice ra rs.length rc, .slice la li.length lc, .slice sa sc.length sc', .slice da dr.length dc⟩) ⟨rs2, li, sc, dr, de, .slice ra2 rs.length rc2, .slice la2 li.length lc2, .slice sa2 sc.length sc2, .slice da2 dr.length dc2⟩) wr)) (fun i _ => rs.length - (intOf i).toNat)
  case atStart => exact ⟨0, Nat.zero_le _, rfl, B3⟩
  case round =>
    obtain ⟨k, hk, rfl, HX⟩ := hrel
    clear c0 c1 c2 c3 c4 e0 e1 e2 e3 e4
    obtain ⟨e0, e1, e2, e3, e4, ab⟩ := HBQ.out _ HX.out
    obtain ⟨c0, c1, c2, c3, c4, bb⟩ := HB.out _ ab
    have BBX := hide bb
    clear ab bb e0 e1 e2 e3 e4 c1 c2 c3 c4
    by_cases hlt : k < rs.length
    · have hlt2 : (k : Int) < rs.length := by omega
      have HY := hide HX.out.drew
      obtain ⟨x, hx⟩ : ∃ x, rs[k]? = some x := ⟨_, List.getElem?_eq_getElem hlt⟩
      obtain ⟨y, hy⟩ : ∃ y, rs2[k]? = some y := ⟨_, List.getElem?_eq_getElem (by rw [HL2.out]; exact hlt)⟩
      obtain ⟨⟨b, o, rfl, hq⟩, hw⟩ := HAT.out k x hx
      obtain ⟨⟨b2, o2, rfl, hq2⟩, hw2⟩ := HAT2.out k y hy
      obtain ⟨r1, r2⟩ := HRU.out k x y hx hy
      have HTA := hide (HTX.out k x y hx hy)
      obtain ⟨xa, xc, hxf⟩ := hw.form
      obtain ⟨ya, yc, hyf⟩ := hw2.form
      obtain ⟨xn, xat, xav⟩ := x
      obtain ⟨yn, yat, yav⟩ := y
      simp only [] at hxf hyf r1 r2 hq hq2 HTA
      subst r1 r2 hxf hyf
      have HD := hide hq
      have HE := hide hq2
      clear hq hq2 hw hw2 hx hy
      generalize yat.length = xl at *
      go_wp2_with fail
      refine wp_region_held_drew (S := fun W' => Below (poW (poW w ⟨rs, li, sc, dr, de, .slice (some ⟨b, o, none⟩) rs.length rc, .slice la li.length lc, .slice sa sc.length sc', .slice da dr.length dc⟩) ⟨rs2, li, sc, dr, de, .slice (some ⟨b2, o2, none⟩) rs.length rc2, .slice la2 li.length lc2, .slice sa2 sc.length sc2, .slice da2 dr.length dc2⟩).heap.size (poW (poW w ⟨rs, li, sc, dr, de, .slice (some ⟨b, o, none⟩) rs.length rc, .slice la li.length lc, .slice sa sc.length sc', .slice da dr.length dc⟩) ⟨rs2, li, sc, dr, de, .slice (some ⟨b2, o2, none⟩) rs.length rc2, .slice la2 li.length lc2, .slice sa2 sc.length sc2, .slice da2 dr.length dc2⟩) W') (by kernel_rfl) HY.out (fun hHeld => ?_)
      refine wpAnyH_take (i := 0) (v := ?_) rfl (by kernel_rfl) (by kernel_rfl) (by kernel_rfl) (fun _ _ _ h => h) (Or.inl ⟨by kernel_rfl, ?_⟩) hHeld ?_
      rotate_left
      · intro W hSw
        clear hSw
        go_simp <;> with_reducible rfl
      simp only [Act.put, List.getElem_toArray, List.getElem_cons_zero, List.getElem_cons_succ, List.setIfInBounds_toArray, List.set_cons_zero, List.set_cons_succ]
      refine wpAnyH_take (i := 1) (v := ?_) rfl (by kernel_rfl) (by kernel_rfl) (by kernel_rfl) (fun _ _ _ h => h) (Or.inl ⟨by kernel_rfl, ?_⟩) hHeld ?_
      rotate_left
      · intro W hSw
        have c0 := (HB.out _ (HBQ.out _ hSw).2.2.2.2.2).1
        clear hSw
        go_simp <;> with_reducible rfl
      simp only [Act.put, List.getElem_toArray, List.getElem_cons_zero, List.getElem_cons_succ, List.setIfInBounds_toArray, List.set_cons_zero, List.set_cons_succ]
      refine wpAnyH_take (i := 2) (v := ?_) rfl (by kernel_rfl) (by kernel_rfl) (by kernel_rfl) (fun _ _ _ h => h) (Or.inl ⟨by kernel_rfl, ?_⟩) hHeld ?_
      rotate_left
      · intro W hSw
        clear hSw
        go_simp <;> with_reducible rfl
      simp only [Act.put, List.getElem_toArray, List.getElem_cons_zero, List.getElem_cons_succ, List.setIfInBounds_toArray, List.set_cons_zero, List.set_cons_succ]
      refine wpAnyH_take (i := 3) (v := ?_) rfl (by kernel_rfl) (by kernel_rfl) (by kernel_rfl) (fun _ _ _ h => h) (Or.inl ⟨by kernel_rfl, ?_⟩) hHeld ?_
      rotate_left
      · intro W hSw
        clear hSw
        go_simp <;> with_reducible rfl
      simp only [Act.put, List.getElem_toArray, List.getElem_cons_zero, List.getElem_cons_succ, List.setIfInBounds_toArray, List.set_cons_zero, List.set_cons_succ]
      refine wpAnyH_take (i := 4) (v := ?_) rfl (by kernel_rfl) (by kernel_rfl) (by kernel_rfl) (fun _ _ _ h => h) (Or.inl ⟨by kernel_rfl, ?_⟩) hHeld ?_
      rotate_left
      · intro W hSw
        clear hSw
        go_simp <;> with_reducible rfl
      simp only [Act.put, List.getElem_toArray, List.getElem_cons_zero, List.getElem_cons_succ, List.setIfInBounds_toArray, List.set_cons_zero, List.set_cons_succ]
      refine wpAnyH_take (i := 5) (v := ?_) rfl (by kernel_rfl) (by kernel_rfl) (by kernel_rfl) (fun _ _ _ h => h) (Or.inl ⟨by kernel_rfl, ?_⟩) hHeld ?_
      rotate_left
      · intro W hSw
        obtain ⟨d0, d1⟩ := HD.out _ (HB.out _ (HBQ.out _ hSw).2.2.2.2.2).2.2.2.2.2
        clear hSw
        go_simp <;> with_reducible rfl
      simp only [Act.put, List.getElem_toArray, List.getElem_cons_zero, List.getElem_cons_succ, List.setIfInBounds_toArray, List.set_cons_zero, List.set_cons_succ]
      refine wpAnyH_take (i := 6) (v := ?_) rfl (by kernel_rfl) (by kernel_rfl) (by kernel_rfl) (fun _ _ _ h => h) (Or.inl ⟨by kernel_rfl, ?_⟩) hHeld ?_
      rotate_left
      · intro W hSw
        clear hSw
        go_simp <;> with_reducible rfl
      simp only [Act.put, List.getElem_toArray, List.getElem_cons_zero, List.getElem_cons_succ, List.setIfInBounds_toArray, List.set_cons_zero, List.set_cons_succ]
      refine wpAnyH_take (i := 7) (v := ?_) rfl (by kernel_rfl) (by kernel_rfl) (by kernel_rfl) (fun _ _ _ h => h) (Or.inl ⟨by kernel_rfl, ?_⟩) hHeld ?_
      rotate_left
      · intro W hSw
        have e0 := (HBQ.out _ hSw).1
        clear hSw
        go_simp <;> with_reducible rfl
      simp only [Act.put, List.getElem_toArray, List.getElem_cons_zero, List.getElem_cons_succ, List.setIfInBounds_toArray, List.set_cons_zero, List.set_cons_succ]
      refine wpAnyH_take (i := 8) (v := ?_) rfl (by kernel_rfl) (by kernel_rfl) (by kernel_rfl) (fun _ _ _ h => h) (Or.inl ⟨by kernel_rfl, ?_⟩) hHeld ?_
      rotate_left
      · intro W hSw
        clear hSw
        go_simp <;> with_reducible rfl
      simp only [Act.put, List.getElem_toArray, List.getElem_cons_zero, List.getElem_cons_succ, List.setIfInBounds_toArray, List.set_cons_zero, List.set_cons_succ]
      refine wpAnyH_take (i := 9) (v := ?_) rfl (by kernel_rfl) (by kernel_rfl) (by kernel_rfl) (fun _ _ _ h => h) (Or.inl ⟨by kernel_rfl, ?_⟩) hHeld ?_
      rotate_left
      · intro W hSw
        clear hSw
        go_simp <;> with_reducible rfl
      simp only [Act.put, List.getElem_toArray, List.getElem_cons_zero, List.getElem_cons_succ, List.setIfInBounds_toArray, List.set_cons_zero, List.set_cons_succ]
      refine wpAnyH_take (i := 10) (v := ?_) rfl (by kernel_rfl) (by kernel_rfl) (by kernel_rfl) (fun _ _ _ h => h) (Or.inl ⟨by kernel_rfl, ?_⟩) hHeld ?_
      rotate_left
      · intro W hSw
        clear hSw
        go_simp <;> with_reducible rfl
      simp only [Act.put, List.getElem_toArray, List.getElem_cons_zero, List.getElem_cons_succ, List.setIfInBounds_toArray, List.set_cons_zero, List.set_cons_succ]
      refine wpAnyH_take (i := 11) (v := ?_) rfl (by kernel_rfl) (by kernel_rfl) (by kernel_rfl) (fun _ _ _ h => h) (Or.inl ⟨by kernel_rfl, ?_⟩) hHeld ?_
      rotate_left
      · intro W hSw
        obtain ⟨d0, d1⟩ := HE.out _ (HB.out _ (HBQ.out _ hSw).2.2.2.2.2).2.2.2.2.2
        clear hSw
        go_simp <;> with_reducible rfl
      simp only [Act.put, List.getElem_toArray, List.getElem_cons_zero, List.getElem_cons_succ, List.setIfInBounds_toArray, List.set_cons_zero, List.set_cons_succ]
      refine wpAnyH_take (i := 12) (v := .bool false) rfl (by kernel_rfl) (by kernel_rfl) (by kernel_rfl) (fun _ _ _ h => h) (Or.inl ⟨by kernel_rfl, fun _ _ => by go_simp⟩) hHeld ?_
      simp only [Act.put, List.getElem_toArray, List.getElem_cons_zero, List.getElem_cons_succ, List.setIfInBounds_toArray, List.set_cons_zero, List.set_cons_succ]
      refine wpAnyH_take (i := 13) (v := .bool false) rfl (by kernel_rfl) (by kernel_rfl) (by kernel_rfl) (fun _ _ _ h => h) (Or.inl ⟨by kernel_rfl, fun _ _ => by go_simp⟩) hHeld ?_
      simp only [Act.put, List.getElem_toArray, List.getElem_cons_zero, List.getElem_cons_succ, List.setIfInBounds_toArray, List.set_cons_zero, List.set_cons_succ]
      refine wpAnyH_take (i := 14) (v := ?_) rfl (by kernel_rfl) (by kernel_rfl) (by kernel_rfl) (fun _ _ _ h => h) (Or.inl ⟨by kernel_rfl, ?_⟩) hHeld ?_
      rotate_left
      · intro W hSw
        clear hSw
        go_simp <;> with_reducible rfl
      simp only [Act.put, List.getElem_toArray, List.getElem_cons_zero, List.getElem_cons_succ, List.setIfInBounds_toArray, List.set_cons_zero, List.set_cons_succ]
      refine wpAnyH_take (i := 15) (v := ?_) rfl (by kernel_rfl) (by kernel_rfl) (by kernel_rfl) (fun _ _ _ h => h) (Or.inl ⟨by kernel_rfl, ?_⟩) hHeld ?_
      rotate_left
      · intro W hSw
        have c0 := (HB.out _ (HBQ.out _ hSw).2.2.2.2.2).1
        clear hSw
        go_simp <;> with_reducible rfl
      simp only [Act.put, List.getElem_toArray, List.getElem_cons_zero, List.getElem_cons_succ, List.setIfInBounds_toArray, List.set_cons_zero, List.set_cons_succ]
      refine wpAnyH_take (i := 16) (v := ?_) rfl (by kernel_rfl) (by kernel_rfl) (by kernel_rfl) (fun _ _ _ h => h) (Or.inl ⟨by kernel_rfl, ?_⟩) hHeld ?_
      rotate_left
      · intro W hSw
        clear hSw
        go_simp <;> with_reducible rfl
      simp only [Act.put, List.getElem_toArray, List.getElem_cons_zero, List.getElem_cons_succ, List.setIfInBounds_toArray, List.set_cons_zero, List.set_cons_succ]
      refine wpAnyH_take (i := 17) (v := ?_) rfl (by kernel_rfl) (by kernel_rfl) (by kernel_rfl) (fun _ _ _ h => h) (Or.inl ⟨by kernel_rfl, ?_⟩) hHeld ?_
      rotate_left
      · intro W hSw
        clear hSw
        go_simp <;> with_reducible rfl
      simp only [Act.put, List.getElem_toArray, List.getElem_cons_zero, List.getElem_cons_succ, List.setIfInBounds_toArray, List.set_cons_zero, List.set_cons_succ]
      refine wpAnyH_take (i := 18) (v := ?_) rfl (by kernel_rfl) (by kernel_rfl) (by kernel_rfl) (fun _ _ _ h => h) (Or.inl ⟨by kernel_rfl, ?_⟩) hHeld ?_
      rotate_left
      · intro W hSw
        clear hSw
        go_simp <;> with_reducible rfl
      simp only [Act.put, List.getElem_toArray, List.getElem_cons_zero, List.getElem_cons_succ, List.setIfInBounds_toArray, List.set_cons_zero, List.set_cons_succ]
      refine wpAnyH_take (i := 19) (v := ?_) rfl (by kernel_rfl) (by kernel_rfl) (by kernel_rfl) (fun _ _ _ h => h) (Or.inl ⟨by kernel_rfl, ?_⟩) hHeld ?_
      rotate_left
      · intro W hSw
        obtain ⟨d0, d1⟩ := HD.out _ (HB.out _ (HBQ.out _ hSw).2.2.2.2.2).2.2.2.2.2
        clear hSw
        go_simp <;> with_reducible rfl
      simp only [Act.put, List.getElem_toArray, List.getElem_cons_zero, List.getElem_cons_succ, List.setIfInBounds_toArray, List.set_cons_zero, List.set_cons_succ]
      refine wpAnyH_take (i := 20) (v := ?_) rfl (by kernel_rfl) (by kernel_rfl) (by kernel_rfl) (fun _ _ _ h => h) (Or.inl ⟨by kernel_rfl, ?_⟩) hHeld ?_
      rotate_left
      · intro W hSw
        clear hSw
        go_simp <;> with_reducible rfl
      simp only [Act.put, List.getElem_toArray, List.getElem_cons_zero, List.getElem_cons_succ, List.setIfInBounds_toArray, List.set_cons_zero, List.set_cons_succ]
      refine wpAnyH_take (i := 21) (v := ?_) rfl (by kernel_rfl) (by kernel_rfl) (by kernel_rfl) (fun _ _ _ h => h) (Or.inl ⟨by kernel_rfl, ?_⟩) hHeld ?_
      rotate_left
      · intro W hSw
        have e0 := (HBQ.out _ hSw).1
        clear hSw
        go_simp <;> with_reducible rfl
      simp only [Act.put, List.getElem_toArray, List.getElem_cons_zero, List.getElem_cons_succ, List.setIfInBounds_toArray, List.set_cons_zero, List.set_cons_succ]
      refine wpAnyH_take (i := 22) (v := ?_) rfl (by kernel_rfl) (by kernel_rfl) (by kernel_rfl) (fun _ _ _ h => h) (Or.inl ⟨by kernel_rfl, ?_⟩) hHeld ?_
      rotate_left
      · intro W hSw
        clear hSw
        go_simp <;> with_reducible rfl
      simp only [Act.put, List.getElem_toArray, List.getElem_cons_zero, List.getElem_cons_succ, List.setIfInBounds_toArray, List.set_cons_zero, List.set_cons_succ]
      refine wpAnyH_take (i := 23) (v := ?_) rfl (by kernel_rfl) (by kernel_rfl) (by kernel_rfl) (fun _ _ _ h => h) (Or.inl ⟨by kernel_rfl, ?_⟩) hHeld ?_
      rotate_left
      · intro W hSw
        clear hSw
        go_simp <;> with_reducible rfl
      simp only [Act.put, List.getElem_toArray, List.getElem_cons_zero, List.getElem_cons_succ, List.setIfInBounds_toArray, List.set_cons_zero, List.set_cons_succ]
      refine wpAnyH_take (i := 24) (v := ?_) rfl (by kernel_rfl) (by kernel_rfl) (by kernel_rfl) (fun _ _ _ h => h) (Or.inl ⟨by kernel_rfl, ?_⟩) hHeld ?_
      rotate_left
      · intro W hSw
        clear hSw
        go_simp <;> with_reducible rfl
      simp only [Act.put, List.getElem_toArray, List.getElem_cons_zero, List.getElem_cons_succ, List.setIfInBounds_toArray, List.set_cons_zero, List.set_cons_succ]
      refine wpAnyH_take (i := 25) (v := ?_) rfl (by kernel_rfl) (by kernel_rfl) (by kernel_rfl) (fun _ _ _ h => h) (Or.inl ⟨by kernel_rfl, ?_⟩) hHeld ?_
      rotate_left
      · intro W hSw
        obtain ⟨d0, d1⟩ := HE.out _ (HB.out _ (HBQ.out _ hSw).2.2.2.2.2).2.2.2.2.2
        clear hSw
        go_simp <;> with_reducible rfl
      simp only [Act.put, List.getElem_toArray, List.getElem_cons_zero, List.getElem_cons_succ, List.setIfInBounds_toArray, List.set_cons_zero, List.set_cons_succ]
      have BD := hide (HB.out _ (HBQ.out _ hHeld).2.2.2.2.2).2.2.2.2.2
      refine wpAnyH_ready (rs := [26]) (by kernel_rfl) (by simp) ?_
      refine AllReadyH.cons rfl (fun K hK => ?_) AllReadyH.nil
      go_simp
      go_wp2_with (first | (go_at_call 20; refine (HTA.out _ BD.out).mono ?_; rintro e x2 ⟨rfl, b9⟩))
      refine hK.out _ _ ?_ (fun hHeld => ?_)
      · exact Below.trans hHeld (b9.mono hHeld.size)
      clear hK K
      try simp only [Act.put, List.getElem_toArray, List.getElem_cons_zero, List.getElem_cons_succ, List.setIfInBounds_toArray, List.set_cons_zero, List.set_cons_succ]
      clear BD b9
      refine wpAnyH_take (i := 27) (v := .bool false) rfl (by kernel_rfl) (by kernel_rfl) (by kernel_rfl) (fun _ _ _ h => h) (Or.inl ⟨by kernel_rfl, fun _ _ => by go_simp⟩) hHeld ?_
      simp only [Act.put, List.getElem_toArray, List.getElem_cons_zero, List.getElem_cons_succ, List.setIfInBounds_toArray, List.set_cons_zero, List.set_cons_succ]
      refine wpAnyH_take (i := 28) (v := .bool false) rfl (by kernel_rfl) (by kernel_rfl) (by kernel_rfl) (fun _ _ _ h => h) (Or.inl ⟨by kernel_rfl, fun _ _ => by go_simp⟩) hHeld ?_
      simp only [Act.put, List.getElem_toArray, List.getElem_cons_zero, List.getElem_cons_succ, List.setIfInBounds_toArray, List.set_cons_zero, List.set_cons_succ]
      refine wpAnyH_done (by kernel_rfl) ?_ _
      have HZ := hide hHeld
      clear hHeld
      go_wp2
      go_roundw
      case rel => exact ⟨k + 1, by omega, by go_num, HZ⟩
      case measure => simp [intOf]; omega
    · have hlt2 : ¬ (k : Int) < rs.length := by omega
      clear hlt
      go_wp2
      go_ret
      exact ⟨rfl, BBX.out⟩
end Go.Proofs.YthopnliaikkhbaaGreatDoor
