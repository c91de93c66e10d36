/- What attrLet answers. -/
import Derived.Test.YthopnliaikkhbaaGreatDoorPf11
set_option linter.unusedVariables false
set_option linter.unusedSimpArgs false
set_option maxRecDepth 4000
namespace Go.Proofs.YthopnliaikkhbaaGreatDoor
open Go.RowKit

set_option maxHeartbeats 2000000 in
theorem attrLet_any (p : PV) (hp : CapP p) (s an av : ByteArray) (hv : av.size ≤ 1000000) (w : World) (hI : IsPo w p) :
    Calls Tryz.prog 27 #[poA p, .string s, .agg #[.string an, .string av]] w fun e w' => e = .returned (.bool (attrB p.po s.data.toList an.data.toList av.data.toList)) ∧ Below w.heap.size w w' := by
  have H1 := hide (fun x (b : Below w.heap.size w x) => ruleOf_any p (by have := hp.s.r; omega) s x (hI.below b))
  have H2 := hide (fun r (hr : r ∈ p.rs) x (b : Below w.heap.size w x) => contains_any an r.at_ r.av x (by have := (hp.s.a r hr).1; omega) ((hI.r.2 r hr).below b))
  have H3 := hide (fun x (b : Below w.heap.size w x) => contains_any an p.li p.lv x (by have := hp.s.l; omega) (hI.l.below b))
  have H4 := hide (fun x (b : Below w.heap.size w x) => safe_any av hv p.sc (by have := hp.s.s; omega) p.sv x (hI.s.below b))
  have hrl : p.rs.length ≤ 1000 := hp.s.r
  unfold attrB
  rw [find_po]
  have hL : p.po.li = p.li := rfl
  have hS : p.po.sc = p.sc := rfl
  rw [hL, hS]
  generalize hP3 : amongL p.li an.data.toList = P3 at *
  generalize safeL av.data.toList p.sc = P4 at *
  clear hL hS hP3
  have HB := hide (fun x (b : Below (poW w p).heap.size (poW w p) x) => po_box w p b)
  obtain ⟨rs, li, sc, dr, de, rv, lv, sv, dv⟩ := p
  simp only [] at *
  have gr : IsR w rv rs := hI.r
  have gl : IsW w lv li := hI.l
  have gs : IsW w sv sc := hI.s
  have gd : IsW w dv dr := hI.d
  obtain ⟨ra, rc, rfl⟩ := gr.form
  obtain ⟨la, lc, rfl⟩ := gl.form
  obtain ⟨sa, sc', rfl⟩ := gs.form
  obtain ⟨da, dc, rfl⟩ := gd.form
  clear gl gs gd
  have HAT := hide (fun k r (hk : rs[k]? = some r) => gr.at_ k r hk)
  have HBA := hide (fun x (b : Below ((poW w ⟨rs, li, sc, dr, de, .slice ra rs.length rc, .slice la li.length lc, .slice sa sc.length sc', .slice da dr.length dc⟩).alloc (.cells #[.string an, .string av] 46)).heap.size ((poW w ⟨rs, li, sc, dr, de, .slice ra rs.length rc, .slice la li.length lc, .slice sa sc.length sc', .slice da dr.length dc⟩).alloc (.cells #[.string an, .string av] 46)) x) => at_box w ⟨rs, li, sc, dr, de, .slice ra rs.length rc, .slice la li.length lc, .slice sa sc.length sc', .slice da dr.length dc⟩ an av b)
  have B0 := hide (Below.refl ((poW w ⟨rs, li, sc, dr, de, .slice ra rs.length rc, .slice la li.length lc, .slice sa sc.length sc', .slice da dr.length dc⟩).alloc (.cells #[.string an, .string av] 46)).heap.size ((poW w ⟨rs, li, sc, dr, de, .slice ra rs.length rc, .slice la li.length lc, .slice sa sc.length sc', .slice da dr.length dc⟩).alloc (.cells #[.string an, .string av] 46)))
  obtain ⟨a0, a1, ab⟩ := HBA.out _ B0.out
  obtain ⟨c0, c1, c2, c3, c4, bb⟩ := HB.out _ ab
  have BB := hide bb
  clear ab bb
  clear hI gr hp
  have HQ1 := hide (H1.out _ BB.out)
  cases hF : rs.find? (nameIs s.data.toList) with
  | none =>
    have HQ1' : Hid (Calls Tryz.prog 26 #[poA ⟨rs, li, sc, dr, de, .slice ra rs.length rc, .slice la li.length lc, .slice sa sc.length sc', .slice da dr.length dc⟩, .string s] ((poW w ⟨rs, li, sc, dr, de, .slice ra rs.length rc, .slice la li.length lc, .slice sa sc.length sc', .slice da dr.length dc⟩).alloc (.cells #[.string an, .string av] 46)) fun e w' => e = .returned (.int .i64 (-1)) ∧ Hid (Below ((poW w ⟨rs, li, sc, dr, de, .slice ra rs.length rc, .slice la li.length lc, .slice sa sc.length sc', .slice da dr.length dc⟩).alloc (.cells #[.string an, .string av] 46)).heap.size ((poW w ⟨rs, li, sc, dr, de, .slice ra rs.length rc, .slice la li.length lc, .slice sa sc.length sc', .slice da dr.length dc⟩).alloc (.cells #[.string an, .string av] 46)) w')) := hide (HQ1.out.mono fun e w' h => by
      obtain ⟨⟨z, rfl, hz⟩, h2⟩ := h
      rcases hz with ⟨k, r, _, _, h⟩ | ⟨rfl, _⟩
      · rw [hF] at h; cases h
      · exact ⟨rfl, hide h2⟩)
    clear HQ1 H1 hF
    simp only [Option.map_none]
    go_enter Tryz.func27, Tryz.ntmps27
    go_wp2_with fail
    refine HQ1'.out.mono ?_
    rintro e w1 ⟨rfl, h1⟩
    have HY := hide h1.out.drew
    clear c0 c1 c2 c3 c4 a0 a1
    go_wp2_with fail
    refine wp_region_held_drew (S := fun W' => Below ((poW w ⟨rs, li, sc, dr, de, .slice ra rs.length rc, .slice la li.length lc, .slice sa sc.length sc', .slice da dr.length dc⟩).alloc (.cells #[.string an, .string av] 46)).heap.size ((poW w ⟨rs, li, sc, dr, de, .slice ra rs.length rc, .slice la li.length lc, .slice sa sc.length sc', .slice da dr.length dc⟩).alloc (.cells #[.string an, .string av] 46)) W') (by kernel_rfl) HY.out (fun hHeld => ?_)
    refine wpAnyH_take (i := 0) (v := .int .i64 (-1)) rfl (by kernel_rfl) (by kernel_rfl) (by kernel_rfl) (fun _ _ _ h => h) (Or.inl ⟨by kernel_rfl, fun _ _ => by go_simp⟩) hHeld ?_
    simp only [Act.put, List.getElem_toArray, List.getElem_cons_zero, List.getElem_cons_succ, List.setIfInBounds_toArray, List.set_cons_zero, List.set_cons_succ]
    refine wpAnyH_take (i := 1) (v := .bool true) rfl (by kernel_rfl) (by kernel_rfl) (by kernel_rfl) (fun _ _ _ h => h) (Or.inl ⟨by kernel_rfl, fun _ _ => by go_simp⟩) hHeld ?_
    simp only [Act.put, List.getElem_toArray, List.getElem_cons_zero, List.getElem_cons_succ, List.setIfInBounds_toArray, List.set_cons_zero, List.set_cons_succ]
    refine wpAnyH_take (i := 2) (v := .bool true) rfl (by kernel_rfl) (by kernel_rfl) (by kernel_rfl) (fun _ _ _ h => h) (Or.inl ⟨by kernel_rfl, fun _ _ => by go_simp⟩) hHeld ?_
    simp only [Act.put, List.getElem_toArray, List.getElem_cons_zero, List.getElem_cons_succ, List.setIfInBounds_toArray, List.set_cons_zero, List.set_cons_succ]
    refine wpAnyH_take (i := 3) (v := undef) rfl (by kernel_rfl) (by kernel_rfl) (by kernel_rfl) (fun _ _ _ h => h) (Or.inr ⟨by kernel_rfl, rfl⟩) hHeld ?_
    simp only [Act.put, List.getElem_toArray, List.getElem_cons_zero, List.getElem_cons_succ, List.setIfInBounds_toArray, List.set_cons_zero, List.set_cons_succ]
    refine wpAnyH_take (i := 4) (v := undef) rfl (by kernel_rfl) (by kernel_rfl) (by kernel_rfl) (fun _ _ _ h => h) (Or.inr ⟨by kernel_rfl, rfl⟩) hHeld ?_
    simp only [Act.put, List.getElem_toArray, List.getElem_cons_zero, List.getElem_cons_succ, List.setIfInBounds_toArray, List.set_cons_zero, List.set_cons_succ]
    refine wpAnyH_take (i := 5) (v := undef) rfl (by kernel_rfl) (by kernel_rfl) (by kernel_rfl) (fun _ _ _ h => h) (Or.inr ⟨by kernel_rfl, rfl⟩) hHeld ?_
    simp only [Act.put, List.getElem_toArray, List.getElem_cons_zero, List.getElem_cons_succ, List.setIfInBounds_toArray, List.set_cons_zero, List.set_cons_succ]
    refine wpAnyH_take (i := 6) (v := undef) rfl (by kernel_rfl) (by kernel_rfl) (by kernel_rfl) (fun _ _ _ h => h) (Or.inr ⟨by kernel_rfl, rfl⟩) hHeld ?_
    simp only [Act.put, List.getElem_toArray, List.getElem_cons_zero, List.getElem_cons_succ, List.setIfInBounds_toArray, List.set_cons_zero, List.set_cons_succ]
    refine wpAnyH_take (i := 7) (v := undef) rfl (by kernel_rfl) (by kernel_rfl) (by kernel_rfl) (fun _ _ _ h => h) (Or.inr ⟨by kernel_rfl, rfl⟩) hHeld ?_
    simp only [Act.put, List.getElem_toArray, List.getElem_cons_zero, List.getElem_cons_succ, List.setIfInBounds_toArray, List.set_cons_zero, List.set_cons_succ]
    refine wpAnyH_take (i := 8) (v := undef) rfl (by kernel_rfl) (by kernel_rfl) (by kernel_rfl) (fun _ _ _ h => h) (Or.inr ⟨by kernel_rfl, rfl⟩) hHeld ?_
    simp only [Act.put, List.getElem_toArray, List.getElem_cons_zero, List.getElem_cons_succ, List.setIfInBounds_toArray, List.set_cons_zero, List.set_cons_succ]
    refine wpAnyH_take (i := 9) (v := undef) rfl (by kernel_rfl) (by kernel_rfl) (by kernel_rfl) (fun _ _ _ h => h) (Or.inr ⟨by kernel_rfl, rfl⟩) hHeld ?_
    simp only [Act.put, List.getElem_toArray, List.getElem_cons_zero, List.getElem_cons_succ, List.setIfInBounds_toArray, List.set_cons_zero, List.set_cons_succ]
    refine wpAnyH_take (i := 10) (v := undef) rfl (by kernel_rfl) (by kernel_rfl) (by kernel_rfl) (fun _ _ _ h => h) (Or.inr ⟨by kernel_rfl, rfl⟩) hHeld ?_
    simp only [Act.put, List.getElem_toArray, List.getElem_cons_zero, List.getElem_cons_succ, List.setIfInBounds_toArray, List.set_cons_zero, List.set_cons_succ]
    refine wpAnyH_take (i := 11) (v := undef) rfl (by kernel_rfl) (by kernel_rfl) (by kernel_rfl) (fun _ _ _ h => h) (Or.inr ⟨by kernel_rfl, rfl⟩) hHeld ?_
    simp only [Act.put, List.getElem_toArray, List.getElem_cons_zero, List.getElem_cons_succ, List.setIfInBounds_toArray, List.set_cons_zero, List.set_cons_succ]
    refine wpAnyH_take (i := 12) (v := undef) rfl (by kernel_rfl) (by kernel_rfl) (by kernel_rfl) (fun _ _ _ h => h) (Or.inr ⟨by kernel_rfl, rfl⟩) hHeld ?_
    simp only [Act.put, List.getElem_toArray, List.getElem_cons_zero, List.getElem_cons_succ, List.setIfInBounds_toArray, List.set_cons_zero, List.set_cons_succ]
    refine wpAnyH_take (i := 13) (v := .bool true) rfl (by kernel_rfl) (by kernel_rfl) (by kernel_rfl) (fun _ _ _ h => h) (Or.inl ⟨by kernel_rfl, fun _ _ => by go_simp⟩) hHeld ?_
    simp only [Act.put, List.getElem_toArray, List.getElem_cons_zero, List.getElem_cons_succ, List.setIfInBounds_toArray, List.set_cons_zero, List.set_cons_succ]
    refine wpAnyH_done (by kernel_rfl) ?_ _
    have HZ := hide (HB.out _ (HBA.out _ hHeld).2.2).2.2.2.2.2
    clear hHeld
    go_wp2
    go_ret
    exact ⟨rfl, HZ.out⟩
  | some r =>
    have HQ1' : Hid (Calls Tryz.prog 26 #[poA ⟨rs, li, sc, dr, de, .slice ra rs.length rc, .slice la li.length lc, .slice sa sc.length sc', .slice da dr.length dc⟩, .string s] ((poW w ⟨rs, li, sc, dr, de, .slice ra rs.length rc, .slice la li.length lc, .slice sa sc.length sc', .slice da dr.length dc⟩).alloc (.cells #[.string an, .string av] 46)) fun e w' => ∃ k : Nat, e = .returned (.int .i64 (k : Int)) ∧ Hid (rs[k]? = some r) ∧ Hid (Below ((poW w ⟨rs, li, sc, dr, de, .slice ra rs.length rc, .slice la li.length lc, .slice sa sc.length sc', .slice da dr.length dc⟩).alloc (.cells #[.string an, .string av] 46)).heap.size ((poW w ⟨rs, li, sc, dr, de, .slice ra rs.length rc, .slice la li.length lc, .slice sa sc.length sc', .slice da dr.length dc⟩).alloc (.cells #[.string an, .string av] 46)) w')) := hide (HQ1.out.mono fun e w' h => by
      obtain ⟨⟨z, rfl, hz⟩, h2⟩ := h
      rcases hz with ⟨k, r', rfl, h3, h⟩ | ⟨_, h⟩
      · rw [hF] at h
        obtain rfl := Option.some.inj h
        exact ⟨k, rfl, hide h3, hide h2⟩
      · rw [hF] at h; cases h)
    clear HQ1 H1
    have hrm := List.mem_of_find?_eq_some hF
    clear hF
    have H2r := hide (H2.out r hrm)
    simp only [Option.map_some]
    have hra : r.ru.at_ = r.at_ := rfl
    rw [hra]
    generalize amongL r.at_ an.data.toList = P2 at *
    clear hra H2
    go_enter Tryz.func27, Tryz.ntmps27
    go_wp2_with fail
    refine HQ1'.out.mono ?_
    rintro e w1 ⟨k, rfl, hk, h1⟩
    have HY := hide h1.out.drew
    obtain ⟨⟨b, o, rfl, q⟩, hw⟩ := HAT.out k r hk.out
    have hkl : k < rs.length := (List.getElem?_eq_some_iff.1 hk.out).1
    have hkl2 : (k : Int) < rs.length := by omega
    have hk0 : ¬ (k : Int) < 0 := by omega
    have HQ := hide q
    obtain ⟨xa, xc, hxf⟩ := hw.form
    obtain ⟨rn, rat, rav⟩ := r
    simp only [] at hxf H2r HQ
    subst hxf
    generalize rat.length = rl at *
    clear c0 c1 c2 c3 c4 a0 a1 q hw hk hrm hrl
    go_wp2_with fail
    cases P2 with
    | false =>
      refine wp_region_held_drew (S := fun W' => Below ((poW w ⟨rs, li, sc, dr, de, .slice (some ⟨b, o, none⟩) rs.length rc, .slice la li.length lc, .slice sa sc.length sc', .slice da dr.length dc⟩).alloc (.cells #[.string an, .string av] 46)).heap.size ((poW w ⟨rs, li, sc, dr, de, .slice (some ⟨b, o, none⟩) rs.length rc, .slice la li.length lc, .slice sa sc.length sc', .slice da dr.length dc⟩).alloc (.cells #[.string an, .string av] 46)) W') (by kernel_rfl) HY.out (fun hHeld => ?_)
      refine wpAnyH_take (i := 0) (v := .int .i64 (k : Int)) rfl (by kernel_rfl) (by kernel_rfl) (by kernel_rfl) (fun _ _ _ h => h) (Or.inl ⟨by kernel_rfl, fun _ _ => by go_simp⟩) hHeld ?_
      simp only [Act.put, List.getElem_toArray, List.getElem_cons_zero, List.getElem_cons_succ, List.setIfInBounds_toArray, List.set_cons_zero, List.set_cons_succ]
      refine wpAnyH_take (i := 1) (v := .bool false) rfl (by kernel_rfl) (by kernel_rfl) (by kernel_rfl) (fun _ _ _ h => h) (Or.inl ⟨by kernel_rfl, fun _ _ => by go_simp⟩) hHeld ?_
      simp only [Act.put, List.getElem_toArray, List.getElem_cons_zero, List.getElem_cons_succ, List.setIfInBounds_toArray, List.set_cons_zero, List.set_cons_succ]
      refine wpAnyH_take (i := 2) (v := .bool false) rfl (by kernel_rfl) (by kernel_rfl) (by kernel_rfl) (fun _ _ _ h => h) (Or.inl ⟨by kernel_rfl, fun _ _ => by go_simp⟩) hHeld ?_
      simp only [Act.put, List.getElem_toArray, List.getElem_cons_zero, List.getElem_cons_succ, List.setIfInBounds_toArray, List.set_cons_zero, List.set_cons_succ]
      refine wpAnyH_take (i := 3) (v := ?_) rfl (by kernel_rfl) (by kernel_rfl) (by kernel_rfl) (fun _ _ _ h => h) (Or.inl ⟨by kernel_rfl, ?_⟩) hHeld ?_
      rotate_left
      · intro W hSw
        clear hSw
        go_simp <;> with_reducible rfl
      simp only [Act.put, List.getElem_toArray, List.getElem_cons_zero, List.getElem_cons_succ, List.setIfInBounds_toArray, List.set_cons_zero, List.set_cons_succ]
      refine wpAnyH_take (i := 4) (v := ?_) rfl (by kernel_rfl) (by kernel_rfl) (by kernel_rfl) (fun _ _ _ h => h) (Or.inl ⟨by kernel_rfl, ?_⟩) hHeld ?_
      rotate_left
      · intro W hSw
        have c0 := (HB.out _ (HBA.out _ hSw).2.2).1
        clear hSw
        go_simp <;> with_reducible rfl
      simp only [Act.put, List.getElem_toArray, List.getElem_cons_zero, List.getElem_cons_succ, List.setIfInBounds_toArray, List.set_cons_zero, List.set_cons_succ]
      refine wpAnyH_take (i := 5) (v := ?_) rfl (by kernel_rfl) (by kernel_rfl) (by kernel_rfl) (fun _ _ _ h => h) (Or.inl ⟨by kernel_rfl, ?_⟩) hHeld ?_
      rotate_left
      · intro W hSw
        clear hSw
        go_simp <;> with_reducible rfl
      simp only [Act.put, List.getElem_toArray, List.getElem_cons_zero, List.getElem_cons_succ, List.setIfInBounds_toArray, List.set_cons_zero, List.set_cons_succ]
      refine wpAnyH_take (i := 6) (v := ?_) rfl (by kernel_rfl) (by kernel_rfl) (by kernel_rfl) (fun _ _ _ h => h) (Or.inl ⟨by kernel_rfl, ?_⟩) hHeld ?_
      rotate_left
      · intro W hSw
        clear hSw
        go_simp <;> with_reducible rfl
      simp only [Act.put, List.getElem_toArray, List.getElem_cons_zero, List.getElem_cons_succ, List.setIfInBounds_toArray, List.set_cons_zero, List.set_cons_succ]
      refine wpAnyH_take (i := 7) (v := ?_) rfl (by kernel_rfl) (by kernel_rfl) (by kernel_rfl) (fun _ _ _ h => h) (Or.inl ⟨by kernel_rfl, ?_⟩) hHeld ?_
      rotate_left
      · intro W hSw
        clear hSw
        go_simp <;> with_reducible rfl
      simp only [Act.put, List.getElem_toArray, List.getElem_cons_zero, List.getElem_cons_succ, List.setIfInBounds_toArray, List.set_cons_zero, List.set_cons_succ]
      refine wpAnyH_take (i := 8) (v := ?_) rfl (by kernel_rfl) (by kernel_rfl) (by kernel_rfl) (fun _ _ _ h => h) (Or.inl ⟨by kernel_rfl, ?_⟩) hHeld ?_
      rotate_left
      · intro W hSw
        obtain ⟨d0, d1⟩ := HQ.out _ (HB.out _ (HBA.out _ hSw).2.2).2.2.2.2.2
        clear hSw
        go_simp <;> with_reducible rfl
      simp only [Act.put, List.getElem_toArray, List.getElem_cons_zero, List.getElem_cons_succ, List.setIfInBounds_toArray, List.set_cons_zero, List.set_cons_succ]
      refine wpAnyH_take (i := 9) (v := ?_) rfl (by kernel_rfl) (by kernel_rfl) (by kernel_rfl) (fun _ _ _ h => h) (Or.inl ⟨by kernel_rfl, ?_⟩) hHeld ?_
      rotate_left
      · intro W hSw
        clear hSw
        go_simp <;> with_reducible rfl
      simp only [Act.put, List.getElem_toArray, List.getElem_cons_zero, List.getElem_cons_succ, List.setIfInBounds_toArray, List.set_cons_zero, List.set_cons_succ]
      refine wpAnyH_take (i := 10) (v := ?_) rfl (by kernel_rfl) (by kernel_rfl) (by kernel_rfl) (fun _ _ _ h => h) (Or.inl ⟨by kernel_rfl, ?_⟩) hHeld ?_
      rotate_left
      · intro W hSw
        have a0 := (HBA.out _ hSw).1
        clear hSw
        go_simp <;> with_reducible rfl
      simp only [Act.put, List.getElem_toArray, List.getElem_cons_zero, List.getElem_cons_succ, List.setIfInBounds_toArray, List.set_cons_zero, List.set_cons_succ]
      have BD := hide (HB.out _ (HBA.out _ hHeld).2.2).2.2.2.2.2
      refine wpAnyH_ready (rs := [11]) (by kernel_rfl) (by simp) ?_
      refine AllReadyH.cons rfl (fun K hK => ?_) AllReadyH.nil
      go_simp
      go_wp2_with (first | (go_at_call 48; refine (H2r.out _ BD.out).mono ?_; rintro e x2 ⟨rfl, rfl⟩))
      refine hK.out _ _ ?_ (fun hHeld => ?_)
      · exact hHeld
      clear hK K
      try simp only [Act.put, List.getElem_toArray, List.getElem_cons_zero, List.getElem_cons_succ, List.setIfInBounds_toArray, List.set_cons_zero, List.set_cons_succ]
      clear BD
      refine wpAnyH_take (i := 12) (v := .bool true) rfl (by kernel_rfl) (by kernel_rfl) (by kernel_rfl) (fun _ _ _ h => h) (Or.inl ⟨by kernel_rfl, fun _ _ => by go_simp⟩) hHeld ?_
      simp only [Act.put, List.getElem_toArray, List.getElem_cons_zero, List.getElem_cons_succ, List.setIfInBounds_toArray, List.set_cons_zero, List.set_cons_succ]
      refine wpAnyH_take (i := 13) (v := .bool true) rfl (by kernel_rfl) (by kernel_rfl) (by kernel_rfl) (fun _ _ _ h => h) (Or.inl ⟨by kernel_rfl, fun _ _ => by go_simp⟩) hHeld ?_
      simp only [Act.put, List.getElem_toArray, List.getElem_cons_zero, List.getElem_cons_succ, List.setIfInBounds_toArray, List.set_cons_zero, List.set_cons_succ]
      refine wpAnyH_done (by kernel_rfl) ?_ _
      have HZ := hide (HB.out _ (HBA.out _ hHeld).2.2).2.2.2.2.2
      clear hHeld
      go_wp2
      go_ret
      exact ⟨rfl, HZ.out⟩
    | true =>
      refine wp_region_held_drew (S := fun W' => Below ((poW w ⟨rs, li, sc, dr, de, .slice (some ⟨b, o, none⟩) rs.length rc, .slice la li.length lc, .slice sa sc.length sc', .slice da dr.length dc⟩).alloc (.cells #[.string an, .string av] 46)).heap.size ((poW w ⟨rs, li, sc, dr, de, .slice (some ⟨b, o, none⟩) rs.length rc, .slice la li.length lc, .slice sa sc.length sc', .slice da dr.length dc⟩).alloc (.cells #[.string an, .string av] 46)) W') (by kernel_rfl) HY.out (fun hHeld => ?_)
      refine wpAnyH_take (i := 0) (v := .int .i64 (k : Int)) rfl (by kernel_rfl) (by kernel_rfl) (by kernel_rfl) (fun _ _ _ h => h) (Or.inl ⟨by kernel_rfl, fun _ _ => by go_simp⟩) hHeld ?_
      simp only [Act.put, List.getElem_toArray, List.getElem_cons_zero, List.getElem_cons_succ, List.setIfInBounds_toArray, List.set_cons_zero, List.set_cons_succ]
      refine wpAnyH_take (i := 1) (v := .bool false) rfl (by kernel_rfl) (by kernel_rfl) (by kernel_rfl) (fun _ _ _ h => h) (Or.inl ⟨by kernel_rfl, fun _ _ => by go_simp⟩) hHeld ?_
      simp only [Act.put, List.getElem_toArray, List.getElem_cons_zero, List.getElem_cons_succ, List.setIfInBounds_toArray, List.set_cons_zero, List.set_cons_succ]
      refine wpAnyH_take (i := 2) (v := .bool false) rfl (by kernel_rfl) (by kernel_rfl) (by kernel_rfl) (fun _ _ _ h => h) (Or.inl ⟨by kernel_rfl, fun _ _ => by go_simp⟩) hHeld ?_
      simp only [Act.put, List.getElem_toArray, List.getElem_cons_zero, List.getElem_cons_succ, List.setIfInBounds_toArray, List.set_cons_zero, List.set_cons_succ]
      refine wpAnyH_take (i := 3) (v := ?_) rfl (by kernel_rfl) (by kernel_rfl) (by kernel_rfl) (fun _ _ _ h => h) (Or.inl ⟨by kernel_rfl, ?_⟩) hHeld ?_
      rotate_left
      · intro W hSw
        clear hSw
        go_simp <;> with_reducible rfl
      simp only [Act.put, List.getElem_toArray, List.getElem_cons_zero, List.getElem_cons_succ, List.setIfInBounds_toArray, List.set_cons_zero, List.set_cons_succ]
      refine wpAnyH_take (i := 4) (v := ?_) rfl (by kernel_rfl) (by kernel_rfl) (by kernel_rfl) (fun _ _ _ h => h) (Or.inl ⟨by kernel_rfl, ?_⟩) hHeld ?_
      rotate_left
      · intro W hSw
        have c0 := (HB.out _ (HBA.out _ hSw).2.2).1
        clear hSw
        go_simp <;> with_reducible rfl
      simp only [Act.put, List.getElem_toArray, List.getElem_cons_zero, List.getElem_cons_succ, List.setIfInBounds_toArray, List.set_cons_zero, List.set_cons_succ]
      refine wpAnyH_take (i := 5) (v := ?_) rfl (by kernel_rfl) (by kernel_rfl) (by kernel_rfl) (fun _ _ _ h => h) (Or.inl ⟨by kernel_rfl, ?_⟩) hHeld ?_
      rotate_left
      · intro W hSw
        clear hSw
        go_simp <;> with_reducible rfl
      simp only [Act.put, List.getElem_toArray, List.getElem_cons_zero, List.getElem_cons_succ, List.setIfInBounds_toArray, List.set_cons_zero, List.set_cons_succ]
      refine wpAnyH_take (i := 6) (v := ?_) rfl (by kernel_rfl) (by kernel_rfl) (by kernel_rfl) (fun _ _ _ h => h) (Or.inl ⟨by kernel_rfl, ?_⟩) hHeld ?_
      rotate_left
      · intro W hSw
        clear hSw
        go_simp <;> with_reducible rfl
      simp only [Act.put, List.getElem_toArray, List.getElem_cons_zero, List.getElem_cons_succ, List.setIfInBounds_toArray, List.set_cons_zero, List.set_cons_succ]
      refine wpAnyH_take (i := 7) (v := ?_) rfl (by kernel_rfl) (by kernel_rfl) (by kernel_rfl) (fun _ _ _ h => h) (Or.inl ⟨by kernel_rfl, ?_⟩) hHeld ?_
      rotate_left
      · intro W hSw
        clear hSw
        go_simp <;> with_reducible rfl
      simp only [Act.put, List.getElem_toArray, List.getElem_cons_zero, List.getElem_cons_succ, List.setIfInBounds_toArray, List.set_cons_zero, List.set_cons_succ]
      refine wpAnyH_take (i := 8) (v := ?_) rfl (by kernel_rfl) (by kernel_rfl) (by kernel_rfl) (fun _ _ _ h => h) (Or.inl ⟨by kernel_rfl, ?_⟩) hHeld ?_
      rotate_left
      · intro W hSw
        obtain ⟨d0, d1⟩ := HQ.out _ (HB.out _ (HBA.out _ hSw).2.2).2.2.2.2.2
        clear hSw
        go_simp <;> with_reducible rfl
      simp only [Act.put, List.getElem_toArray, List.getElem_cons_zero, List.getElem_cons_succ, List.setIfInBounds_toArray, List.set_cons_zero, List.set_cons_succ]
      refine wpAnyH_take (i := 9) (v := ?_) rfl (by kernel_rfl) (by kernel_rfl) (by kernel_rfl) (fun _ _ _ h => h) (Or.inl ⟨by kernel_rfl, ?_⟩) hHeld ?_
      rotate_left
      · intro W hSw
        clear hSw
        go_simp <;> with_reducible rfl
      simp only [Act.put, List.getElem_toArray, List.getElem_cons_zero, List.getElem_cons_succ, List.setIfInBounds_toArray, List.set_cons_zero, List.set_cons_succ]
      refine wpAnyH_take (i := 10) (v := ?_) rfl (by kernel_rfl) (by kernel_rfl) (by kernel_rfl) (fun _ _ _ h => h) (Or.inl ⟨by kernel_rfl, ?_⟩) hHeld ?_
      rotate_left
      · intro W hSw
        have a0 := (HBA.out _ hSw).1
        clear hSw
        go_simp <;> with_reducible rfl
      simp only [Act.put, List.getElem_toArray, List.getElem_cons_zero, List.getElem_cons_succ, List.setIfInBounds_toArray, List.set_cons_zero, List.set_cons_succ]
      have BD := hide (HB.out _ (HBA.out _ hHeld).2.2).2.2.2.2.2
      refine wpAnyH_ready (rs := [11]) (by kernel_rfl) (by simp) ?_
      refine AllReadyH.cons rfl (fun K hK => ?_) AllReadyH.nil
      go_simp
      go_wp2_with (first | (go_at_call 48; refine (H2r.out _ BD.out).mono ?_; rintro e x2 ⟨rfl, rfl⟩))
      refine hK.out _ _ ?_ (fun hHeld => ?_)
      · exact hHeld
      clear hK K
      try simp only [Act.put, List.getElem_toArray, List.getElem_cons_zero, List.getElem_cons_succ, List.setIfInBounds_toArray, List.set_cons_zero, List.set_cons_succ]
      clear BD
      refine wpAnyH_take (i := 12) (v := .bool false) rfl (by kernel_rfl) (by kernel_rfl) (by kernel_rfl) (fun _ _ _ h => h) (Or.inl ⟨by kernel_rfl, fun _ _ => by go_simp⟩) hHeld ?_
      simp only [Act.put, List.getElem_toArray, List.getElem_cons_zero, List.getElem_cons_succ, List.setIfInBounds_toArray, List.set_cons_zero, List.set_cons_succ]
      refine wpAnyH_take (i := 13) (v := .bool false) rfl (by kernel_rfl) (by kernel_rfl) (by kernel_rfl) (fun _ _ _ h => h) (Or.inl ⟨by kernel_rfl, fun _ _ => by go_simp⟩) hHeld ?_
      simp only [Act.put, List.getElem_toArray, List.getElem_cons_zero, List.getElem_cons_succ, List.setIfInBounds_toArray, List.set_cons_zero, List.set_cons_succ]
      refine wpAnyH_done (by kernel_rfl) ?_ _
      obtain ⟨a0, a1, ab⟩ := HBA.out _ hHeld
      obtain ⟨c0, c1, c2, c3, c4, bb⟩ := HB.out _ ab
      have BE := hide bb
      clear ab bb hHeld
      cases P3 with
      | false =>
        go_wp2_with fail
        refine (H3.out _ BE.out).mono ?_
        rintro e w3 ⟨rfl, rfl⟩
        go_wp2
        go_ret
        exact ⟨by simp, BE.out⟩
      | true =>
        go_wp2_with fail
        refine (H3.out _ BE.out).mono ?_
        rintro e w3 ⟨rfl, rfl⟩
        go_wp2_with fail
        refine (H4.out _ BE.out).mono ?_
        rintro e w4 ⟨rfl, b4⟩
        have BF := hide (BE.out.trans (b4.mono BE.out.size))
        clear b4
        go_wp2
        go_ret
        exact ⟨by simp, BF.out⟩
end Go.Proofs.YthopnliaikkhbaaGreatDoor
