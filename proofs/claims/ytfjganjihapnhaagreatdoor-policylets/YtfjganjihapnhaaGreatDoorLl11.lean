/- What PolicyLets answers. -/
import Derived.Test.YtfjganjihapnhaaGreatDoorLs11
import Derived.Test.YtfjganjihapnhaaGreatDoorRow11
set_option linter.unusedVariables false
set_option linter.unusedSimpArgs false
set_option maxRecDepth 4000
namespace Go.Proofs.YtfjganjihapnhaaGreatDoor
open Go.RowKit

set_option maxHeartbeats 4000000 in
theorem policyLets_walk (p : PV) (s z0 z1 : ByteArray) (w : World) (hP : InP w p) :
    Calls Tryz.prog 6 #[poA p, .string s, .agg #[.string z0, .string z1]] w fun e w' => e = .returned (.bool true) ∧ Below w.heap.size w w' := by
  have HAL := hide alive_any
  have HSM := hide (fun x (b : Below w.heap.size w x) => rsmall_any p hP.len x (hP.i.below b))
  have HCP := hide (small_cap hP)
  have HE0 := hide (fun hp x (b : Below w.heap.size w x) => element_any p hp s x (hP.i.below b))
  have HA0 := hide (fun hp hv x (b : Below w.heap.size w x) => attr_any p hp s z0 z1 hv x (hP.i.below b))
  have HRE0 := hide (fun hp x (b : Below w.heap.size w x) => relement_any p hp s x (hP.i.below b))
  have HRA0 := hide (fun hp hv x (b : Below w.heap.size w x) => rattr_any p hp s z0 z1 hv x (hP.i.below b))
  have hI := hP.i
  clear hP
  generalize smallP p.po = SM at *
  generalize elementP p.po s.data.toList = E at *
  generalize attrP p.po s.data.toList z0.data.toList z1.data.toList = A at *
  have HB := hide (fun x (b : Below (poW w p).heap.size (poW w p) x) => po_box w p b)
  obtain ⟨rs, li, sc, dr, de, rv, lv, sv, dv⟩ := p
  simp only [] at *
  have gr : IsR w rv rs := hI.r
  have gl : IsW w lv li := hI.l
  have gs : IsW w sv sc := hI.s
  have gd : IsW w dv dr := hI.d
  obtain ⟨ra, rc, rfl⟩ := gr.form
  obtain ⟨la, lc, rfl⟩ := gl.form
  obtain ⟨sa, sc', rfl⟩ := gs.form
  obtain ⟨da, dc, rfl⟩ := gd.form
  clear gl gs gd gr
  have HBA := hide (fun x (b : Below ((poW w ⟨rs, li, sc, dr, de, .slice ra rs.length rc, .slice la li.length lc, .slice sa sc.length sc', .slice da dr.length dc⟩).alloc (.cells #[.string z0, .string z1] 37)).heap.size ((poW w ⟨rs, li, sc, dr, de, .slice ra rs.length rc, .slice la li.length lc, .slice sa sc.length sc', .slice da dr.length dc⟩).alloc (.cells #[.string z0, .string z1] 37)) x) => at_box w ⟨rs, li, sc, dr, de, .slice ra rs.length rc, .slice la li.length lc, .slice sa sc.length sc', .slice da dr.length dc⟩ z0 z1 b)
  have B0 := hide (Below.refl ((poW w ⟨rs, li, sc, dr, de, .slice ra rs.length rc, .slice la li.length lc, .slice sa sc.length sc', .slice da dr.length dc⟩).alloc (.cells #[.string z0, .string z1] 37)).heap.size ((poW w ⟨rs, li, sc, dr, de, .slice ra rs.length rc, .slice la li.length lc, .slice sa sc.length sc', .slice da dr.length dc⟩).alloc (.cells #[.string z0, .string z1] 37)))
  obtain ⟨a0, a1, ab⟩ := HBA.out _ B0.out
  obtain ⟨c0, c1, c2, c3, c4, bb⟩ := HB.out _ ab
  have BB := hide bb
  clear ab bb
  clear hI
  cases SM with
  | false =>
    clear HCP HE0 HA0 HRE0 HRA0
    go_enter Tryz.func6, Tryz.ntmps6
    go_wp2_with fail
    refine (HSM.out _ BB.out).mono ?_
    rintro e w1 ⟨rfl, b1⟩
    have B1 := hide (B0.out.trans (b1.mono B0.out.size))
    clear b1 c0 c1 c2 c3 c4 a0 a1
    obtain ⟨a0, a1, ab⟩ := HBA.out _ B1.out
    obtain ⟨c0, c1, c2, c3, c4, bb⟩ := HB.out _ ab
    have BB1 := hide bb
    clear ab bb
    go_wp2_with fail
    refine (HAL.out _).mono ?_
    rintro e wz ⟨rfl, bz⟩
    have BZ := hide (Below.trans BB1.out (bz.mono (BB1.out).size))
    clear bz
    go_wp2
    go_ret
    exact ⟨rfl, BZ.out⟩
  | true =>
    have hCP := HCP.out rfl
    by_cases hs : 1000 < s.size
    · have gs : (1000 : Int) < s.size := by omega
      clear hs
      go_enter Tryz.func6, Tryz.ntmps6
      go_wp2_with fail
      refine (HSM.out _ BB.out).mono ?_
      rintro e w1 ⟨rfl, b1⟩
      have B1 := hide (B0.out.trans (b1.mono B0.out.size))
      clear b1 c0 c1 c2 c3 c4 a0 a1
      obtain ⟨a0, a1, ab⟩ := HBA.out _ B1.out
      obtain ⟨c0, c1, c2, c3, c4, bb⟩ := HB.out _ ab
      have BB1 := hide bb
      clear ab bb
      go_wp2_with fail
      refine (HAL.out _).mono ?_
      rintro e wz ⟨rfl, bz⟩
      have BZ := hide (Below.trans BB1.out (bz.mono (BB1.out).size))
      clear bz
      go_wp2
      go_ret
      exact ⟨rfl, BZ.out⟩
    · have gs : ¬ (1000 : Int) < s.size := by omega
      by_cases hz0 : 1000 < z0.size
      · have gz0 : (1000 : Int) < z0.size := by omega
        clear hz0
        go_enter Tryz.func6, Tryz.ntmps6
        go_wp2_with fail
        refine (HSM.out _ BB.out).mono ?_
        rintro e w1 ⟨rfl, b1⟩
        have B1 := hide (B0.out.trans (b1.mono B0.out.size))
        clear b1 c0 c1 c2 c3 c4 a0 a1
        obtain ⟨a0, a1, ab⟩ := HBA.out _ B1.out
        obtain ⟨c0, c1, c2, c3, c4, bb⟩ := HB.out _ ab
        have BB1 := hide bb
        clear ab bb
        go_wp2_with fail
        refine (HAL.out _).mono ?_
        rintro e wz ⟨rfl, bz⟩
        have BZ := hide (Below.trans BB1.out (bz.mono (BB1.out).size))
        clear bz
        go_wp2
        go_ret
        exact ⟨rfl, BZ.out⟩
      · have gz0 : ¬ (1000 : Int) < z0.size := by omega
        by_cases hz1 : 1000 < z1.size
        · have gz1 : (1000 : Int) < z1.size := by omega
          clear hz1
          go_enter Tryz.func6, Tryz.ntmps6
          go_wp2_with fail
          refine (HSM.out _ BB.out).mono ?_
          rintro e w1 ⟨rfl, b1⟩
          have B1 := hide (B0.out.trans (b1.mono B0.out.size))
          clear b1 c0 c1 c2 c3 c4 a0 a1
          obtain ⟨a0, a1, ab⟩ := HBA.out _ B1.out
          obtain ⟨c0, c1, c2, c3, c4, bb⟩ := HB.out _ ab
          have BB1 := hide bb
          clear ab bb
          go_wp2_with fail
          refine (HAL.out _).mono ?_
          rintro e wz ⟨rfl, bz⟩
          have BZ := hide (Below.trans BB1.out (bz.mono (BB1.out).size))
          clear bz
          go_wp2
          go_ret
          exact ⟨rfl, BZ.out⟩
        · have gz1 : ¬ (1000 : Int) < z1.size := by omega
          have HA := hide (HA0.out hCP (by omega))
          have HRA := hide (HRA0.out hCP (by omega))
          have HE := hide (HE0.out hCP)
          have HRE := hide (HRE0.out hCP)
          clear HA0 HRA0 HE0 HRE0 HCP hCP hs hz0 hz1
          go_enter Tryz.func6, Tryz.ntmps6
          go_wp2_with fail
          refine (HSM.out _ BB.out).mono ?_
          rintro e w1 ⟨rfl, b1⟩
          have B1 := hide (B0.out.trans (b1.mono B0.out.size))
          clear b1 c0 c1 c2 c3 c4 a0 a1
          obtain ⟨a0, a1, ab⟩ := HBA.out _ B1.out
          clear ab
          have HY := hide B1.out.drew
          go_wp2_with fail
          refine wp_region_held_drew (S := fun W' => Below ((poW w ⟨rs, li, sc, dr, de, .slice ra rs.length rc, .slice la li.length lc, .slice sa sc.length sc', .slice da dr.length dc⟩).alloc (.cells #[.string z0, .string z1] 37)).heap.size ((poW w ⟨rs, li, sc, dr, de, .slice ra rs.length rc, .slice la li.length lc, .slice sa sc.length sc', .slice da dr.length dc⟩).alloc (.cells #[.string z0, .string z1] 37)) W') (by kernel_rfl) HY.out (fun hHeld => ?_)
          refine wpAnyH_ready (rs := [0]) (by kernel_rfl) (by simp) ?_
          refine AllReadyH.cons rfl (fun K hK => ?_) AllReadyH.nil
          go_simp
          go_wp2_with (first | (go_at_call 10; refine (HAL.out _).mono ?_; rintro e x0 ⟨rfl, b9⟩))
          refine hK.out _ _ ?_ (fun hHeld => ?_)
          · exact Below.trans hHeld (b9.mono hHeld.size)
          clear hK K
          try simp only [Act.put, List.getElem_toArray, List.getElem_cons_zero, List.getElem_cons_succ, List.setIfInBounds_toArray, List.set_cons_zero, List.set_cons_succ]
          clear b9
          refine wpAnyH_take (i := 1) (v := .bool true) rfl (by kernel_rfl) (by kernel_rfl) (by kernel_rfl) (fun _ _ _ h => h) (Or.inl ⟨by kernel_rfl, fun _ _ => by go_simp⟩) hHeld ?_
          simp only [Act.put, List.getElem_toArray, List.getElem_cons_zero, List.getElem_cons_succ, List.setIfInBounds_toArray, List.set_cons_zero, List.set_cons_succ]
          refine wpAnyH_take (i := 2) (v := ?_) rfl (by kernel_rfl) (by kernel_rfl) (by kernel_rfl) (fun _ _ _ h => h) (Or.inl ⟨by kernel_rfl, ?_⟩) hHeld ?_
          rotate_left
          · intro W hSw
            obtain ⟨c0, c1, c2, c3, c4, _⟩ := HB.out _ (HBA.out _ hSw).2.2
            clear hSw
            go_simp <;> with_reducible rfl
          simp only [Act.put, List.getElem_toArray, List.getElem_cons_zero, List.getElem_cons_succ, List.setIfInBounds_toArray, List.set_cons_zero, List.set_cons_succ]
          refine wpAnyH_take (i := 3) (v := ?_) rfl (by kernel_rfl) (by kernel_rfl) (by kernel_rfl) (fun _ _ _ h => h) (Or.inl ⟨by kernel_rfl, ?_⟩) hHeld ?_
          rotate_left
          · intro W hSw
            clear hSw
            go_simp <;> with_reducible rfl
          simp only [Act.put, List.getElem_toArray, List.getElem_cons_zero, List.getElem_cons_succ, List.setIfInBounds_toArray, List.set_cons_zero, List.set_cons_succ]
          refine wpAnyH_take (i := 5) (v := ?_) rfl (by kernel_rfl) (by kernel_rfl) (by kernel_rfl) (fun _ _ _ h => h) (Or.inl ⟨by kernel_rfl, ?_⟩) hHeld ?_
          rotate_left
          · intro W hSw
            obtain ⟨c0, c1, c2, c3, c4, _⟩ := HB.out _ (HBA.out _ hSw).2.2
            clear hSw
            go_simp <;> with_reducible rfl
          simp only [Act.put, List.getElem_toArray, List.getElem_cons_zero, List.getElem_cons_succ, List.setIfInBounds_toArray, List.set_cons_zero, List.set_cons_succ]
          refine wpAnyH_take (i := 6) (v := ?_) rfl (by kernel_rfl) (by kernel_rfl) (by kernel_rfl) (fun _ _ _ h => h) (Or.inl ⟨by kernel_rfl, ?_⟩) hHeld ?_
          rotate_left
          · intro W hSw
            clear hSw
            go_simp <;> with_reducible rfl
          simp only [Act.put, List.getElem_toArray, List.getElem_cons_zero, List.getElem_cons_succ, List.setIfInBounds_toArray, List.set_cons_zero, List.set_cons_succ]
          have BD := hide (HB.out _ (HBA.out _ hHeld).2.2).2.2.2.2.2
          refine wpAnyH_ready (rs := [4]) (by kernel_rfl) (by simp) ?_
          refine AllReadyH.cons rfl (fun K hK => ?_) AllReadyH.nil
          go_simp
          go_wp2_with (first | (go_at_call 18; refine (HE.out _ BD.out).mono ?_; rintro e x2 ⟨rfl, b9⟩))
          refine hK.out _ _ ?_ (fun hHeld => ?_)
          · exact Below.trans hHeld (b9.mono hHeld.size)
          clear hK K
          try simp only [Act.put, List.getElem_toArray, List.getElem_cons_zero, List.getElem_cons_succ, List.setIfInBounds_toArray, List.set_cons_zero, List.set_cons_succ]
          clear BD
          try clear b9
          have BD := hide (HB.out _ (HBA.out _ hHeld).2.2).2.2.2.2.2
          refine wpAnyH_ready (rs := [7]) (by kernel_rfl) (by simp) ?_
          refine AllReadyH.cons rfl (fun K hK => ?_) AllReadyH.nil
          go_simp
          go_wp2_with (first | (go_at_call 19; refine (HRE.out _ BD.out).mono ?_; rintro e x2 ⟨rfl, b9⟩))
          refine hK.out _ _ ?_ (fun hHeld => ?_)
          · exact Below.trans hHeld (b9.mono hHeld.size)
          clear hK K
          try simp only [Act.put, List.getElem_toArray, List.getElem_cons_zero, List.getElem_cons_succ, List.setIfInBounds_toArray, List.set_cons_zero, List.set_cons_succ]
          clear BD
          try clear b9
          refine wpAnyH_take (i := 8) (v := .bool true) rfl (by kernel_rfl) (by kernel_rfl) (by kernel_rfl) (fun _ _ _ h => h) (Or.inl ⟨by kernel_rfl, fun _ _ => by go_simp⟩) hHeld ?_
          simp only [Act.put, List.getElem_toArray, List.getElem_cons_zero, List.getElem_cons_succ, List.setIfInBounds_toArray, List.set_cons_zero, List.set_cons_succ]
          refine wpAnyH_take (i := 9) (v := .bool true) rfl (by kernel_rfl) (by kernel_rfl) (by kernel_rfl) (fun _ _ _ h => h) (Or.inl ⟨by kernel_rfl, fun _ _ => by go_simp⟩) hHeld ?_
          simp only [Act.put, List.getElem_toArray, List.getElem_cons_zero, List.getElem_cons_succ, List.setIfInBounds_toArray, List.set_cons_zero, List.set_cons_succ]
          refine wpAnyH_take (i := 10) (v := .bool true) rfl (by kernel_rfl) (by kernel_rfl) (by kernel_rfl) (fun _ _ _ h => h) (Or.inl ⟨by kernel_rfl, fun _ _ => by go_simp⟩) hHeld ?_
          simp only [Act.put, List.getElem_toArray, List.getElem_cons_zero, List.getElem_cons_succ, List.setIfInBounds_toArray, List.set_cons_zero, List.set_cons_succ]
          refine wpAnyH_take (i := 11) (v := ?_) rfl (by kernel_rfl) (by kernel_rfl) (by kernel_rfl) (fun _ _ _ h => h) (Or.inl ⟨by kernel_rfl, ?_⟩) hHeld ?_
          rotate_left
          · intro W hSw
            obtain ⟨c0, c1, c2, c3, c4, _⟩ := HB.out _ (HBA.out _ hSw).2.2
            clear hSw
            go_simp <;> with_reducible rfl
          simp only [Act.put, List.getElem_toArray, List.getElem_cons_zero, List.getElem_cons_succ, List.setIfInBounds_toArray, List.set_cons_zero, List.set_cons_succ]
          refine wpAnyH_take (i := 12) (v := ?_) rfl (by kernel_rfl) (by kernel_rfl) (by kernel_rfl) (fun _ _ _ h => h) (Or.inl ⟨by kernel_rfl, ?_⟩) hHeld ?_
          rotate_left
          · intro W hSw
            clear hSw
            go_simp <;> with_reducible rfl
          simp only [Act.put, List.getElem_toArray, List.getElem_cons_zero, List.getElem_cons_succ, List.setIfInBounds_toArray, List.set_cons_zero, List.set_cons_succ]
          refine wpAnyH_take (i := 13) (v := ?_) rfl (by kernel_rfl) (by kernel_rfl) (by kernel_rfl) (fun _ _ _ h => h) (Or.inl ⟨by kernel_rfl, ?_⟩) hHeld ?_
          rotate_left
          · intro W hSw
            obtain ⟨a0, a1, _⟩ := HBA.out _ hSw
            clear hSw
            go_simp <;> with_reducible rfl
          simp only [Act.put, List.getElem_toArray, List.getElem_cons_zero, List.getElem_cons_succ, List.setIfInBounds_toArray, List.set_cons_zero, List.set_cons_succ]
          refine wpAnyH_take (i := 15) (v := ?_) rfl (by kernel_rfl) (by kernel_rfl) (by kernel_rfl) (fun _ _ _ h => h) (Or.inl ⟨by kernel_rfl, ?_⟩) hHeld ?_
          rotate_left
          · intro W hSw
            obtain ⟨c0, c1, c2, c3, c4, _⟩ := HB.out _ (HBA.out _ hSw).2.2
            clear hSw
            go_simp <;> with_reducible rfl
          simp only [Act.put, List.getElem_toArray, List.getElem_cons_zero, List.getElem_cons_succ, List.setIfInBounds_toArray, List.set_cons_zero, List.set_cons_succ]
          refine wpAnyH_take (i := 16) (v := ?_) rfl (by kernel_rfl) (by kernel_rfl) (by kernel_rfl) (fun _ _ _ h => h) (Or.inl ⟨by kernel_rfl, ?_⟩) hHeld ?_
          rotate_left
          · intro W hSw
            clear hSw
            go_simp <;> with_reducible rfl
          simp only [Act.put, List.getElem_toArray, List.getElem_cons_zero, List.getElem_cons_succ, List.setIfInBounds_toArray, List.set_cons_zero, List.set_cons_succ]
          refine wpAnyH_take (i := 17) (v := ?_) rfl (by kernel_rfl) (by kernel_rfl) (by kernel_rfl) (fun _ _ _ h => h) (Or.inl ⟨by kernel_rfl, ?_⟩) hHeld ?_
          rotate_left
          · intro W hSw
            obtain ⟨a0, a1, _⟩ := HBA.out _ hSw
            clear hSw
            go_simp <;> with_reducible rfl
          simp only [Act.put, List.getElem_toArray, List.getElem_cons_zero, List.getElem_cons_succ, List.setIfInBounds_toArray, List.set_cons_zero, List.set_cons_succ]
          have BD := hide (HB.out _ (HBA.out _ hHeld).2.2).2.2.2.2.2
          refine wpAnyH_ready (rs := [14]) (by kernel_rfl) (by simp) ?_
          refine AllReadyH.cons rfl (fun K hK => ?_) AllReadyH.nil
          go_simp
          go_wp2_with (first | (go_at_call 20; refine (HA.out _ BD.out).mono ?_; rintro e x2 ⟨rfl, b9⟩))
          refine hK.out _ _ ?_ (fun hHeld => ?_)
          · exact Below.trans hHeld (b9.mono hHeld.size)
          clear hK K
          try simp only [Act.put, List.getElem_toArray, List.getElem_cons_zero, List.getElem_cons_succ, List.setIfInBounds_toArray, List.set_cons_zero, List.set_cons_succ]
          clear BD
          try clear b9
          have BD := hide (HB.out _ (HBA.out _ hHeld).2.2).2.2.2.2.2
          refine wpAnyH_ready (rs := [18]) (by kernel_rfl) (by simp) ?_
          refine AllReadyH.cons rfl (fun K hK => ?_) AllReadyH.nil
          go_simp
          go_wp2_with (first | (go_at_call 21; refine (HRA.out _ BD.out).mono ?_; rintro e x2 ⟨rfl, b9⟩))
          refine hK.out _ _ ?_ (fun hHeld => ?_)
          · exact Below.trans hHeld (b9.mono hHeld.size)
          clear hK K
          try simp only [Act.put, List.getElem_toArray, List.getElem_cons_zero, List.getElem_cons_succ, List.setIfInBounds_toArray, List.set_cons_zero, List.set_cons_succ]
          clear BD
          try clear b9
          refine wpAnyH_take (i := 19) (v := .bool true) rfl (by kernel_rfl) (by kernel_rfl) (by kernel_rfl) (fun _ _ _ h => h) (Or.inl ⟨by kernel_rfl, fun _ _ => by go_simp⟩) hHeld ?_
          simp only [Act.put, List.getElem_toArray, List.getElem_cons_zero, List.getElem_cons_succ, List.setIfInBounds_toArray, List.set_cons_zero, List.set_cons_succ]
          refine wpAnyH_take (i := 20) (v := .bool true) rfl (by kernel_rfl) (by kernel_rfl) (by kernel_rfl) (fun _ _ _ h => h) (Or.inl ⟨by kernel_rfl, fun _ _ => by go_simp⟩) hHeld ?_
          simp only [Act.put, List.getElem_toArray, List.getElem_cons_zero, List.getElem_cons_succ, List.setIfInBounds_toArray, List.set_cons_zero, List.set_cons_succ]
          refine wpAnyH_take (i := 21) (v := .bool true) rfl (by kernel_rfl) (by kernel_rfl) (by kernel_rfl) (fun _ _ _ h => h) (Or.inl ⟨by kernel_rfl, fun _ _ => by go_simp⟩) hHeld ?_
          simp only [Act.put, List.getElem_toArray, List.getElem_cons_zero, List.getElem_cons_succ, List.setIfInBounds_toArray, List.set_cons_zero, List.set_cons_succ]
          refine wpAnyH_done (by kernel_rfl) ?_ _
          have HZ := hide (HB.out _ (HBA.out _ hHeld).2.2).2.2.2.2.2
          clear hHeld
          go_wp2
          go_ret
          exact ⟨rfl, HZ.out⟩
end Go.Proofs.YtfjganjihapnhaaGreatDoor
