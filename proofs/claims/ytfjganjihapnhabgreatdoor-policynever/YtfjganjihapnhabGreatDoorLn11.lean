/- What PolicyNever answers. -/
import Derived.Test.YtfjganjihapnhabGreatDoorPh11
import Derived.Test.YtfjganjihapnhabGreatDoorRow11
import Derived.Deep.RegionHeld2
set_option linter.unusedVariables false
set_option linter.unusedSimpArgs false
set_option maxRecDepth 4000
namespace Go.Proofs.YtfjganjihapnhabGreatDoor
open Go.RowKit

theorem check_ok {p : PO} (h : checkP p = 0) : okP p = true := by
  unfold checkP at h
  split at h
  · omega
  · split at h
    · assumption
    · omega
theorem never_attr {p : PO} {n an av : Bs} (h : attrP p n an av = true) : elementP p n = true ∧ badA an = false ∧ (amongL p.li an = true → ofL av ≠ some jsN) := by
  unfold attrP attrB at h
  rw [Bool.and_eq_true, decide_eq_true_eq] at h
  obtain ⟨hc, h⟩ := h
  cases hf : findR p.ru n with
  | none => rw [hf] at h; cases h
  | some r =>
    rw [hf] at h
    simp only [Bool.and_eq_true, Bool.or_eq_true, Bool.not_eq_true'] at h
    obtain ⟨h1, h2⟩ := h
    refine ⟨?_, ?_, fun h3 h4 => ?_⟩
    · unfold elementP ruleOf
      rw [if_pos hc, hf]; rfl
    · have hr := check_rules hc r (List.mem_of_find?_eq_some hf)
      unfold ruleL at hr
      simp only [Bool.and_eq_true, Bool.not_eq_true'] at hr
      have h5 := hr.1.2
      rw [List.any_eq_false] at h5
      unfold amongL at h1
      rw [List.any_eq_true] at h1
      obtain ⟨x, hx, e⟩ := h1
      rw [beq_iff_eq] at e
      subst e
      simpa using h5 _ hx
    · rw [h3] at h2
      have h6 : safeL av p.sc = true := by
        rcases h2 with h2 | h2
        · cases h2
        · exact h2
      unfold safeL at h6
      rw [h4] at h6
      have h7 := check_ok hc
      unfold okP at h7
      simp only [Bool.and_eq_true, Bool.not_eq_true', Bool.or_eq_false_iff] at h7
      have h8 := h7.2.1.2
      simp only [] at h6
      rw [h6] at h8
      cases h8
theorem not_on {z : ByteArray} (h : badA z.data.toList = false) (h1 : 2 ≤ z.size) : ¬ (z[0].toNat = 111 ∧ z[1].toNat = 110) := by
  rintro ⟨e0, e1⟩
  unfold badA at h
  rw [Bool.or_eq_false_iff] at h
  have h2 := h.2
  rw [← size_list, decide_eq_true h1, Bool.true_and] at h2
  obtain ⟨⟨l⟩⟩ := z
  match l, h1 with
  | a :: b :: t, _ =>
    have g0 : a.toNat = 111 := e0
    have g1 : b.toNat = 110 := e1
    have i0 : a = 111 := UInt8.toNat_inj.1 g0
    have i1 : b = 110 := UInt8.toNat_inj.1 g1
    subst i0 i1
    simp [onN] at h2
theorem among_at {l : List Bs} {z : ByteArray} {k : Nat} (hk : k < l.length) (h : amongL l z.data.toList = false) : ((⟨(l[k]).toArray⟩ : ByteArray).toList == z.toList) = false := by
  rw [Lib.toList_data, Lib.toList_data, str_data]
  unfold amongL at h
  rw [List.any_eq_false] at h
  have := h _ (List.getElem_mem hk)
  rw [beq_eq_false_iff_ne]
  intro e
  rw [beq_iff_eq] at this
  exact this e.symm
theorem opt_pair' (o : Option (List UInt8)) : ∃ (T : List UInt8) (B : Bool), ansO o = .tuple #[.string ⟨T.toArray⟩, .bool B] ∧ (B = true → o = some T) := by
  cases o with
  | none => exact ⟨[], false, rfl, fun h => by cases h⟩
  | some a => exact ⟨a, true, rfl, fun _ => rfl⟩

set_option maxHeartbeats 4000000 in
theorem policyNever_walk (p : PV) (s z0 z1 : ByteArray) (w : World) (hP : InP w p) :
    Calls Tryz.prog 3 #[poA p, .string s, .agg #[.string z0, .string z1]] w fun e w' => e = .returned (.bool true) ∧ Below w.heap.size w w' := by
  have HAL := hide alive_any
  have HSM := hide (fun x (b : Below w.heap.size w x) => rsmall_any p hP.len x (hP.i.below b))
  have HCP := hide (small_cap hP)
  have HE0 := hide (fun hp x (b : Below w.heap.size w x) => element_any p hp s x (hP.i.below b))
  have HA0 := hide (fun hp hv x (b : Below w.heap.size w x) => attr_any p hp s z0 z1 hv x (hP.i.below b))
  have HIS := hide (fun x (b : Below w.heap.size w x) => isp_2 s x)
  have hNE := @never_element p.po s.data.toList
  have hNA := @never_attr p.po s.data.toList z0.data.toList z1.data.toList
  obtain ⟨T, B, hT, hTB⟩ := opt_pair' (ofL z1.data.toList)
  have HOF0 := hide (fun hz x (b : Below w.heap.size w x) => of_any z1 hz x)
  rw [hT] at HOF0
  have hXL : (⟨T.toArray⟩ : ByteArray).data.toList = T := str_data T
  have hI := hP.i
  clear hP
  generalize smallP p.po = SM at *
  generalize elementP p.po s.data.toList = E at *
  generalize attrP p.po s.data.toList z0.data.toList z1.data.toList = A at *
  generalize isL 2 s.data.toList = I2 at *
  have hJS : A = true → B = true → T = jsN → amongL p.li z0.data.toList = false := fun hA hB hTj => by
    cases h : amongL p.li z0.data.toList with
    | false => rfl
    | true => exact absurd (by rw [hTB hB, hTj]) ((hNA hA).2.2 h)
  have hON : A = true → badA z0.data.toList = false := fun hA => (hNA hA).2.1
  have hAE : A = true → E = true := fun hA => (hNA hA).1
  clear hNA hT hTB
  rw [odd_is] at hNE
  have e0 := str_eq s [109, 97, 116, 104]
  have e2 := str_eq s [112, 108, 97, 105, 110, 116, 101, 120, 116]
  have e3 := str_eq s [115, 118, 103]
  rw [← e0, ← e2, ← e3] at hNE
  clear e0 e2 e3
  have eT := str_eq (⟨T.toArray⟩ : ByteArray) jsN
  rw [hXL] at eT
  generalize (⟨T.toArray⟩ : ByteArray) = x at *
  unfold jsN at eT
  have HB := hide (fun x (b : Below (poW w p).heap.size (poW w p) x) => po_box w p b)
  obtain ⟨rs, li, sc, dr, de, rv, lv, sv, dv⟩ := p
  simp only [] at *
  have gr : IsR w rv rs := hI.r
  have gl : IsW w lv li := hI.l
  have gs : IsW w sv sc := hI.s
  have gd : IsW w dv dr := hI.d
  obtain ⟨ra, rc, rfl⟩ := gr.form
  obtain ⟨la, lc, rfl⟩ := gl.form
  obtain ⟨sa, sc', rfl⟩ := gs.form
  obtain ⟨da, dc, rfl⟩ := gd.form
  clear gs gd gr
  have HGL := hide gl
  clear gl
  have HBA := hide (fun x (b : Below ((poW w ⟨rs, li, sc, dr, de, .slice ra rs.length rc, .slice la li.length lc, .slice sa sc.length sc', .slice da dr.length dc⟩).alloc (.cells #[.string z0, .string z1] 27)).heap.size ((poW w ⟨rs, li, sc, dr, de, .slice ra rs.length rc, .slice la li.length lc, .slice sa sc.length sc', .slice da dr.length dc⟩).alloc (.cells #[.string z0, .string z1] 27)) x) => at_box w ⟨rs, li, sc, dr, de, .slice ra rs.length rc, .slice la li.length lc, .slice sa sc.length sc', .slice da dr.length dc⟩ z0 z1 b)
  have B0 := hide (Below.refl ((poW w ⟨rs, li, sc, dr, de, .slice ra rs.length rc, .slice la li.length lc, .slice sa sc.length sc', .slice da dr.length dc⟩).alloc (.cells #[.string z0, .string z1] 27)).heap.size ((poW w ⟨rs, li, sc, dr, de, .slice ra rs.length rc, .slice la li.length lc, .slice sa sc.length sc', .slice da dr.length dc⟩).alloc (.cells #[.string z0, .string z1] 27)))
  obtain ⟨a0, a1, ab⟩ := HBA.out _ B0.out
  obtain ⟨c0, c1, c2, c3, c4, bb⟩ := HB.out _ ab
  have BB := hide bb
  clear ab bb hI
  cases SM with
  | false =>
    clear HCP HE0 HA0 HOF0
    go_enter Tryz.func3, Tryz.ntmps3
    go_wp2_with fail
    refine (HSM.out _ BB.out).mono ?_
    rintro e w1 ⟨rfl, b1⟩
    have B1 := hide (B0.out.trans (b1.mono B0.out.size))
    clear b1 c0 c1 c2 c3 c4 a0 a1
    obtain ⟨a0, a1, ab⟩ := HBA.out _ B1.out
    obtain ⟨c0, c1, c2, c3, c4, bb⟩ := HB.out _ ab
    have BB1 := hide bb
    clear ab bb
    go_wp2_with fail
    refine (HAL.out _).mono ?_
    rintro e wz ⟨rfl, bz⟩
    have BZ := hide (Below.trans BB1.out (bz.mono (BB1.out).size))
    clear bz
    go_wp2
    go_ret
    exact ⟨rfl, BZ.out⟩
  | true =>
    have hCP := HCP.out rfl
    have HE := hide (HE0.out hCP)
    clear HE0
    by_cases hs : 1000 < s.size
    · have gs : (1000 : Int) < s.size := by omega
      clear hs
      go_enter Tryz.func3, Tryz.ntmps3
      go_wp2_with fail
      refine (HSM.out _ BB.out).mono ?_
      rintro e w1 ⟨rfl, b1⟩
      have B1 := hide (B0.out.trans (b1.mono B0.out.size))
      clear b1 c0 c1 c2 c3 c4 a0 a1
      obtain ⟨a0, a1, ab⟩ := HBA.out _ B1.out
      obtain ⟨c0, c1, c2, c3, c4, bb⟩ := HB.out _ ab
      have BB1 := hide bb
      clear ab bb
      go_wp2_with fail
      refine (HAL.out _).mono ?_
      rintro e wz ⟨rfl, bz⟩
      have BZ := hide (Below.trans BB1.out (bz.mono (BB1.out).size))
      clear bz
      go_wp2
      go_ret
      exact ⟨rfl, BZ.out⟩
    · have gs : ¬ (1000 : Int) < s.size := by omega
      by_cases hz0 : 1000 < z0.size
      · have gz0 : (1000 : Int) < z0.size := by omega
        clear hz0
        go_enter Tryz.func3, Tryz.ntmps3
        go_wp2_with fail
        refine (HSM.out _ BB.out).mono ?_
        rintro e w1 ⟨rfl, b1⟩
        have B1 := hide (B0.out.trans (b1.mono B0.out.size))
        clear b1 c0 c1 c2 c3 c4 a0 a1
        obtain ⟨a0, a1, ab⟩ := HBA.out _ B1.out
        obtain ⟨c0, c1, c2, c3, c4, bb⟩ := HB.out _ ab
        have BB1 := hide bb
        clear ab bb
        go_wp2_with fail
        refine (HAL.out _).mono ?_
        rintro e wz ⟨rfl, bz⟩
        have BZ := hide (Below.trans BB1.out (bz.mono (BB1.out).size))
        clear bz
        go_wp2
        go_ret
        exact ⟨rfl, BZ.out⟩
      · have gz0 : ¬ (1000 : Int) < z0.size := by omega
        by_cases hz1 : 1000 < z1.size
        · have gz1 : (1000 : Int) < z1.size := by omega
          clear hz1
          go_enter Tryz.func3, Tryz.ntmps3
          go_wp2_with fail
          refine (HSM.out _ BB.out).mono ?_
          rintro e w1 ⟨rfl, b1⟩
          have B1 := hide (B0.out.trans (b1.mono B0.out.size))
          clear b1 c0 c1 c2 c3 c4 a0 a1
          obtain ⟨a0, a1, ab⟩ := HBA.out _ B1.out
          obtain ⟨c0, c1, c2, c3, c4, bb⟩ := HB.out _ ab
          have BB1 := hide bb
          clear ab bb
          go_wp2_with fail
          refine (HAL.out _).mono ?_
          rintro e wz ⟨rfl, bz⟩
          have BZ := hide (Below.trans BB1.out (bz.mono (BB1.out).size))
          clear bz
          go_wp2
          go_ret
          exact ⟨rfl, BZ.out⟩
        · have gz1 : ¬ (1000 : Int) < z1.size := by omega
          have hL : li.length ≤ 1000 := hCP.s.l
          have HA := hide (HA0.out hCP (by omega))
          have HOF := hide (HOF0.out (by omega))
          clear HA0 HOF0 HCP hCP hs hz0 hz1
          cases A with
          | false =>
            clear hJS hON hAE eT
            cases E with
            | false =>
              clear hNE HIS
              go_enter Tryz.func3, Tryz.ntmps3
              go_wp2_with fail
              refine (HSM.out _ BB.out).mono ?_
              rintro e w1 ⟨rfl, b1⟩
              have B1 := hide (B0.out.trans (b1.mono B0.out.size))
              clear b1 c0 c1 c2 c3 c4 a0 a1
              obtain ⟨a0, a1, ab⟩ := HBA.out _ B1.out
              obtain ⟨c0, c1, c2, c3, c4, bb⟩ := HB.out _ ab
              have BB1 := hide bb
              clear ab bb
              go_wp2_with fail
              refine (HA.out _ BB1.out).mono ?_
              rintro e w2 ⟨rfl, b2⟩
              have B2 := hide (B1.out.trans (b2.mono B1.out.size))
              clear b2 c0 c1 c2 c3 c4 a0 a1
              obtain ⟨a0, a1, ab⟩ := HBA.out _ B2.out
              obtain ⟨c0, c1, c2, c3, c4, bb⟩ := HB.out _ ab
              have BB2 := hide bb
              clear ab bb
              go_wp2_with fail
              refine (HE.out _ BB2.out).mono ?_
              rintro e w3 ⟨rfl, b3⟩
              have B3 := hide (B2.out.trans (b3.mono B2.out.size))
              clear b3 c0 c1 c2 c3 c4 a0 a1
              obtain ⟨a0, a1, ab⟩ := HBA.out _ B3.out
              obtain ⟨c0, c1, c2, c3, c4, bb⟩ := HB.out _ ab
              have BB3 := hide bb
              clear ab bb
              go_wp2_with fail
              refine (HOF.out _ BB3.out).mono ?_
              rintro e w4 ⟨rfl, b4⟩
              have B4 := hide (B3.out.trans (b4.mono B3.out.size))
              clear b4 c0 c1 c2 c3 c4 a0 a1
              obtain ⟨a0, a1, ab⟩ := HBA.out _ B4.out
              obtain ⟨c0, c1, c2, c3, c4, bb⟩ := HB.out _ ab
              have BB4 := hide bb
              clear ab bb
              go_wp2
              go_loopw [10] (fun i wr => ∃ k : Nat, k ≤ li.length ∧ i = .int .i64 k ∧ Hid (Below ((poW w ⟨rs, li, sc, dr, de, .slice ra rs.length rc, .slice la li.length lc, .slice sa sc.length sc', .slice da dr.length dc⟩).alloc (.cells #[.string z0, .string z1] 27)).heap.size ((poW w ⟨rs, li, sc, dr, de, .slice ra rs.length rc, .slice la li.length lc, .slice sa sc.length sc', .slice da dr.length dc⟩).alloc (.cells #[.string z0, .string z1] 27)) wr)) (fun i _ => li.length - (intOf i).toNat)
              case atStart => exact ⟨0, Nat.zero_le _, rfl, B4⟩
              case round =>
                obtain ⟨k, hk, rfl, HX⟩ := hrel
                clear a0 a1 c0 c1 c2 c3 c4
                obtain ⟨a0, a1, ab⟩ := HBA.out _ HX.out
                obtain ⟨c0, c1, c2, c3, c4, bb⟩ := HB.out _ ab
                have BBX := hide bb
                clear ab bb a0 a1 c0 c2 c3 c4
                by_cases hlt : k < li.length
                · have hlt2 : (k : Int) < li.length := by omega
                  have HY := hide HX.out.drew
                  go_wp2_with fail
                  refine wp_region_held_drew (S := fun W' => Below ((poW w ⟨rs, li, sc, dr, de, .slice ra rs.length rc, .slice la li.length lc, .slice sa sc.length sc', .slice da dr.length dc⟩).alloc (.cells #[.string z0, .string z1] 27)).heap.size ((poW w ⟨rs, li, sc, dr, de, .slice ra rs.length rc, .slice la li.length lc, .slice sa sc.length sc', .slice da dr.length dc⟩).alloc (.cells #[.string z0, .string z1] 27)) W') (by kernel_rfl) HY.out (fun hHeld => ?_)
                  refine wpAnyH_take (i := 0) (v := .bool false) rfl (by kernel_rfl) (by kernel_rfl) (by kernel_rfl) (fun _ _ _ h => h) (Or.inl ⟨by kernel_rfl, fun _ _ => by go_simp⟩) hHeld ?_
                  simp only [Act.put, List.getElem_toArray, List.getElem_cons_zero, List.getElem_cons_succ, List.setIfInBounds_toArray, List.set_cons_zero, List.set_cons_succ]
                  refine wpAnyH_take (i := 1) (v := .bool false) rfl (by kernel_rfl) (by kernel_rfl) (by kernel_rfl) (fun _ _ _ h => h) (Or.inl ⟨by kernel_rfl, fun _ _ => by go_simp⟩) hHeld ?_
                  simp only [Act.put, List.getElem_toArray, List.getElem_cons_zero, List.getElem_cons_succ, List.setIfInBounds_toArray, List.set_cons_zero, List.set_cons_succ]
                  refine wpAnyH_take (i := 2) (v := undef) rfl (by kernel_rfl) (by kernel_rfl) (by kernel_rfl) (fun _ _ _ h => h) (Or.inr ⟨by kernel_rfl, rfl⟩) hHeld ?_
                  simp only [Act.put, List.getElem_toArray, List.getElem_cons_zero, List.getElem_cons_succ, List.setIfInBounds_toArray, List.set_cons_zero, List.set_cons_succ]
                  refine wpAnyH_take (i := 3) (v := .bool false) rfl (by kernel_rfl) (by kernel_rfl) (by kernel_rfl) (fun _ _ _ h => h) (Or.inl ⟨by kernel_rfl, fun _ _ => by go_simp⟩) hHeld ?_
                  simp only [Act.put, List.getElem_toArray, List.getElem_cons_zero, List.getElem_cons_succ, List.setIfInBounds_toArray, List.set_cons_zero, List.set_cons_succ]
                  refine wpAnyH_take (i := 4) (v := .bool false) rfl (by kernel_rfl) (by kernel_rfl) (by kernel_rfl) (fun _ _ _ h => h) (Or.inl ⟨by kernel_rfl, fun _ _ => by go_simp⟩) hHeld ?_
                  simp only [Act.put, List.getElem_toArray, List.getElem_cons_zero, List.getElem_cons_succ, List.setIfInBounds_toArray, List.set_cons_zero, List.set_cons_succ]
                  refine wpAnyH_take (i := 5) (v := undef) rfl (by kernel_rfl) (by kernel_rfl) (by kernel_rfl) (fun _ _ _ h => h) (Or.inr ⟨by kernel_rfl, rfl⟩) hHeld ?_
                  simp only [Act.put, List.getElem_toArray, List.getElem_cons_zero, List.getElem_cons_succ, List.setIfInBounds_toArray, List.set_cons_zero, List.set_cons_succ]
                  refine wpAnyH_take (i := 6) (v := undef) rfl (by kernel_rfl) (by kernel_rfl) (by kernel_rfl) (fun _ _ _ h => h) (Or.inr ⟨by kernel_rfl, rfl⟩) hHeld ?_
                  simp only [Act.put, List.getElem_toArray, List.getElem_cons_zero, List.getElem_cons_succ, List.setIfInBounds_toArray, List.set_cons_zero, List.set_cons_succ]
                  refine wpAnyH_take (i := 7) (v := .bool false) rfl (by kernel_rfl) (by kernel_rfl) (by kernel_rfl) (fun _ _ _ h => h) (Or.inl ⟨by kernel_rfl, fun _ _ => by go_simp⟩) hHeld ?_
                  simp only [Act.put, List.getElem_toArray, List.getElem_cons_zero, List.getElem_cons_succ, List.setIfInBounds_toArray, List.set_cons_zero, List.set_cons_succ]
                  refine wpAnyH_take (i := 8) (v := .bool false) rfl (by kernel_rfl) (by kernel_rfl) (by kernel_rfl) (fun _ _ _ h => h) (Or.inl ⟨by kernel_rfl, fun _ _ => by go_simp⟩) hHeld ?_
                  simp only [Act.put, List.getElem_toArray, List.getElem_cons_zero, List.getElem_cons_succ, List.setIfInBounds_toArray, List.set_cons_zero, List.set_cons_succ]
                  refine wpAnyH_take (i := 9) (v := undef) rfl (by kernel_rfl) (by kernel_rfl) (by kernel_rfl) (fun _ _ _ h => h) (Or.inr ⟨by kernel_rfl, rfl⟩) hHeld ?_
                  simp only [Act.put, List.getElem_toArray, List.getElem_cons_zero, List.getElem_cons_succ, List.setIfInBounds_toArray, List.set_cons_zero, List.set_cons_succ]
                  refine wpAnyH_take (i := 10) (v := undef) rfl (by kernel_rfl) (by kernel_rfl) (by kernel_rfl) (fun _ _ _ h => h) (Or.inr ⟨by kernel_rfl, rfl⟩) hHeld ?_
                  simp only [Act.put, List.getElem_toArray, List.getElem_cons_zero, List.getElem_cons_succ, List.setIfInBounds_toArray, List.set_cons_zero, List.set_cons_succ]
                  refine wpAnyH_take (i := 11) (v := undef) rfl (by kernel_rfl) (by kernel_rfl) (by kernel_rfl) (fun _ _ _ h => h) (Or.inr ⟨by kernel_rfl, rfl⟩) hHeld ?_
                  simp only [Act.put, List.getElem_toArray, List.getElem_cons_zero, List.getElem_cons_succ, List.setIfInBounds_toArray, List.set_cons_zero, List.set_cons_succ]
                  refine wpAnyH_take (i := 12) (v := undef) rfl (by kernel_rfl) (by kernel_rfl) (by kernel_rfl) (fun _ _ _ h => h) (Or.inr ⟨by kernel_rfl, rfl⟩) hHeld ?_
                  simp only [Act.put, List.getElem_toArray, List.getElem_cons_zero, List.getElem_cons_succ, List.setIfInBounds_toArray, List.set_cons_zero, List.set_cons_succ]
                  refine wpAnyH_take (i := 13) (v := undef) rfl (by kernel_rfl) (by kernel_rfl) (by kernel_rfl) (fun _ _ _ h => h) (Or.inr ⟨by kernel_rfl, rfl⟩) hHeld ?_
                  simp only [Act.put, List.getElem_toArray, List.getElem_cons_zero, List.getElem_cons_succ, List.setIfInBounds_toArray, List.set_cons_zero, List.set_cons_succ]
                  refine wpAnyH_take (i := 14) (v := undef) rfl (by kernel_rfl) (by kernel_rfl) (by kernel_rfl) (fun _ _ _ h => h) (Or.inr ⟨by kernel_rfl, rfl⟩) hHeld ?_
                  simp only [Act.put, List.getElem_toArray, List.getElem_cons_zero, List.getElem_cons_succ, List.setIfInBounds_toArray, List.set_cons_zero, List.set_cons_succ]
                  refine wpAnyH_take (i := 15) (v := undef) rfl (by kernel_rfl) (by kernel_rfl) (by kernel_rfl) (fun _ _ _ h => h) (Or.inr ⟨by kernel_rfl, rfl⟩) hHeld ?_
                  simp only [Act.put, List.getElem_toArray, List.getElem_cons_zero, List.getElem_cons_succ, List.setIfInBounds_toArray, List.set_cons_zero, List.set_cons_succ]
                  refine wpAnyH_take (i := 16) (v := undef) rfl (by kernel_rfl) (by kernel_rfl) (by kernel_rfl) (fun _ _ _ h => h) (Or.inr ⟨by kernel_rfl, rfl⟩) hHeld ?_
                  simp only [Act.put, List.getElem_toArray, List.getElem_cons_zero, List.getElem_cons_succ, List.setIfInBounds_toArray, List.set_cons_zero, List.set_cons_succ]
                  refine wpAnyH_take (i := 17) (v := .bool false) rfl (by kernel_rfl) (by kernel_rfl) (by kernel_rfl) (fun _ _ _ h => h) (Or.inl ⟨by kernel_rfl, fun _ _ => by go_simp⟩) hHeld ?_
                  simp only [Act.put, List.getElem_toArray, List.getElem_cons_zero, List.getElem_cons_succ, List.setIfInBounds_toArray, List.set_cons_zero, List.set_cons_succ]
                  refine wpAnyH_done (by kernel_rfl) ?_ _
                  have HZ := hide hHeld
                  clear hHeld
                  go_wp2
                  go_roundw
                  case rel => exact ⟨k + 1, by omega, by go_num, HZ⟩
                  case measure => simp [intOf]; omega
                · have hlt2 : ¬ (k : Int) < li.length := by omega
                  clear hlt
                  go_wp2_with fail
                  refine (HAL.out _).mono ?_
                  rintro e wz ⟨rfl, bz⟩
                  have BZ := hide (Below.trans BBX.out (bz.mono (BBX.out).size))
                  clear bz
                  go_wp2
                  go_ret
                  exact ⟨rfl, BZ.out⟩
            | true =>
              obtain ⟨rfl, hodd⟩ := hNE rfl
              simp only [Bool.or_eq_false_iff] at hodd
              obtain ⟨⟨⟨⟨k0, -⟩, k2⟩, k3⟩, -⟩ := hodd
              clear hNE
              go_enter Tryz.func3, Tryz.ntmps3
              go_wp2_with fail
              refine (HSM.out _ BB.out).mono ?_
              rintro e w1 ⟨rfl, b1⟩
              have B1 := hide (B0.out.trans (b1.mono B0.out.size))
              clear b1 c0 c1 c2 c3 c4 a0 a1
              obtain ⟨a0, a1, ab⟩ := HBA.out _ B1.out
              obtain ⟨c0, c1, c2, c3, c4, bb⟩ := HB.out _ ab
              have BB1 := hide bb
              clear ab bb
              go_wp2_with fail
              refine (HA.out _ BB1.out).mono ?_
              rintro e w2 ⟨rfl, b2⟩
              have B2 := hide (B1.out.trans (b2.mono B1.out.size))
              clear b2 c0 c1 c2 c3 c4 a0 a1
              obtain ⟨a0, a1, ab⟩ := HBA.out _ B2.out
              obtain ⟨c0, c1, c2, c3, c4, bb⟩ := HB.out _ ab
              have BB2 := hide bb
              clear ab bb
              go_wp2_with fail
              refine (HE.out _ BB2.out).mono ?_
              rintro e w3 ⟨rfl, b3⟩
              have B3 := hide (B2.out.trans (b3.mono B2.out.size))
              clear b3 c0 c1 c2 c3 c4 a0 a1
              obtain ⟨a0, a1, ab⟩ := HBA.out _ B3.out
              obtain ⟨c0, c1, c2, c3, c4, bb⟩ := HB.out _ ab
              have BB3 := hide bb
              clear ab bb
              go_wp2_with fail
              refine (HIS.out _ BB3.out).mono ?_
              rintro e w4 ⟨rfl, b4⟩
              have B4 := hide (B3.out.trans (b4.mono B3.out.size))
              clear b4 c0 c1 c2 c3 c4 a0 a1
              obtain ⟨a0, a1, ab⟩ := HBA.out _ B4.out
              obtain ⟨c0, c1, c2, c3, c4, bb⟩ := HB.out _ ab
              have BB4 := hide bb
              clear ab bb
              go_wp2_with fail
              refine (HOF.out _ BB4.out).mono ?_
              rintro e w5 ⟨rfl, b5⟩
              have B5 := hide (B4.out.trans (b5.mono B4.out.size))
              clear b5 c0 c1 c2 c3 c4 a0 a1
              obtain ⟨a0, a1, ab⟩ := HBA.out _ B5.out
              obtain ⟨c0, c1, c2, c3, c4, bb⟩ := HB.out _ ab
              have BB5 := hide bb
              clear ab bb
              go_wp2
              go_loopw [10] (fun i wr => ∃ k : Nat, k ≤ li.length ∧ i = .int .i64 k ∧ Hid (Below ((poW w ⟨rs, li, sc, dr, de, .slice ra rs.length rc, .slice la li.length lc, .slice sa sc.length sc', .slice da dr.length dc⟩).alloc (.cells #[.string z0, .string z1] 27)).heap.size ((poW w ⟨rs, li, sc, dr, de, .slice ra rs.length rc, .slice la li.length lc, .slice sa sc.length sc', .slice da dr.length dc⟩).alloc (.cells #[.string z0, .string z1] 27)) wr)) (fun i _ => li.length - (intOf i).toNat)
              case atStart => exact ⟨0, Nat.zero_le _, rfl, B5⟩
              case round =>
                obtain ⟨k, hk, rfl, HX⟩ := hrel
                clear a0 a1 c0 c1 c2 c3 c4
                obtain ⟨a0, a1, ab⟩ := HBA.out _ HX.out
                obtain ⟨c0, c1, c2, c3, c4, bb⟩ := HB.out _ ab
                have BBX := hide bb
                clear ab bb a0 a1 c0 c2 c3 c4
                by_cases hlt : k < li.length
                · have hlt2 : (k : Int) < li.length := by omega
                  have HY := hide HX.out.drew
                  go_wp2_with fail
                  refine wp_region_held_drew (S := fun W' => Below ((poW w ⟨rs, li, sc, dr, de, .slice ra rs.length rc, .slice la li.length lc, .slice sa sc.length sc', .slice da dr.length dc⟩).alloc (.cells #[.string z0, .string z1] 27)).heap.size ((poW w ⟨rs, li, sc, dr, de, .slice ra rs.length rc, .slice la li.length lc, .slice sa sc.length sc', .slice da dr.length dc⟩).alloc (.cells #[.string z0, .string z1] 27)) W') (by kernel_rfl) HY.out (fun hHeld => ?_)
                  refine wpAnyH_take (i := 0) (v := .bool false) rfl (by kernel_rfl) (by kernel_rfl) (by kernel_rfl) (fun _ _ _ h => h) (Or.inl ⟨by kernel_rfl, fun _ _ => by go_simp⟩) hHeld ?_
                  simp only [Act.put, List.getElem_toArray, List.getElem_cons_zero, List.getElem_cons_succ, List.setIfInBounds_toArray, List.set_cons_zero, List.set_cons_succ]
                  refine wpAnyH_take (i := 1) (v := .bool false) rfl (by kernel_rfl) (by kernel_rfl) (by kernel_rfl) (fun _ _ _ h => h) (Or.inl ⟨by kernel_rfl, fun _ _ => by go_simp⟩) hHeld ?_
                  simp only [Act.put, List.getElem_toArray, List.getElem_cons_zero, List.getElem_cons_succ, List.setIfInBounds_toArray, List.set_cons_zero, List.set_cons_succ]
                  refine wpAnyH_take (i := 2) (v := undef) rfl (by kernel_rfl) (by kernel_rfl) (by kernel_rfl) (fun _ _ _ h => h) (Or.inr ⟨by kernel_rfl, rfl⟩) hHeld ?_
                  simp only [Act.put, List.getElem_toArray, List.getElem_cons_zero, List.getElem_cons_succ, List.setIfInBounds_toArray, List.set_cons_zero, List.set_cons_succ]
                  refine wpAnyH_take (i := 3) (v := .bool false) rfl (by kernel_rfl) (by kernel_rfl) (by kernel_rfl) (fun _ _ _ h => h) (Or.inl ⟨by kernel_rfl, fun _ _ => by go_simp⟩) hHeld ?_
                  simp only [Act.put, List.getElem_toArray, List.getElem_cons_zero, List.getElem_cons_succ, List.setIfInBounds_toArray, List.set_cons_zero, List.set_cons_succ]
                  refine wpAnyH_take (i := 4) (v := .bool false) rfl (by kernel_rfl) (by kernel_rfl) (by kernel_rfl) (fun _ _ _ h => h) (Or.inl ⟨by kernel_rfl, fun _ _ => by go_simp⟩) hHeld ?_
                  simp only [Act.put, List.getElem_toArray, List.getElem_cons_zero, List.getElem_cons_succ, List.setIfInBounds_toArray, List.set_cons_zero, List.set_cons_succ]
                  refine wpAnyH_take (i := 5) (v := undef) rfl (by kernel_rfl) (by kernel_rfl) (by kernel_rfl) (fun _ _ _ h => h) (Or.inr ⟨by kernel_rfl, rfl⟩) hHeld ?_
                  simp only [Act.put, List.getElem_toArray, List.getElem_cons_zero, List.getElem_cons_succ, List.setIfInBounds_toArray, List.set_cons_zero, List.set_cons_succ]
                  refine wpAnyH_take (i := 6) (v := undef) rfl (by kernel_rfl) (by kernel_rfl) (by kernel_rfl) (fun _ _ _ h => h) (Or.inr ⟨by kernel_rfl, rfl⟩) hHeld ?_
                  simp only [Act.put, List.getElem_toArray, List.getElem_cons_zero, List.getElem_cons_succ, List.setIfInBounds_toArray, List.set_cons_zero, List.set_cons_succ]
                  refine wpAnyH_take (i := 7) (v := .bool false) rfl (by kernel_rfl) (by kernel_rfl) (by kernel_rfl) (fun _ _ _ h => h) (Or.inl ⟨by kernel_rfl, fun _ _ => by go_simp⟩) hHeld ?_
                  simp only [Act.put, List.getElem_toArray, List.getElem_cons_zero, List.getElem_cons_succ, List.setIfInBounds_toArray, List.set_cons_zero, List.set_cons_succ]
                  refine wpAnyH_take (i := 8) (v := .bool false) rfl (by kernel_rfl) (by kernel_rfl) (by kernel_rfl) (fun _ _ _ h => h) (Or.inl ⟨by kernel_rfl, fun _ _ => by go_simp⟩) hHeld ?_
                  simp only [Act.put, List.getElem_toArray, List.getElem_cons_zero, List.getElem_cons_succ, List.setIfInBounds_toArray, List.set_cons_zero, List.set_cons_succ]
                  refine wpAnyH_take (i := 9) (v := undef) rfl (by kernel_rfl) (by kernel_rfl) (by kernel_rfl) (fun _ _ _ h => h) (Or.inr ⟨by kernel_rfl, rfl⟩) hHeld ?_
                  simp only [Act.put, List.getElem_toArray, List.getElem_cons_zero, List.getElem_cons_succ, List.setIfInBounds_toArray, List.set_cons_zero, List.set_cons_succ]
                  refine wpAnyH_take (i := 10) (v := undef) rfl (by kernel_rfl) (by kernel_rfl) (by kernel_rfl) (fun _ _ _ h => h) (Or.inr ⟨by kernel_rfl, rfl⟩) hHeld ?_
                  simp only [Act.put, List.getElem_toArray, List.getElem_cons_zero, List.getElem_cons_succ, List.setIfInBounds_toArray, List.set_cons_zero, List.set_cons_succ]
                  refine wpAnyH_take (i := 11) (v := undef) rfl (by kernel_rfl) (by kernel_rfl) (by kernel_rfl) (fun _ _ _ h => h) (Or.inr ⟨by kernel_rfl, rfl⟩) hHeld ?_
                  simp only [Act.put, List.getElem_toArray, List.getElem_cons_zero, List.getElem_cons_succ, List.setIfInBounds_toArray, List.set_cons_zero, List.set_cons_succ]
                  refine wpAnyH_take (i := 12) (v := undef) rfl (by kernel_rfl) (by kernel_rfl) (by kernel_rfl) (fun _ _ _ h => h) (Or.inr ⟨by kernel_rfl, rfl⟩) hHeld ?_
                  simp only [Act.put, List.getElem_toArray, List.getElem_cons_zero, List.getElem_cons_succ, List.setIfInBounds_toArray, List.set_cons_zero, List.set_cons_succ]
                  refine wpAnyH_take (i := 13) (v := undef) rfl (by kernel_rfl) (by kernel_rfl) (by kernel_rfl) (fun _ _ _ h => h) (Or.inr ⟨by kernel_rfl, rfl⟩) hHeld ?_
                  simp only [Act.put, List.getElem_toArray, List.getElem_cons_zero, List.getElem_cons_succ, List.setIfInBounds_toArray, List.set_cons_zero, List.set_cons_succ]
                  refine wpAnyH_take (i := 14) (v := undef) rfl (by kernel_rfl) (by kernel_rfl) (by kernel_rfl) (fun _ _ _ h => h) (Or.inr ⟨by kernel_rfl, rfl⟩) hHeld ?_
                  simp only [Act.put, List.getElem_toArray, List.getElem_cons_zero, List.getElem_cons_succ, List.setIfInBounds_toArray, List.set_cons_zero, List.set_cons_succ]
                  refine wpAnyH_take (i := 15) (v := undef) rfl (by kernel_rfl) (by kernel_rfl) (by kernel_rfl) (fun _ _ _ h => h) (Or.inr ⟨by kernel_rfl, rfl⟩) hHeld ?_
                  simp only [Act.put, List.getElem_toArray, List.getElem_cons_zero, List.getElem_cons_succ, List.setIfInBounds_toArray, List.set_cons_zero, List.set_cons_succ]
                  refine wpAnyH_take (i := 16) (v := undef) rfl (by kernel_rfl) (by kernel_rfl) (by kernel_rfl) (fun _ _ _ h => h) (Or.inr ⟨by kernel_rfl, rfl⟩) hHeld ?_
                  simp only [Act.put, List.getElem_toArray, List.getElem_cons_zero, List.getElem_cons_succ, List.setIfInBounds_toArray, List.set_cons_zero, List.set_cons_succ]
                  refine wpAnyH_take (i := 17) (v := .bool false) rfl (by kernel_rfl) (by kernel_rfl) (by kernel_rfl) (fun _ _ _ h => h) (Or.inl ⟨by kernel_rfl, fun _ _ => by go_simp⟩) hHeld ?_
                  simp only [Act.put, List.getElem_toArray, List.getElem_cons_zero, List.getElem_cons_succ, List.setIfInBounds_toArray, List.set_cons_zero, List.set_cons_succ]
                  refine wpAnyH_done (by kernel_rfl) ?_ _
                  have HZ := hide hHeld
                  clear hHeld
                  go_wp2
                  go_roundw
                  case rel => exact ⟨k + 1, by omega, by go_num, HZ⟩
                  case measure => simp [intOf]; omega
                · have hlt2 : ¬ (k : Int) < li.length := by omega
                  clear hlt
                  go_wp2_with fail
                  refine (HAL.out _).mono ?_
                  rintro e wz ⟨rfl, bz⟩
                  have BZ := hide (Below.trans BBX.out (bz.mono (BBX.out).size))
                  clear bz
                  go_wp2
                  go_ret
                  exact ⟨rfl, BZ.out⟩
          | true =>
            have hE := hAE rfl
            subst hE
            have hbad := hON rfl
            obtain ⟨rfl, hodd⟩ := hNE rfl
            simp only [Bool.or_eq_false_iff] at hodd
            obtain ⟨⟨⟨⟨k0, -⟩, k2⟩, k3⟩, -⟩ := hodd
            clear hNE
            clear hAE hON
            by_cases hz2 : 2 ≤ z0.size
            · have gz2 : (2 : Int) ≤ z0.size := by omega
              have hno := not_on hbad hz2
              by_cases q0 : z0[0].toNat = 111
              · have q1 : z0[1].toNat ≠ 110 := fun h => hno ⟨q0, h⟩
                have e0 : ((z0[0].toNat : Int) == 111) = true := by rw [q0]; rfl
                have e1 : ((z0[1].toNat : Int) == 110) = false := by rw [beq_eq_false_iff_ne]; omega
                try clear hno
                try clear hbad
                try clear q0
                try clear q1
                cases B with
                | false =>
                  clear hJS eT
                  go_enter Tryz.func3, Tryz.ntmps3
                  go_wp2_with fail
                  refine (HSM.out _ BB.out).mono ?_
                  rintro e w1 ⟨rfl, b1⟩
                  have B1 := hide (B0.out.trans (b1.mono B0.out.size))
                  clear b1 c0 c1 c2 c3 c4 a0 a1
                  obtain ⟨a0, a1, ab⟩ := HBA.out _ B1.out
                  obtain ⟨c0, c1, c2, c3, c4, bb⟩ := HB.out _ ab
                  have BB1 := hide bb
                  clear ab bb
                  go_wp2_with fail
                  refine (HA.out _ BB1.out).mono ?_
                  rintro e w2 ⟨rfl, b2⟩
                  have B2 := hide (B1.out.trans (b2.mono B1.out.size))
                  clear b2 c0 c1 c2 c3 c4 a0 a1
                  obtain ⟨a0, a1, ab⟩ := HBA.out _ B2.out
                  obtain ⟨c0, c1, c2, c3, c4, bb⟩ := HB.out _ ab
                  have BB2 := hide bb
                  clear ab bb
                  go_wp2_with fail
                  refine (HE.out _ BB2.out).mono ?_
                  rintro e w3 ⟨rfl, b3⟩
                  have B3 := hide (B2.out.trans (b3.mono B2.out.size))
                  clear b3 c0 c1 c2 c3 c4 a0 a1
                  obtain ⟨a0, a1, ab⟩ := HBA.out _ B3.out
                  obtain ⟨c0, c1, c2, c3, c4, bb⟩ := HB.out _ ab
                  have BB3 := hide bb
                  clear ab bb
                  go_wp2_with fail
                  refine (HIS.out _ BB3.out).mono ?_
                  rintro e w4 ⟨rfl, b4⟩
                  have B4 := hide (B3.out.trans (b4.mono B3.out.size))
                  clear b4 c0 c1 c2 c3 c4 a0 a1
                  obtain ⟨a0, a1, ab⟩ := HBA.out _ B4.out
                  obtain ⟨c0, c1, c2, c3, c4, bb⟩ := HB.out _ ab
                  have BB4 := hide bb
                  clear ab bb
                  go_wp2_with fail
                  refine (HE.out _ BB4.out).mono ?_
                  rintro e w5 ⟨rfl, b5⟩
                  have B5 := hide (B4.out.trans (b5.mono B4.out.size))
                  clear b5 c0 c1 c2 c3 c4 a0 a1
                  obtain ⟨a0, a1, ab⟩ := HBA.out _ B5.out
                  obtain ⟨c0, c1, c2, c3, c4, bb⟩ := HB.out _ ab
                  have BB5 := hide bb
                  clear ab bb
                  go_wp2_with fail
                  refine (HOF.out _ BB5.out).mono ?_
                  rintro e w6 ⟨rfl, b6⟩
                  have B6 := hide (B5.out.trans (b6.mono B5.out.size))
                  clear b6 c0 c1 c2 c3 c4 a0 a1
                  obtain ⟨a0, a1, ab⟩ := HBA.out _ B6.out
                  obtain ⟨c0, c1, c2, c3, c4, bb⟩ := HB.out _ ab
                  have BB6 := hide bb
                  clear ab bb
                  go_wp2
                  go_loopw [10] (fun i wr => ∃ k : Nat, k ≤ li.length ∧ i = .int .i64 k ∧ Hid (Below ((poW w ⟨rs, li, sc, dr, de, .slice ra rs.length rc, .slice la li.length lc, .slice sa sc.length sc', .slice da dr.length dc⟩).alloc (.cells #[.string z0, .string z1] 27)).heap.size ((poW w ⟨rs, li, sc, dr, de, .slice ra rs.length rc, .slice la li.length lc, .slice sa sc.length sc', .slice da dr.length dc⟩).alloc (.cells #[.string z0, .string z1] 27)) wr)) (fun i _ => li.length - (intOf i).toNat)
                  case atStart => exact ⟨0, Nat.zero_le _, rfl, B6⟩
                  case round =>
                    obtain ⟨k, hk, rfl, HX⟩ := hrel
                    clear a0 a1 c0 c1 c2 c3 c4
                    obtain ⟨a0, a1, ab⟩ := HBA.out _ HX.out
                    obtain ⟨c0, c1, c2, c3, c4, bb⟩ := HB.out _ ab
                    have BBX := hide bb
                    clear ab bb a0 a1 c0 c2 c3 c4
                    by_cases hlt : k < li.length
                    · have hlt2 : (k : Int) < li.length := by omega
                      have HY := hide HX.out.drew
                      go_wp2_with fail
                      refine wp_region_held_drew (S := fun W' => Below ((poW w ⟨rs, li, sc, dr, de, .slice ra rs.length rc, .slice la li.length lc, .slice sa sc.length sc', .slice da dr.length dc⟩).alloc (.cells #[.string z0, .string z1] 27)).heap.size ((poW w ⟨rs, li, sc, dr, de, .slice ra rs.length rc, .slice la li.length lc, .slice sa sc.length sc', .slice da dr.length dc⟩).alloc (.cells #[.string z0, .string z1] 27)) W') (by kernel_rfl) HY.out (fun hHeld => ?_)
                      refine wpAnyH_take (i := 0) (v := .bool true) rfl (by kernel_rfl) (by kernel_rfl) (by kernel_rfl) (fun _ _ _ h => h) (Or.inl ⟨by kernel_rfl, fun _ _ => by go_simp⟩) hHeld ?_
                      simp only [Act.put, List.getElem_toArray, List.getElem_cons_zero, List.getElem_cons_succ, List.setIfInBounds_toArray, List.set_cons_zero, List.set_cons_succ]
                      refine wpAnyH_take (i := 1) (v := .bool true) rfl (by kernel_rfl) (by kernel_rfl) (by kernel_rfl) (fun _ _ _ h => h) (Or.inl ⟨by kernel_rfl, fun _ _ => by go_simp⟩) hHeld ?_
                      simp only [Act.put, List.getElem_toArray, List.getElem_cons_zero, List.getElem_cons_succ, List.setIfInBounds_toArray, List.set_cons_zero, List.set_cons_succ]
                      refine wpAnyH_take (i := 2) (v := .bool false) rfl (by kernel_rfl) (by kernel_rfl) (by kernel_rfl) (fun _ _ _ h => h) (Or.inl ⟨by kernel_rfl, fun _ _ => by go_simp⟩) hHeld ?_
                      simp only [Act.put, List.getElem_toArray, List.getElem_cons_zero, List.getElem_cons_succ, List.setIfInBounds_toArray, List.set_cons_zero, List.set_cons_succ]
                      refine wpAnyH_take (i := 3) (v := .bool false) rfl (by kernel_rfl) (by kernel_rfl) (by kernel_rfl) (fun _ _ _ h => h) (Or.inl ⟨by kernel_rfl, fun _ _ => by go_simp⟩) hHeld ?_
                      simp only [Act.put, List.getElem_toArray, List.getElem_cons_zero, List.getElem_cons_succ, List.setIfInBounds_toArray, List.set_cons_zero, List.set_cons_succ]
                      refine wpAnyH_take (i := 4) (v := .bool false) rfl (by kernel_rfl) (by kernel_rfl) (by kernel_rfl) (fun _ _ _ h => h) (Or.inl ⟨by kernel_rfl, fun _ _ => by go_simp⟩) hHeld ?_
                      simp only [Act.put, List.getElem_toArray, List.getElem_cons_zero, List.getElem_cons_succ, List.setIfInBounds_toArray, List.set_cons_zero, List.set_cons_succ]
                      refine wpAnyH_take (i := 5) (v := undef) rfl (by kernel_rfl) (by kernel_rfl) (by kernel_rfl) (fun _ _ _ h => h) (Or.inr ⟨by kernel_rfl, rfl⟩) hHeld ?_
                      simp only [Act.put, List.getElem_toArray, List.getElem_cons_zero, List.getElem_cons_succ, List.setIfInBounds_toArray, List.set_cons_zero, List.set_cons_succ]
                      refine wpAnyH_take (i := 6) (v := undef) rfl (by kernel_rfl) (by kernel_rfl) (by kernel_rfl) (fun _ _ _ h => h) (Or.inr ⟨by kernel_rfl, rfl⟩) hHeld ?_
                      simp only [Act.put, List.getElem_toArray, List.getElem_cons_zero, List.getElem_cons_succ, List.setIfInBounds_toArray, List.set_cons_zero, List.set_cons_succ]
                      refine wpAnyH_take (i := 7) (v := .bool false) rfl (by kernel_rfl) (by kernel_rfl) (by kernel_rfl) (fun _ _ _ h => h) (Or.inl ⟨by kernel_rfl, fun _ _ => by go_simp⟩) hHeld ?_
                      simp only [Act.put, List.getElem_toArray, List.getElem_cons_zero, List.getElem_cons_succ, List.setIfInBounds_toArray, List.set_cons_zero, List.set_cons_succ]
                      refine wpAnyH_take (i := 8) (v := .bool false) rfl (by kernel_rfl) (by kernel_rfl) (by kernel_rfl) (fun _ _ _ h => h) (Or.inl ⟨by kernel_rfl, fun _ _ => by go_simp⟩) hHeld ?_
                      simp only [Act.put, List.getElem_toArray, List.getElem_cons_zero, List.getElem_cons_succ, List.setIfInBounds_toArray, List.set_cons_zero, List.set_cons_succ]
                      refine wpAnyH_take (i := 9) (v := undef) rfl (by kernel_rfl) (by kernel_rfl) (by kernel_rfl) (fun _ _ _ h => h) (Or.inr ⟨by kernel_rfl, rfl⟩) hHeld ?_
                      simp only [Act.put, List.getElem_toArray, List.getElem_cons_zero, List.getElem_cons_succ, List.setIfInBounds_toArray, List.set_cons_zero, List.set_cons_succ]
                      refine wpAnyH_take (i := 10) (v := undef) rfl (by kernel_rfl) (by kernel_rfl) (by kernel_rfl) (fun _ _ _ h => h) (Or.inr ⟨by kernel_rfl, rfl⟩) hHeld ?_
                      simp only [Act.put, List.getElem_toArray, List.getElem_cons_zero, List.getElem_cons_succ, List.setIfInBounds_toArray, List.set_cons_zero, List.set_cons_succ]
                      refine wpAnyH_take (i := 11) (v := undef) rfl (by kernel_rfl) (by kernel_rfl) (by kernel_rfl) (fun _ _ _ h => h) (Or.inr ⟨by kernel_rfl, rfl⟩) hHeld ?_
                      simp only [Act.put, List.getElem_toArray, List.getElem_cons_zero, List.getElem_cons_succ, List.setIfInBounds_toArray, List.set_cons_zero, List.set_cons_succ]
                      refine wpAnyH_take (i := 12) (v := undef) rfl (by kernel_rfl) (by kernel_rfl) (by kernel_rfl) (fun _ _ _ h => h) (Or.inr ⟨by kernel_rfl, rfl⟩) hHeld ?_
                      simp only [Act.put, List.getElem_toArray, List.getElem_cons_zero, List.getElem_cons_succ, List.setIfInBounds_toArray, List.set_cons_zero, List.set_cons_succ]
                      refine wpAnyH_take (i := 13) (v := undef) rfl (by kernel_rfl) (by kernel_rfl) (by kernel_rfl) (fun _ _ _ h => h) (Or.inr ⟨by kernel_rfl, rfl⟩) hHeld ?_
                      simp only [Act.put, List.getElem_toArray, List.getElem_cons_zero, List.getElem_cons_succ, List.setIfInBounds_toArray, List.set_cons_zero, List.set_cons_succ]
                      refine wpAnyH_take (i := 14) (v := undef) rfl (by kernel_rfl) (by kernel_rfl) (by kernel_rfl) (fun _ _ _ h => h) (Or.inr ⟨by kernel_rfl, rfl⟩) hHeld ?_
                      simp only [Act.put, List.getElem_toArray, List.getElem_cons_zero, List.getElem_cons_succ, List.setIfInBounds_toArray, List.set_cons_zero, List.set_cons_succ]
                      refine wpAnyH_take (i := 15) (v := undef) rfl (by kernel_rfl) (by kernel_rfl) (by kernel_rfl) (fun _ _ _ h => h) (Or.inr ⟨by kernel_rfl, rfl⟩) hHeld ?_
                      simp only [Act.put, List.getElem_toArray, List.getElem_cons_zero, List.getElem_cons_succ, List.setIfInBounds_toArray, List.set_cons_zero, List.set_cons_succ]
                      refine wpAnyH_take (i := 16) (v := undef) rfl (by kernel_rfl) (by kernel_rfl) (by kernel_rfl) (fun _ _ _ h => h) (Or.inr ⟨by kernel_rfl, rfl⟩) hHeld ?_
                      simp only [Act.put, List.getElem_toArray, List.getElem_cons_zero, List.getElem_cons_succ, List.setIfInBounds_toArray, List.set_cons_zero, List.set_cons_succ]
                      refine wpAnyH_take (i := 17) (v := .bool false) rfl (by kernel_rfl) (by kernel_rfl) (by kernel_rfl) (fun _ _ _ h => h) (Or.inl ⟨by kernel_rfl, fun _ _ => by go_simp⟩) hHeld ?_
                      simp only [Act.put, List.getElem_toArray, List.getElem_cons_zero, List.getElem_cons_succ, List.setIfInBounds_toArray, List.set_cons_zero, List.set_cons_succ]
                      refine wpAnyH_done (by kernel_rfl) ?_ _
                      have HZ := hide hHeld
                      clear hHeld
                      go_wp2
                      go_roundw
                      case rel => exact ⟨k + 1, by omega, by go_num, HZ⟩
                      case measure => simp [intOf]; omega
                    · have hlt2 : ¬ (k : Int) < li.length := by omega
                      clear hlt
                      go_wp2_with fail
                      refine (HAL.out _).mono ?_
                      rintro e wz ⟨rfl, bz⟩
                      have BZ := hide (Below.trans BBX.out (bz.mono (BBX.out).size))
                      clear bz
                      go_wp2
                      go_ret
                      exact ⟨rfl, BZ.out⟩
                | true =>
                  cases hTj : (T == [106, 97, 118, 97, 115, 99, 114, 105, 112, 116]) with
                  | false =>
                    rw [hTj] at eT
                    clear hJS hTj
                    go_enter Tryz.func3, Tryz.ntmps3
                    go_wp2_with fail
                    refine (HSM.out _ BB.out).mono ?_
                    rintro e w1 ⟨rfl, b1⟩
                    have B1 := hide (B0.out.trans (b1.mono B0.out.size))
                    clear b1 c0 c1 c2 c3 c4 a0 a1
                    obtain ⟨a0, a1, ab⟩ := HBA.out _ B1.out
                    obtain ⟨c0, c1, c2, c3, c4, bb⟩ := HB.out _ ab
                    have BB1 := hide bb
                    clear ab bb
                    go_wp2_with fail
                    refine (HA.out _ BB1.out).mono ?_
                    rintro e w2 ⟨rfl, b2⟩
                    have B2 := hide (B1.out.trans (b2.mono B1.out.size))
                    clear b2 c0 c1 c2 c3 c4 a0 a1
                    obtain ⟨a0, a1, ab⟩ := HBA.out _ B2.out
                    obtain ⟨c0, c1, c2, c3, c4, bb⟩ := HB.out _ ab
                    have BB2 := hide bb
                    clear ab bb
                    go_wp2_with fail
                    refine (HE.out _ BB2.out).mono ?_
                    rintro e w3 ⟨rfl, b3⟩
                    have B3 := hide (B2.out.trans (b3.mono B2.out.size))
                    clear b3 c0 c1 c2 c3 c4 a0 a1
                    obtain ⟨a0, a1, ab⟩ := HBA.out _ B3.out
                    obtain ⟨c0, c1, c2, c3, c4, bb⟩ := HB.out _ ab
                    have BB3 := hide bb
                    clear ab bb
                    go_wp2_with fail
                    refine (HIS.out _ BB3.out).mono ?_
                    rintro e w4 ⟨rfl, b4⟩
                    have B4 := hide (B3.out.trans (b4.mono B3.out.size))
                    clear b4 c0 c1 c2 c3 c4 a0 a1
                    obtain ⟨a0, a1, ab⟩ := HBA.out _ B4.out
                    obtain ⟨c0, c1, c2, c3, c4, bb⟩ := HB.out _ ab
                    have BB4 := hide bb
                    clear ab bb
                    go_wp2_with fail
                    refine (HE.out _ BB4.out).mono ?_
                    rintro e w5 ⟨rfl, b5⟩
                    have B5 := hide (B4.out.trans (b5.mono B4.out.size))
                    clear b5 c0 c1 c2 c3 c4 a0 a1
                    obtain ⟨a0, a1, ab⟩ := HBA.out _ B5.out
                    obtain ⟨c0, c1, c2, c3, c4, bb⟩ := HB.out _ ab
                    have BB5 := hide bb
                    clear ab bb
                    go_wp2_with fail
                    refine (HOF.out _ BB5.out).mono ?_
                    rintro e w6 ⟨rfl, b6⟩
                    have B6 := hide (B5.out.trans (b6.mono B5.out.size))
                    clear b6 c0 c1 c2 c3 c4 a0 a1
                    obtain ⟨a0, a1, ab⟩ := HBA.out _ B6.out
                    obtain ⟨c0, c1, c2, c3, c4, bb⟩ := HB.out _ ab
                    have BB6 := hide bb
                    clear ab bb
                    go_wp2
                    go_loopw [10] (fun i wr => ∃ k : Nat, k ≤ li.length ∧ i = .int .i64 k ∧ Hid (Below ((poW w ⟨rs, li, sc, dr, de, .slice ra rs.length rc, .slice la li.length lc, .slice sa sc.length sc', .slice da dr.length dc⟩).alloc (.cells #[.string z0, .string z1] 27)).heap.size ((poW w ⟨rs, li, sc, dr, de, .slice ra rs.length rc, .slice la li.length lc, .slice sa sc.length sc', .slice da dr.length dc⟩).alloc (.cells #[.string z0, .string z1] 27)) wr)) (fun i _ => li.length - (intOf i).toNat)
                    case atStart => exact ⟨0, Nat.zero_le _, rfl, B6⟩
                    case round =>
                      obtain ⟨k, hk, rfl, HX⟩ := hrel
                      clear a0 a1 c0 c1 c2 c3 c4
                      obtain ⟨a0, a1, ab⟩ := HBA.out _ HX.out
                      obtain ⟨c0, c1, c2, c3, c4, bb⟩ := HB.out _ ab
                      have BBX := hide bb
                      clear ab bb a0 a1 c0 c2 c3 c4
                      by_cases hlt : k < li.length
                      · have hlt2 : (k : Int) < li.length := by omega
                        have HY := hide HX.out.drew
                        go_wp2_with fail
                        refine wp_region_held_drew (S := fun W' => Below ((poW w ⟨rs, li, sc, dr, de, .slice ra rs.length rc, .slice la li.length lc, .slice sa sc.length sc', .slice da dr.length dc⟩).alloc (.cells #[.string z0, .string z1] 27)).heap.size ((poW w ⟨rs, li, sc, dr, de, .slice ra rs.length rc, .slice la li.length lc, .slice sa sc.length sc', .slice da dr.length dc⟩).alloc (.cells #[.string z0, .string z1] 27)) W') (by kernel_rfl) HY.out (fun hHeld => ?_)
                        refine wpAnyH_take (i := 0) (v := .bool true) rfl (by kernel_rfl) (by kernel_rfl) (by kernel_rfl) (fun _ _ _ h => h) (Or.inl ⟨by kernel_rfl, fun _ _ => by go_simp⟩) hHeld ?_
                        simp only [Act.put, List.getElem_toArray, List.getElem_cons_zero, List.getElem_cons_succ, List.setIfInBounds_toArray, List.set_cons_zero, List.set_cons_succ]
                        refine wpAnyH_take (i := 1) (v := .bool true) rfl (by kernel_rfl) (by kernel_rfl) (by kernel_rfl) (fun _ _ _ h => h) (Or.inl ⟨by kernel_rfl, fun _ _ => by go_simp⟩) hHeld ?_
                        simp only [Act.put, List.getElem_toArray, List.getElem_cons_zero, List.getElem_cons_succ, List.setIfInBounds_toArray, List.set_cons_zero, List.set_cons_succ]
                        refine wpAnyH_take (i := 2) (v := .bool true) rfl (by kernel_rfl) (by kernel_rfl) (by kernel_rfl) (fun _ _ _ h => h) (Or.inl ⟨by kernel_rfl, fun _ _ => by go_simp⟩) hHeld ?_
                        simp only [Act.put, List.getElem_toArray, List.getElem_cons_zero, List.getElem_cons_succ, List.setIfInBounds_toArray, List.set_cons_zero, List.set_cons_succ]
                        refine wpAnyH_take (i := 3) (v := .bool true) rfl (by kernel_rfl) (by kernel_rfl) (by kernel_rfl) (fun _ _ _ h => h) (Or.inl ⟨by kernel_rfl, fun _ _ => by go_simp⟩) hHeld ?_
                        simp only [Act.put, List.getElem_toArray, List.getElem_cons_zero, List.getElem_cons_succ, List.setIfInBounds_toArray, List.set_cons_zero, List.set_cons_succ]
                        refine wpAnyH_take (i := 4) (v := .bool true) rfl (by kernel_rfl) (by kernel_rfl) (by kernel_rfl) (fun _ _ _ h => h) (Or.inl ⟨by kernel_rfl, fun _ _ => by go_simp⟩) hHeld ?_
                        simp only [Act.put, List.getElem_toArray, List.getElem_cons_zero, List.getElem_cons_succ, List.setIfInBounds_toArray, List.set_cons_zero, List.set_cons_succ]
                        refine wpAnyH_take (i := 5) (v := ?_) rfl (by kernel_rfl) (by kernel_rfl) (by kernel_rfl) (fun _ _ _ h => h) (Or.inl ⟨by kernel_rfl, ?_⟩) hHeld ?_
                        rotate_left
                        · intro W hSw
                          clear hSw
                          go_simp <;> with_reducible rfl
                        simp only [Act.put, List.getElem_toArray, List.getElem_cons_zero, List.getElem_cons_succ, List.setIfInBounds_toArray, List.set_cons_zero, List.set_cons_succ]
                        refine wpAnyH_take (i := 6) (v := .bool false) rfl (by kernel_rfl) (by kernel_rfl) (by kernel_rfl) (fun _ _ _ h => h) (Or.inl ⟨by kernel_rfl, fun _ _ => by go_simp⟩) hHeld ?_
                        simp only [Act.put, List.getElem_toArray, List.getElem_cons_zero, List.getElem_cons_succ, List.setIfInBounds_toArray, List.set_cons_zero, List.set_cons_succ]
                        refine wpAnyH_take (i := 7) (v := .bool false) rfl (by kernel_rfl) (by kernel_rfl) (by kernel_rfl) (fun _ _ _ h => h) (Or.inl ⟨by kernel_rfl, fun _ _ => by go_simp⟩) hHeld ?_
                        simp only [Act.put, List.getElem_toArray, List.getElem_cons_zero, List.getElem_cons_succ, List.setIfInBounds_toArray, List.set_cons_zero, List.set_cons_succ]
                        refine wpAnyH_take (i := 8) (v := .bool false) rfl (by kernel_rfl) (by kernel_rfl) (by kernel_rfl) (fun _ _ _ h => h) (Or.inl ⟨by kernel_rfl, fun _ _ => by go_simp⟩) hHeld ?_
                        simp only [Act.put, List.getElem_toArray, List.getElem_cons_zero, List.getElem_cons_succ, List.setIfInBounds_toArray, List.set_cons_zero, List.set_cons_succ]
                        refine wpAnyH_take (i := 9) (v := undef) rfl (by kernel_rfl) (by kernel_rfl) (by kernel_rfl) (fun _ _ _ h => h) (Or.inr ⟨by kernel_rfl, rfl⟩) hHeld ?_
                        simp only [Act.put, List.getElem_toArray, List.getElem_cons_zero, List.getElem_cons_succ, List.setIfInBounds_toArray, List.set_cons_zero, List.set_cons_succ]
                        refine wpAnyH_take (i := 10) (v := undef) rfl (by kernel_rfl) (by kernel_rfl) (by kernel_rfl) (fun _ _ _ h => h) (Or.inr ⟨by kernel_rfl, rfl⟩) hHeld ?_
                        simp only [Act.put, List.getElem_toArray, List.getElem_cons_zero, List.getElem_cons_succ, List.setIfInBounds_toArray, List.set_cons_zero, List.set_cons_succ]
                        refine wpAnyH_take (i := 11) (v := undef) rfl (by kernel_rfl) (by kernel_rfl) (by kernel_rfl) (fun _ _ _ h => h) (Or.inr ⟨by kernel_rfl, rfl⟩) hHeld ?_
                        simp only [Act.put, List.getElem_toArray, List.getElem_cons_zero, List.getElem_cons_succ, List.setIfInBounds_toArray, List.set_cons_zero, List.set_cons_succ]
                        refine wpAnyH_take (i := 12) (v := undef) rfl (by kernel_rfl) (by kernel_rfl) (by kernel_rfl) (fun _ _ _ h => h) (Or.inr ⟨by kernel_rfl, rfl⟩) hHeld ?_
                        simp only [Act.put, List.getElem_toArray, List.getElem_cons_zero, List.getElem_cons_succ, List.setIfInBounds_toArray, List.set_cons_zero, List.set_cons_succ]
                        refine wpAnyH_take (i := 13) (v := undef) rfl (by kernel_rfl) (by kernel_rfl) (by kernel_rfl) (fun _ _ _ h => h) (Or.inr ⟨by kernel_rfl, rfl⟩) hHeld ?_
                        simp only [Act.put, List.getElem_toArray, List.getElem_cons_zero, List.getElem_cons_succ, List.setIfInBounds_toArray, List.set_cons_zero, List.set_cons_succ]
                        refine wpAnyH_take (i := 14) (v := undef) rfl (by kernel_rfl) (by kernel_rfl) (by kernel_rfl) (fun _ _ _ h => h) (Or.inr ⟨by kernel_rfl, rfl⟩) hHeld ?_
                        simp only [Act.put, List.getElem_toArray, List.getElem_cons_zero, List.getElem_cons_succ, List.setIfInBounds_toArray, List.set_cons_zero, List.set_cons_succ]
                        refine wpAnyH_take (i := 15) (v := undef) rfl (by kernel_rfl) (by kernel_rfl) (by kernel_rfl) (fun _ _ _ h => h) (Or.inr ⟨by kernel_rfl, rfl⟩) hHeld ?_
                        simp only [Act.put, List.getElem_toArray, List.getElem_cons_zero, List.getElem_cons_succ, List.setIfInBounds_toArray, List.set_cons_zero, List.set_cons_succ]
                        refine wpAnyH_take (i := 16) (v := undef) rfl (by kernel_rfl) (by kernel_rfl) (by kernel_rfl) (fun _ _ _ h => h) (Or.inr ⟨by kernel_rfl, rfl⟩) hHeld ?_
                        simp only [Act.put, List.getElem_toArray, List.getElem_cons_zero, List.getElem_cons_succ, List.setIfInBounds_toArray, List.set_cons_zero, List.set_cons_succ]
                        refine wpAnyH_take (i := 17) (v := .bool false) rfl (by kernel_rfl) (by kernel_rfl) (by kernel_rfl) (fun _ _ _ h => h) (Or.inl ⟨by kernel_rfl, fun _ _ => by go_simp⟩) hHeld ?_
                        simp only [Act.put, List.getElem_toArray, List.getElem_cons_zero, List.getElem_cons_succ, List.setIfInBounds_toArray, List.set_cons_zero, List.set_cons_succ]
                        refine wpAnyH_done (by kernel_rfl) ?_ _
                        have HZ := hide hHeld
                        clear hHeld
                        go_wp2
                        go_roundw
                        case rel => exact ⟨k + 1, by omega, by go_num, HZ⟩
                        case measure => simp [intOf]; omega
                      · have hlt2 : ¬ (k : Int) < li.length := by omega
                        clear hlt
                        go_wp2_with fail
                        refine (HAL.out _).mono ?_
                        rintro e wz ⟨rfl, bz⟩
                        have BZ := hide (Below.trans BBX.out (bz.mono (BBX.out).size))
                        clear bz
                        go_wp2
                        go_ret
                        exact ⟨rfl, BZ.out⟩
                  | true =>
                    rw [hTj] at eT
                    have HJ := hide (hJS rfl rfl (beq_iff_eq.1 hTj))
                    clear hJS hTj
                    go_enter Tryz.func3, Tryz.ntmps3
                    go_wp2_with fail
                    refine (HSM.out _ BB.out).mono ?_
                    rintro e w1 ⟨rfl, b1⟩
                    have B1 := hide (B0.out.trans (b1.mono B0.out.size))
                    clear b1 c0 c1 c2 c3 c4 a0 a1
                    obtain ⟨a0, a1, ab⟩ := HBA.out _ B1.out
                    obtain ⟨c0, c1, c2, c3, c4, bb⟩ := HB.out _ ab
                    have BB1 := hide bb
                    clear ab bb
                    go_wp2_with fail
                    refine (HA.out _ BB1.out).mono ?_
                    rintro e w2 ⟨rfl, b2⟩
                    have B2 := hide (B1.out.trans (b2.mono B1.out.size))
                    clear b2 c0 c1 c2 c3 c4 a0 a1
                    obtain ⟨a0, a1, ab⟩ := HBA.out _ B2.out
                    obtain ⟨c0, c1, c2, c3, c4, bb⟩ := HB.out _ ab
                    have BB2 := hide bb
                    clear ab bb
                    go_wp2_with fail
                    refine (HE.out _ BB2.out).mono ?_
                    rintro e w3 ⟨rfl, b3⟩
                    have B3 := hide (B2.out.trans (b3.mono B2.out.size))
                    clear b3 c0 c1 c2 c3 c4 a0 a1
                    obtain ⟨a0, a1, ab⟩ := HBA.out _ B3.out
                    obtain ⟨c0, c1, c2, c3, c4, bb⟩ := HB.out _ ab
                    have BB3 := hide bb
                    clear ab bb
                    go_wp2_with fail
                    refine (HIS.out _ BB3.out).mono ?_
                    rintro e w4 ⟨rfl, b4⟩
                    have B4 := hide (B3.out.trans (b4.mono B3.out.size))
                    clear b4 c0 c1 c2 c3 c4 a0 a1
                    obtain ⟨a0, a1, ab⟩ := HBA.out _ B4.out
                    obtain ⟨c0, c1, c2, c3, c4, bb⟩ := HB.out _ ab
                    have BB4 := hide bb
                    clear ab bb
                    go_wp2_with fail
                    refine (HE.out _ BB4.out).mono ?_
                    rintro e w5 ⟨rfl, b5⟩
                    have B5 := hide (B4.out.trans (b5.mono B4.out.size))
                    clear b5 c0 c1 c2 c3 c4 a0 a1
                    obtain ⟨a0, a1, ab⟩ := HBA.out _ B5.out
                    obtain ⟨c0, c1, c2, c3, c4, bb⟩ := HB.out _ ab
                    have BB5 := hide bb
                    clear ab bb
                    go_wp2_with fail
                    refine (HOF.out _ BB5.out).mono ?_
                    rintro e w6 ⟨rfl, b6⟩
                    have B6 := hide (B5.out.trans (b6.mono B5.out.size))
                    clear b6 c0 c1 c2 c3 c4 a0 a1
                    obtain ⟨a0, a1, ab⟩ := HBA.out _ B6.out
                    obtain ⟨c0, c1, c2, c3, c4, bb⟩ := HB.out _ ab
                    have BB6 := hide bb
                    clear ab bb
                    go_wp2
                    go_loopw [10] (fun i wr => ∃ k : Nat, k ≤ li.length ∧ i = .int .i64 k ∧ Hid (Below ((poW w ⟨rs, li, sc, dr, de, .slice ra rs.length rc, .slice la li.length lc, .slice sa sc.length sc', .slice da dr.length dc⟩).alloc (.cells #[.string z0, .string z1] 27)).heap.size ((poW w ⟨rs, li, sc, dr, de, .slice ra rs.length rc, .slice la li.length lc, .slice sa sc.length sc', .slice da dr.length dc⟩).alloc (.cells #[.string z0, .string z1] 27)) wr)) (fun i _ => li.length - (intOf i).toNat)
                    case atStart => exact ⟨0, Nat.zero_le _, rfl, B6⟩
                    case round =>
                      obtain ⟨k, hk, rfl, HX⟩ := hrel
                      clear a0 a1 c0 c1 c2 c3 c4
                      obtain ⟨a0, a1, ab⟩ := HBA.out _ HX.out
                      obtain ⟨c0, c1, c2, c3, c4, bb⟩ := HB.out _ ab
                      have BBX := hide bb
                      clear ab bb a0 a1 c0 c2 c3 c4
                      by_cases hlt : k < li.length
                      · have hlt2 : (k : Int) < li.length := by omega
                        have HY := hide HX.out.drew
                        have en := among_at hlt HJ.out
                        obtain ⟨bl, ol, rfl, hd⟩ := HGL.out.at_ k _ (List.getElem?_eq_getElem hlt)
                        have HD := hide hd
                        clear hd
                        generalize (⟨(li[k]).toArray⟩ : ByteArray) = y at *
                        go_wp2_with fail
                        refine wp_region_held_drew (S := fun W' => Below ((poW w ⟨rs, li, sc, dr, de, .slice ra rs.length rc, .slice (some ⟨bl, ol, none⟩) li.length lc, .slice sa sc.length sc', .slice da dr.length dc⟩).alloc (.cells #[.string z0, .string z1] 27)).heap.size ((poW w ⟨rs, li, sc, dr, de, .slice ra rs.length rc, .slice (some ⟨bl, ol, none⟩) li.length lc, .slice sa sc.length sc', .slice da dr.length dc⟩).alloc (.cells #[.string z0, .string z1] 27)) W') (by kernel_rfl) HY.out (fun hHeld => ?_)
                        refine wpAnyH_take (i := 0) (v := .bool true) rfl (by kernel_rfl) (by kernel_rfl) (by kernel_rfl) (fun _ _ _ h => h) (Or.inl ⟨by kernel_rfl, fun _ _ => by go_simp⟩) hHeld ?_
                        simp only [Act.put, List.getElem_toArray, List.getElem_cons_zero, List.getElem_cons_succ, List.setIfInBounds_toArray, List.set_cons_zero, List.set_cons_succ]
                        refine wpAnyH_take (i := 1) (v := .bool true) rfl (by kernel_rfl) (by kernel_rfl) (by kernel_rfl) (fun _ _ _ h => h) (Or.inl ⟨by kernel_rfl, fun _ _ => by go_simp⟩) hHeld ?_
                        simp only [Act.put, List.getElem_toArray, List.getElem_cons_zero, List.getElem_cons_succ, List.setIfInBounds_toArray, List.set_cons_zero, List.set_cons_succ]
                        refine wpAnyH_take (i := 2) (v := .bool true) rfl (by kernel_rfl) (by kernel_rfl) (by kernel_rfl) (fun _ _ _ h => h) (Or.inl ⟨by kernel_rfl, fun _ _ => by go_simp⟩) hHeld ?_
                        simp only [Act.put, List.getElem_toArray, List.getElem_cons_zero, List.getElem_cons_succ, List.setIfInBounds_toArray, List.set_cons_zero, List.set_cons_succ]
                        refine wpAnyH_take (i := 3) (v := .bool true) rfl (by kernel_rfl) (by kernel_rfl) (by kernel_rfl) (fun _ _ _ h => h) (Or.inl ⟨by kernel_rfl, fun _ _ => by go_simp⟩) hHeld ?_
                        simp only [Act.put, List.getElem_toArray, List.getElem_cons_zero, List.getElem_cons_succ, List.setIfInBounds_toArray, List.set_cons_zero, List.set_cons_succ]
                        refine wpAnyH_take (i := 4) (v := .bool true) rfl (by kernel_rfl) (by kernel_rfl) (by kernel_rfl) (fun _ _ _ h => h) (Or.inl ⟨by kernel_rfl, fun _ _ => by go_simp⟩) hHeld ?_
                        simp only [Act.put, List.getElem_toArray, List.getElem_cons_zero, List.getElem_cons_succ, List.setIfInBounds_toArray, List.set_cons_zero, List.set_cons_succ]
                        refine wpAnyH_take (i := 5) (v := ?_) rfl (by kernel_rfl) (by kernel_rfl) (by kernel_rfl) (fun _ _ _ h => h) (Or.inl ⟨by kernel_rfl, ?_⟩) hHeld ?_
                        rotate_left
                        · intro W hSw
                          clear hSw
                          go_simp <;> with_reducible rfl
                        simp only [Act.put, List.getElem_toArray, List.getElem_cons_zero, List.getElem_cons_succ, List.setIfInBounds_toArray, List.set_cons_zero, List.set_cons_succ]
                        refine wpAnyH_take (i := 6) (v := .bool true) rfl (by kernel_rfl) (by kernel_rfl) (by kernel_rfl) (fun _ _ _ h => h) (Or.inl ⟨by kernel_rfl, fun _ _ => by go_simp⟩) hHeld ?_
                        simp only [Act.put, List.getElem_toArray, List.getElem_cons_zero, List.getElem_cons_succ, List.setIfInBounds_toArray, List.set_cons_zero, List.set_cons_succ]
                        refine wpAnyH_take (i := 7) (v := .bool true) rfl (by kernel_rfl) (by kernel_rfl) (by kernel_rfl) (fun _ _ _ h => h) (Or.inl ⟨by kernel_rfl, fun _ _ => by go_simp⟩) hHeld ?_
                        simp only [Act.put, List.getElem_toArray, List.getElem_cons_zero, List.getElem_cons_succ, List.setIfInBounds_toArray, List.set_cons_zero, List.set_cons_succ]
                        refine wpAnyH_take (i := 8) (v := .bool true) rfl (by kernel_rfl) (by kernel_rfl) (by kernel_rfl) (fun _ _ _ h => h) (Or.inl ⟨by kernel_rfl, fun _ _ => by go_simp⟩) hHeld ?_
                        simp only [Act.put, List.getElem_toArray, List.getElem_cons_zero, List.getElem_cons_succ, List.setIfInBounds_toArray, List.set_cons_zero, List.set_cons_succ]
                        refine wpAnyH_take (i := 9) (v := ?_) rfl (by kernel_rfl) (by kernel_rfl) (by kernel_rfl) (fun _ _ _ h => h) (Or.inl ⟨by kernel_rfl, ?_⟩) hHeld ?_
                        rotate_left
                        · intro W hSw
                          clear hSw
                          go_simp <;> with_reducible rfl
                        simp only [Act.put, List.getElem_toArray, List.getElem_cons_zero, List.getElem_cons_succ, List.setIfInBounds_toArray, List.set_cons_zero, List.set_cons_succ]
                        refine wpAnyH_take (i := 10) (v := ?_) rfl (by kernel_rfl) (by kernel_rfl) (by kernel_rfl) (fun _ _ _ h => h) (Or.inl ⟨by kernel_rfl, ?_⟩) hHeld ?_
                        rotate_left
                        · intro W hSw
                          have c1 := (HB.out _ (HBA.out _ hSw).2.2).2.1
                          clear hSw
                          go_simp <;> with_reducible rfl
                        simp only [Act.put, List.getElem_toArray, List.getElem_cons_zero, List.getElem_cons_succ, List.setIfInBounds_toArray, List.set_cons_zero, List.set_cons_succ]
                        refine wpAnyH_take (i := 11) (v := ?_) rfl (by kernel_rfl) (by kernel_rfl) (by kernel_rfl) (fun _ _ _ h => h) (Or.inl ⟨by kernel_rfl, ?_⟩) hHeld ?_
                        rotate_left
                        · intro W hSw
                          clear hSw
                          go_simp <;> with_reducible rfl
                        simp only [Act.put, List.getElem_toArray, List.getElem_cons_zero, List.getElem_cons_succ, List.setIfInBounds_toArray, List.set_cons_zero, List.set_cons_succ]
                        refine wpAnyH_take (i := 12) (v := ?_) rfl (by kernel_rfl) (by kernel_rfl) (by kernel_rfl) (fun _ _ _ h => h) (Or.inl ⟨by kernel_rfl, ?_⟩) hHeld ?_
                        rotate_left
                        · intro W hSw
                          clear hSw
                          go_simp <;> with_reducible rfl
                        simp only [Act.put, List.getElem_toArray, List.getElem_cons_zero, List.getElem_cons_succ, List.setIfInBounds_toArray, List.set_cons_zero, List.set_cons_succ]
                        refine wpAnyH_take (i := 13) (v := ?_) rfl (by kernel_rfl) (by kernel_rfl) (by kernel_rfl) (fun _ _ _ h => h) (Or.inl ⟨by kernel_rfl, ?_⟩) hHeld ?_
                        rotate_left
                        · intro W hSw
                          have d1 := HD.out _ (HB.out _ (HBA.out _ hSw).2.2).2.2.2.2.2
                          clear hSw
                          go_simp <;> with_reducible rfl
                        simp only [Act.put, List.getElem_toArray, List.getElem_cons_zero, List.getElem_cons_succ, List.setIfInBounds_toArray, List.set_cons_zero, List.set_cons_succ]
                        refine wpAnyH_take (i := 14) (v := ?_) rfl (by kernel_rfl) (by kernel_rfl) (by kernel_rfl) (fun _ _ _ h => h) (Or.inl ⟨by kernel_rfl, ?_⟩) hHeld ?_
                        rotate_left
                        · intro W hSw
                          clear hSw
                          go_simp <;> with_reducible rfl
                        simp only [Act.put, List.getElem_toArray, List.getElem_cons_zero, List.getElem_cons_succ, List.setIfInBounds_toArray, List.set_cons_zero, List.set_cons_succ]
                        refine wpAnyH_take (i := 15) (v := ?_) rfl (by kernel_rfl) (by kernel_rfl) (by kernel_rfl) (fun _ _ _ h => h) (Or.inl ⟨by kernel_rfl, ?_⟩) hHeld ?_
                        rotate_left
                        · intro W hSw
                          have a0 := (HBA.out _ hSw).1
                          clear hSw
                          go_simp <;> with_reducible rfl
                        simp only [Act.put, List.getElem_toArray, List.getElem_cons_zero, List.getElem_cons_succ, List.setIfInBounds_toArray, List.set_cons_zero, List.set_cons_succ]
                        refine wpAnyH_take (i := 16) (v := .bool false) rfl (by kernel_rfl) (by kernel_rfl) (by kernel_rfl) (fun _ _ _ h => h) (Or.inl ⟨by kernel_rfl, fun _ _ => by go_simp⟩) hHeld ?_
                        simp only [Act.put, List.getElem_toArray, List.getElem_cons_zero, List.getElem_cons_succ, List.setIfInBounds_toArray, List.set_cons_zero, List.set_cons_succ]
                        refine wpAnyH_take (i := 17) (v := .bool false) rfl (by kernel_rfl) (by kernel_rfl) (by kernel_rfl) (fun _ _ _ h => h) (Or.inl ⟨by kernel_rfl, fun _ _ => by go_simp⟩) hHeld ?_
                        simp only [Act.put, List.getElem_toArray, List.getElem_cons_zero, List.getElem_cons_succ, List.setIfInBounds_toArray, List.set_cons_zero, List.set_cons_succ]
                        refine wpAnyH_done (by kernel_rfl) ?_ _
                        have HZ := hide hHeld
                        clear hHeld
                        go_wp2
                        go_roundw
                        case rel => exact ⟨k + 1, by omega, by go_num, HZ⟩
                        case measure => simp [intOf]; omega
                      · have hlt2 : ¬ (k : Int) < li.length := by omega
                        clear hlt
                        go_wp2_with fail
                        refine (HAL.out _).mono ?_
                        rintro e wz ⟨rfl, bz⟩
                        have BZ := hide (Below.trans BBX.out (bz.mono (BBX.out).size))
                        clear bz
                        go_wp2
                        go_ret
                        exact ⟨rfl, BZ.out⟩
              · have e0 : ((z0[0].toNat : Int) == 111) = false := by rw [beq_eq_false_iff_ne]; omega
                try clear hno
                try clear hbad
                try clear q0
                try clear q1
                cases B with
                | false =>
                  clear hJS eT
                  go_enter Tryz.func3, Tryz.ntmps3
                  go_wp2_with fail
                  refine (HSM.out _ BB.out).mono ?_
                  rintro e w1 ⟨rfl, b1⟩
                  have B1 := hide (B0.out.trans (b1.mono B0.out.size))
                  clear b1 c0 c1 c2 c3 c4 a0 a1
                  obtain ⟨a0, a1, ab⟩ := HBA.out _ B1.out
                  obtain ⟨c0, c1, c2, c3, c4, bb⟩ := HB.out _ ab
                  have BB1 := hide bb
                  clear ab bb
                  go_wp2_with fail
                  refine (HA.out _ BB1.out).mono ?_
                  rintro e w2 ⟨rfl, b2⟩
                  have B2 := hide (B1.out.trans (b2.mono B1.out.size))
                  clear b2 c0 c1 c2 c3 c4 a0 a1
                  obtain ⟨a0, a1, ab⟩ := HBA.out _ B2.out
                  obtain ⟨c0, c1, c2, c3, c4, bb⟩ := HB.out _ ab
                  have BB2 := hide bb
                  clear ab bb
                  go_wp2_with fail
                  refine (HE.out _ BB2.out).mono ?_
                  rintro e w3 ⟨rfl, b3⟩
                  have B3 := hide (B2.out.trans (b3.mono B2.out.size))
                  clear b3 c0 c1 c2 c3 c4 a0 a1
                  obtain ⟨a0, a1, ab⟩ := HBA.out _ B3.out
                  obtain ⟨c0, c1, c2, c3, c4, bb⟩ := HB.out _ ab
                  have BB3 := hide bb
                  clear ab bb
                  go_wp2_with fail
                  refine (HIS.out _ BB3.out).mono ?_
                  rintro e w4 ⟨rfl, b4⟩
                  have B4 := hide (B3.out.trans (b4.mono B3.out.size))
                  clear b4 c0 c1 c2 c3 c4 a0 a1
                  obtain ⟨a0, a1, ab⟩ := HBA.out _ B4.out
                  obtain ⟨c0, c1, c2, c3, c4, bb⟩ := HB.out _ ab
                  have BB4 := hide bb
                  clear ab bb
                  go_wp2_with fail
                  refine (HE.out _ BB4.out).mono ?_
                  rintro e w5 ⟨rfl, b5⟩
                  have B5 := hide (B4.out.trans (b5.mono B4.out.size))
                  clear b5 c0 c1 c2 c3 c4 a0 a1
                  obtain ⟨a0, a1, ab⟩ := HBA.out _ B5.out
                  obtain ⟨c0, c1, c2, c3, c4, bb⟩ := HB.out _ ab
                  have BB5 := hide bb
                  clear ab bb
                  go_wp2_with fail
                  refine (HOF.out _ BB5.out).mono ?_
                  rintro e w6 ⟨rfl, b6⟩
                  have B6 := hide (B5.out.trans (b6.mono B5.out.size))
                  clear b6 c0 c1 c2 c3 c4 a0 a1
                  obtain ⟨a0, a1, ab⟩ := HBA.out _ B6.out
                  obtain ⟨c0, c1, c2, c3, c4, bb⟩ := HB.out _ ab
                  have BB6 := hide bb
                  clear ab bb
                  go_wp2
                  go_loopw [10] (fun i wr => ∃ k : Nat, k ≤ li.length ∧ i = .int .i64 k ∧ Hid (Below ((poW w ⟨rs, li, sc, dr, de, .slice ra rs.length rc, .slice la li.length lc, .slice sa sc.length sc', .slice da dr.length dc⟩).alloc (.cells #[.string z0, .string z1] 27)).heap.size ((poW w ⟨rs, li, sc, dr, de, .slice ra rs.length rc, .slice la li.length lc, .slice sa sc.length sc', .slice da dr.length dc⟩).alloc (.cells #[.string z0, .string z1] 27)) wr)) (fun i _ => li.length - (intOf i).toNat)
                  case atStart => exact ⟨0, Nat.zero_le _, rfl, B6⟩
                  case round =>
                    obtain ⟨k, hk, rfl, HX⟩ := hrel
                    clear a0 a1 c0 c1 c2 c3 c4
                    obtain ⟨a0, a1, ab⟩ := HBA.out _ HX.out
                    obtain ⟨c0, c1, c2, c3, c4, bb⟩ := HB.out _ ab
                    have BBX := hide bb
                    clear ab bb a0 a1 c0 c2 c3 c4
                    by_cases hlt : k < li.length
                    · have hlt2 : (k : Int) < li.length := by omega
                      have HY := hide HX.out.drew
                      go_wp2_with fail
                      refine wp_region_held_drew (S := fun W' => Below ((poW w ⟨rs, li, sc, dr, de, .slice ra rs.length rc, .slice la li.length lc, .slice sa sc.length sc', .slice da dr.length dc⟩).alloc (.cells #[.string z0, .string z1] 27)).heap.size ((poW w ⟨rs, li, sc, dr, de, .slice ra rs.length rc, .slice la li.length lc, .slice sa sc.length sc', .slice da dr.length dc⟩).alloc (.cells #[.string z0, .string z1] 27)) W') (by kernel_rfl) HY.out (fun hHeld => ?_)
                      refine wpAnyH_take (i := 0) (v := .bool true) rfl (by kernel_rfl) (by kernel_rfl) (by kernel_rfl) (fun _ _ _ h => h) (Or.inl ⟨by kernel_rfl, fun _ _ => by go_simp⟩) hHeld ?_
                      simp only [Act.put, List.getElem_toArray, List.getElem_cons_zero, List.getElem_cons_succ, List.setIfInBounds_toArray, List.set_cons_zero, List.set_cons_succ]
                      refine wpAnyH_take (i := 1) (v := .bool true) rfl (by kernel_rfl) (by kernel_rfl) (by kernel_rfl) (fun _ _ _ h => h) (Or.inl ⟨by kernel_rfl, fun _ _ => by go_simp⟩) hHeld ?_
                      simp only [Act.put, List.getElem_toArray, List.getElem_cons_zero, List.getElem_cons_succ, List.setIfInBounds_toArray, List.set_cons_zero, List.set_cons_succ]
                      refine wpAnyH_take (i := 2) (v := .bool false) rfl (by kernel_rfl) (by kernel_rfl) (by kernel_rfl) (fun _ _ _ h => h) (Or.inl ⟨by kernel_rfl, fun _ _ => by go_simp⟩) hHeld ?_
                      simp only [Act.put, List.getElem_toArray, List.getElem_cons_zero, List.getElem_cons_succ, List.setIfInBounds_toArray, List.set_cons_zero, List.set_cons_succ]
                      refine wpAnyH_take (i := 3) (v := .bool false) rfl (by kernel_rfl) (by kernel_rfl) (by kernel_rfl) (fun _ _ _ h => h) (Or.inl ⟨by kernel_rfl, fun _ _ => by go_simp⟩) hHeld ?_
                      simp only [Act.put, List.getElem_toArray, List.getElem_cons_zero, List.getElem_cons_succ, List.setIfInBounds_toArray, List.set_cons_zero, List.set_cons_succ]
                      refine wpAnyH_take (i := 4) (v := .bool false) rfl (by kernel_rfl) (by kernel_rfl) (by kernel_rfl) (fun _ _ _ h => h) (Or.inl ⟨by kernel_rfl, fun _ _ => by go_simp⟩) hHeld ?_
                      simp only [Act.put, List.getElem_toArray, List.getElem_cons_zero, List.getElem_cons_succ, List.setIfInBounds_toArray, List.set_cons_zero, List.set_cons_succ]
                      refine wpAnyH_take (i := 5) (v := undef) rfl (by kernel_rfl) (by kernel_rfl) (by kernel_rfl) (fun _ _ _ h => h) (Or.inr ⟨by kernel_rfl, rfl⟩) hHeld ?_
                      simp only [Act.put, List.getElem_toArray, List.getElem_cons_zero, List.getElem_cons_succ, List.setIfInBounds_toArray, List.set_cons_zero, List.set_cons_succ]
                      refine wpAnyH_take (i := 6) (v := undef) rfl (by kernel_rfl) (by kernel_rfl) (by kernel_rfl) (fun _ _ _ h => h) (Or.inr ⟨by kernel_rfl, rfl⟩) hHeld ?_
                      simp only [Act.put, List.getElem_toArray, List.getElem_cons_zero, List.getElem_cons_succ, List.setIfInBounds_toArray, List.set_cons_zero, List.set_cons_succ]
                      refine wpAnyH_take (i := 7) (v := .bool false) rfl (by kernel_rfl) (by kernel_rfl) (by kernel_rfl) (fun _ _ _ h => h) (Or.inl ⟨by kernel_rfl, fun _ _ => by go_simp⟩) hHeld ?_
                      simp only [Act.put, List.getElem_toArray, List.getElem_cons_zero, List.getElem_cons_succ, List.setIfInBounds_toArray, List.set_cons_zero, List.set_cons_succ]
                      refine wpAnyH_take (i := 8) (v := .bool false) rfl (by kernel_rfl) (by kernel_rfl) (by kernel_rfl) (fun _ _ _ h => h) (Or.inl ⟨by kernel_rfl, fun _ _ => by go_simp⟩) hHeld ?_
                      simp only [Act.put, List.getElem_toArray, List.getElem_cons_zero, List.getElem_cons_succ, List.setIfInBounds_toArray, List.set_cons_zero, List.set_cons_succ]
                      refine wpAnyH_take (i := 9) (v := undef) rfl (by kernel_rfl) (by kernel_rfl) (by kernel_rfl) (fun _ _ _ h => h) (Or.inr ⟨by kernel_rfl, rfl⟩) hHeld ?_
                      simp only [Act.put, List.getElem_toArray, List.getElem_cons_zero, List.getElem_cons_succ, List.setIfInBounds_toArray, List.set_cons_zero, List.set_cons_succ]
                      refine wpAnyH_take (i := 10) (v := undef) rfl (by kernel_rfl) (by kernel_rfl) (by kernel_rfl) (fun _ _ _ h => h) (Or.inr ⟨by kernel_rfl, rfl⟩) hHeld ?_
                      simp only [Act.put, List.getElem_toArray, List.getElem_cons_zero, List.getElem_cons_succ, List.setIfInBounds_toArray, List.set_cons_zero, List.set_cons_succ]
                      refine wpAnyH_take (i := 11) (v := undef) rfl (by kernel_rfl) (by kernel_rfl) (by kernel_rfl) (fun _ _ _ h => h) (Or.inr ⟨by kernel_rfl, rfl⟩) hHeld ?_
                      simp only [Act.put, List.getElem_toArray, List.getElem_cons_zero, List.getElem_cons_succ, List.setIfInBounds_toArray, List.set_cons_zero, List.set_cons_succ]
                      refine wpAnyH_take (i := 12) (v := undef) rfl (by kernel_rfl) (by kernel_rfl) (by kernel_rfl) (fun _ _ _ h => h) (Or.inr ⟨by kernel_rfl, rfl⟩) hHeld ?_
                      simp only [Act.put, List.getElem_toArray, List.getElem_cons_zero, List.getElem_cons_succ, List.setIfInBounds_toArray, List.set_cons_zero, List.set_cons_succ]
                      refine wpAnyH_take (i := 13) (v := undef) rfl (by kernel_rfl) (by kernel_rfl) (by kernel_rfl) (fun _ _ _ h => h) (Or.inr ⟨by kernel_rfl, rfl⟩) hHeld ?_
                      simp only [Act.put, List.getElem_toArray, List.getElem_cons_zero, List.getElem_cons_succ, List.setIfInBounds_toArray, List.set_cons_zero, List.set_cons_succ]
                      refine wpAnyH_take (i := 14) (v := undef) rfl (by kernel_rfl) (by kernel_rfl) (by kernel_rfl) (fun _ _ _ h => h) (Or.inr ⟨by kernel_rfl, rfl⟩) hHeld ?_
                      simp only [Act.put, List.getElem_toArray, List.getElem_cons_zero, List.getElem_cons_succ, List.setIfInBounds_toArray, List.set_cons_zero, List.set_cons_succ]
                      refine wpAnyH_take (i := 15) (v := undef) rfl (by kernel_rfl) (by kernel_rfl) (by kernel_rfl) (fun _ _ _ h => h) (Or.inr ⟨by kernel_rfl, rfl⟩) hHeld ?_
                      simp only [Act.put, List.getElem_toArray, List.getElem_cons_zero, List.getElem_cons_succ, List.setIfInBounds_toArray, List.set_cons_zero, List.set_cons_succ]
                      refine wpAnyH_take (i := 16) (v := undef) rfl (by kernel_rfl) (by kernel_rfl) (by kernel_rfl) (fun _ _ _ h => h) (Or.inr ⟨by kernel_rfl, rfl⟩) hHeld ?_
                      simp only [Act.put, List.getElem_toArray, List.getElem_cons_zero, List.getElem_cons_succ, List.setIfInBounds_toArray, List.set_cons_zero, List.set_cons_succ]
                      refine wpAnyH_take (i := 17) (v := .bool false) rfl (by kernel_rfl) (by kernel_rfl) (by kernel_rfl) (fun _ _ _ h => h) (Or.inl ⟨by kernel_rfl, fun _ _ => by go_simp⟩) hHeld ?_
                      simp only [Act.put, List.getElem_toArray, List.getElem_cons_zero, List.getElem_cons_succ, List.setIfInBounds_toArray, List.set_cons_zero, List.set_cons_succ]
                      refine wpAnyH_done (by kernel_rfl) ?_ _
                      have HZ := hide hHeld
                      clear hHeld
                      go_wp2
                      go_roundw
                      case rel => exact ⟨k + 1, by omega, by go_num, HZ⟩
                      case measure => simp [intOf]; omega
                    · have hlt2 : ¬ (k : Int) < li.length := by omega
                      clear hlt
                      go_wp2_with fail
                      refine (HAL.out _).mono ?_
                      rintro e wz ⟨rfl, bz⟩
                      have BZ := hide (Below.trans BBX.out (bz.mono (BBX.out).size))
                      clear bz
                      go_wp2
                      go_ret
                      exact ⟨rfl, BZ.out⟩
                | true =>
                  cases hTj : (T == [106, 97, 118, 97, 115, 99, 114, 105, 112, 116]) with
                  | false =>
                    rw [hTj] at eT
                    clear hJS hTj
                    go_enter Tryz.func3, Tryz.ntmps3
                    go_wp2_with fail
                    refine (HSM.out _ BB.out).mono ?_
                    rintro e w1 ⟨rfl, b1⟩
                    have B1 := hide (B0.out.trans (b1.mono B0.out.size))
                    clear b1 c0 c1 c2 c3 c4 a0 a1
                    obtain ⟨a0, a1, ab⟩ := HBA.out _ B1.out
                    obtain ⟨c0, c1, c2, c3, c4, bb⟩ := HB.out _ ab
                    have BB1 := hide bb
                    clear ab bb
                    go_wp2_with fail
                    refine (HA.out _ BB1.out).mono ?_
                    rintro e w2 ⟨rfl, b2⟩
                    have B2 := hide (B1.out.trans (b2.mono B1.out.size))
                    clear b2 c0 c1 c2 c3 c4 a0 a1
                    obtain ⟨a0, a1, ab⟩ := HBA.out _ B2.out
                    obtain ⟨c0, c1, c2, c3, c4, bb⟩ := HB.out _ ab
                    have BB2 := hide bb
                    clear ab bb
                    go_wp2_with fail
                    refine (HE.out _ BB2.out).mono ?_
                    rintro e w3 ⟨rfl, b3⟩
                    have B3 := hide (B2.out.trans (b3.mono B2.out.size))
                    clear b3 c0 c1 c2 c3 c4 a0 a1
                    obtain ⟨a0, a1, ab⟩ := HBA.out _ B3.out
                    obtain ⟨c0, c1, c2, c3, c4, bb⟩ := HB.out _ ab
                    have BB3 := hide bb
                    clear ab bb
                    go_wp2_with fail
                    refine (HIS.out _ BB3.out).mono ?_
                    rintro e w4 ⟨rfl, b4⟩
                    have B4 := hide (B3.out.trans (b4.mono B3.out.size))
                    clear b4 c0 c1 c2 c3 c4 a0 a1
                    obtain ⟨a0, a1, ab⟩ := HBA.out _ B4.out
                    obtain ⟨c0, c1, c2, c3, c4, bb⟩ := HB.out _ ab
                    have BB4 := hide bb
                    clear ab bb
                    go_wp2_with fail
                    refine (HE.out _ BB4.out).mono ?_
                    rintro e w5 ⟨rfl, b5⟩
                    have B5 := hide (B4.out.trans (b5.mono B4.out.size))
                    clear b5 c0 c1 c2 c3 c4 a0 a1
                    obtain ⟨a0, a1, ab⟩ := HBA.out _ B5.out
                    obtain ⟨c0, c1, c2, c3, c4, bb⟩ := HB.out _ ab
                    have BB5 := hide bb
                    clear ab bb
                    go_wp2_with fail
                    refine (HOF.out _ BB5.out).mono ?_
                    rintro e w6 ⟨rfl, b6⟩
                    have B6 := hide (B5.out.trans (b6.mono B5.out.size))
                    clear b6 c0 c1 c2 c3 c4 a0 a1
                    obtain ⟨a0, a1, ab⟩ := HBA.out _ B6.out
                    obtain ⟨c0, c1, c2, c3, c4, bb⟩ := HB.out _ ab
                    have BB6 := hide bb
                    clear ab bb
                    go_wp2
                    go_loopw [10] (fun i wr => ∃ k : Nat, k ≤ li.length ∧ i = .int .i64 k ∧ Hid (Below ((poW w ⟨rs, li, sc, dr, de, .slice ra rs.length rc, .slice la li.length lc, .slice sa sc.length sc', .slice da dr.length dc⟩).alloc (.cells #[.string z0, .string z1] 27)).heap.size ((poW w ⟨rs, li, sc, dr, de, .slice ra rs.length rc, .slice la li.length lc, .slice sa sc.length sc', .slice da dr.length dc⟩).alloc (.cells #[.string z0, .string z1] 27)) wr)) (fun i _ => li.length - (intOf i).toNat)
                    case atStart => exact ⟨0, Nat.zero_le _, rfl, B6⟩
                    case round =>
                      obtain ⟨k, hk, rfl, HX⟩ := hrel
                      clear a0 a1 c0 c1 c2 c3 c4
                      obtain ⟨a0, a1, ab⟩ := HBA.out _ HX.out
                      obtain ⟨c0, c1, c2, c3, c4, bb⟩ := HB.out _ ab
                      have BBX := hide bb
                      clear ab bb a0 a1 c0 c2 c3 c4
                      by_cases hlt : k < li.length
                      · have hlt2 : (k : Int) < li.length := by omega
                        have HY := hide HX.out.drew
                        go_wp2_with fail
                        refine wp_region_held_drew (S := fun W' => Below ((poW w ⟨rs, li, sc, dr, de, .slice ra rs.length rc, .slice la li.length lc, .slice sa sc.length sc', .slice da dr.length dc⟩).alloc (.cells #[.string z0, .string z1] 27)).heap.size ((poW w ⟨rs, li, sc, dr, de, .slice ra rs.length rc, .slice la li.length lc, .slice sa sc.length sc', .slice da dr.length dc⟩).alloc (.cells #[.string z0, .string z1] 27)) W') (by kernel_rfl) HY.out (fun hHeld => ?_)
                        refine wpAnyH_take (i := 0) (v := .bool true) rfl (by kernel_rfl) (by kernel_rfl) (by kernel_rfl) (fun _ _ _ h => h) (Or.inl ⟨by kernel_rfl, fun _ _ => by go_simp⟩) hHeld ?_
                        simp only [Act.put, List.getElem_toArray, List.getElem_cons_zero, List.getElem_cons_succ, List.setIfInBounds_toArray, List.set_cons_zero, List.set_cons_succ]
                        refine wpAnyH_take (i := 1) (v := .bool true) rfl (by kernel_rfl) (by kernel_rfl) (by kernel_rfl) (fun _ _ _ h => h) (Or.inl ⟨by kernel_rfl, fun _ _ => by go_simp⟩) hHeld ?_
                        simp only [Act.put, List.getElem_toArray, List.getElem_cons_zero, List.getElem_cons_succ, List.setIfInBounds_toArray, List.set_cons_zero, List.set_cons_succ]
                        refine wpAnyH_take (i := 2) (v := .bool true) rfl (by kernel_rfl) (by kernel_rfl) (by kernel_rfl) (fun _ _ _ h => h) (Or.inl ⟨by kernel_rfl, fun _ _ => by go_simp⟩) hHeld ?_
                        simp only [Act.put, List.getElem_toArray, List.getElem_cons_zero, List.getElem_cons_succ, List.setIfInBounds_toArray, List.set_cons_zero, List.set_cons_succ]
                        refine wpAnyH_take (i := 3) (v := .bool true) rfl (by kernel_rfl) (by kernel_rfl) (by kernel_rfl) (fun _ _ _ h => h) (Or.inl ⟨by kernel_rfl, fun _ _ => by go_simp⟩) hHeld ?_
                        simp only [Act.put, List.getElem_toArray, List.getElem_cons_zero, List.getElem_cons_succ, List.setIfInBounds_toArray, List.set_cons_zero, List.set_cons_succ]
                        refine wpAnyH_take (i := 4) (v := .bool true) rfl (by kernel_rfl) (by kernel_rfl) (by kernel_rfl) (fun _ _ _ h => h) (Or.inl ⟨by kernel_rfl, fun _ _ => by go_simp⟩) hHeld ?_
                        simp only [Act.put, List.getElem_toArray, List.getElem_cons_zero, List.getElem_cons_succ, List.setIfInBounds_toArray, List.set_cons_zero, List.set_cons_succ]
                        refine wpAnyH_take (i := 5) (v := ?_) rfl (by kernel_rfl) (by kernel_rfl) (by kernel_rfl) (fun _ _ _ h => h) (Or.inl ⟨by kernel_rfl, ?_⟩) hHeld ?_
                        rotate_left
                        · intro W hSw
                          clear hSw
                          go_simp <;> with_reducible rfl
                        simp only [Act.put, List.getElem_toArray, List.getElem_cons_zero, List.getElem_cons_succ, List.setIfInBounds_toArray, List.set_cons_zero, List.set_cons_succ]
                        refine wpAnyH_take (i := 6) (v := .bool false) rfl (by kernel_rfl) (by kernel_rfl) (by kernel_rfl) (fun _ _ _ h => h) (Or.inl ⟨by kernel_rfl, fun _ _ => by go_simp⟩) hHeld ?_
                        simp only [Act.put, List.getElem_toArray, List.getElem_cons_zero, List.getElem_cons_succ, List.setIfInBounds_toArray, List.set_cons_zero, List.set_cons_succ]
                        refine wpAnyH_take (i := 7) (v := .bool false) rfl (by kernel_rfl) (by kernel_rfl) (by kernel_rfl) (fun _ _ _ h => h) (Or.inl ⟨by kernel_rfl, fun _ _ => by go_simp⟩) hHeld ?_
                        simp only [Act.put, List.getElem_toArray, List.getElem_cons_zero, List.getElem_cons_succ, List.setIfInBounds_toArray, List.set_cons_zero, List.set_cons_succ]
                        refine wpAnyH_take (i := 8) (v := .bool false) rfl (by kernel_rfl) (by kernel_rfl) (by kernel_rfl) (fun _ _ _ h => h) (Or.inl ⟨by kernel_rfl, fun _ _ => by go_simp⟩) hHeld ?_
                        simp only [Act.put, List.getElem_toArray, List.getElem_cons_zero, List.getElem_cons_succ, List.setIfInBounds_toArray, List.set_cons_zero, List.set_cons_succ]
                        refine wpAnyH_take (i := 9) (v := undef) rfl (by kernel_rfl) (by kernel_rfl) (by kernel_rfl) (fun _ _ _ h => h) (Or.inr ⟨by kernel_rfl, rfl⟩) hHeld ?_
                        simp only [Act.put, List.getElem_toArray, List.getElem_cons_zero, List.getElem_cons_succ, List.setIfInBounds_toArray, List.set_cons_zero, List.set_cons_succ]
                        refine wpAnyH_take (i := 10) (v := undef) rfl (by kernel_rfl) (by kernel_rfl) (by kernel_rfl) (fun _ _ _ h => h) (Or.inr ⟨by kernel_rfl, rfl⟩) hHeld ?_
                        simp only [Act.put, List.getElem_toArray, List.getElem_cons_zero, List.getElem_cons_succ, List.setIfInBounds_toArray, List.set_cons_zero, List.set_cons_succ]
                        refine wpAnyH_take (i := 11) (v := undef) rfl (by kernel_rfl) (by kernel_rfl) (by kernel_rfl) (fun _ _ _ h => h) (Or.inr ⟨by kernel_rfl, rfl⟩) hHeld ?_
                        simp only [Act.put, List.getElem_toArray, List.getElem_cons_zero, List.getElem_cons_succ, List.setIfInBounds_toArray, List.set_cons_zero, List.set_cons_succ]
                        refine wpAnyH_take (i := 12) (v := undef) rfl (by kernel_rfl) (by kernel_rfl) (by kernel_rfl) (fun _ _ _ h => h) (Or.inr ⟨by kernel_rfl, rfl⟩) hHeld ?_
                        simp only [Act.put, List.getElem_toArray, List.getElem_cons_zero, List.getElem_cons_succ, List.setIfInBounds_toArray, List.set_cons_zero, List.set_cons_succ]
                        refine wpAnyH_take (i := 13) (v := undef) rfl (by kernel_rfl) (by kernel_rfl) (by kernel_rfl) (fun _ _ _ h => h) (Or.inr ⟨by kernel_rfl, rfl⟩) hHeld ?_
                        simp only [Act.put, List.getElem_toArray, List.getElem_cons_zero, List.getElem_cons_succ, List.setIfInBounds_toArray, List.set_cons_zero, List.set_cons_succ]
                        refine wpAnyH_take (i := 14) (v := undef) rfl (by kernel_rfl) (by kernel_rfl) (by kernel_rfl) (fun _ _ _ h => h) (Or.inr ⟨by kernel_rfl, rfl⟩) hHeld ?_
                        simp only [Act.put, List.getElem_toArray, List.getElem_cons_zero, List.getElem_cons_succ, List.setIfInBounds_toArray, List.set_cons_zero, List.set_cons_succ]
                        refine wpAnyH_take (i := 15) (v := undef) rfl (by kernel_rfl) (by kernel_rfl) (by kernel_rfl) (fun _ _ _ h => h) (Or.inr ⟨by kernel_rfl, rfl⟩) hHeld ?_
                        simp only [Act.put, List.getElem_toArray, List.getElem_cons_zero, List.getElem_cons_succ, List.setIfInBounds_toArray, List.set_cons_zero, List.set_cons_succ]
                        refine wpAnyH_take (i := 16) (v := undef) rfl (by kernel_rfl) (by kernel_rfl) (by kernel_rfl) (fun _ _ _ h => h) (Or.inr ⟨by kernel_rfl, rfl⟩) hHeld ?_
                        simp only [Act.put, List.getElem_toArray, List.getElem_cons_zero, List.getElem_cons_succ, List.setIfInBounds_toArray, List.set_cons_zero, List.set_cons_succ]
                        refine wpAnyH_take (i := 17) (v := .bool false) rfl (by kernel_rfl) (by kernel_rfl) (by kernel_rfl) (fun _ _ _ h => h) (Or.inl ⟨by kernel_rfl, fun _ _ => by go_simp⟩) hHeld ?_
                        simp only [Act.put, List.getElem_toArray, List.getElem_cons_zero, List.getElem_cons_succ, List.setIfInBounds_toArray, List.set_cons_zero, List.set_cons_succ]
                        refine wpAnyH_done (by kernel_rfl) ?_ _
                        have HZ := hide hHeld
                        clear hHeld
                        go_wp2
                        go_roundw
                        case rel => exact ⟨k + 1, by omega, by go_num, HZ⟩
                        case measure => simp [intOf]; omega
                      · have hlt2 : ¬ (k : Int) < li.length := by omega
                        clear hlt
                        go_wp2_with fail
                        refine (HAL.out _).mono ?_
                        rintro e wz ⟨rfl, bz⟩
                        have BZ := hide (Below.trans BBX.out (bz.mono (BBX.out).size))
                        clear bz
                        go_wp2
                        go_ret
                        exact ⟨rfl, BZ.out⟩
                  | true =>
                    rw [hTj] at eT
                    have HJ := hide (hJS rfl rfl (beq_iff_eq.1 hTj))
                    clear hJS hTj
                    go_enter Tryz.func3, Tryz.ntmps3
                    go_wp2_with fail
                    refine (HSM.out _ BB.out).mono ?_
                    rintro e w1 ⟨rfl, b1⟩
                    have B1 := hide (B0.out.trans (b1.mono B0.out.size))
                    clear b1 c0 c1 c2 c3 c4 a0 a1
                    obtain ⟨a0, a1, ab⟩ := HBA.out _ B1.out
                    obtain ⟨c0, c1, c2, c3, c4, bb⟩ := HB.out _ ab
                    have BB1 := hide bb
                    clear ab bb
                    go_wp2_with fail
                    refine (HA.out _ BB1.out).mono ?_
                    rintro e w2 ⟨rfl, b2⟩
                    have B2 := hide (B1.out.trans (b2.mono B1.out.size))
                    clear b2 c0 c1 c2 c3 c4 a0 a1
                    obtain ⟨a0, a1, ab⟩ := HBA.out _ B2.out
                    obtain ⟨c0, c1, c2, c3, c4, bb⟩ := HB.out _ ab
                    have BB2 := hide bb
                    clear ab bb
                    go_wp2_with fail
                    refine (HE.out _ BB2.out).mono ?_
                    rintro e w3 ⟨rfl, b3⟩
                    have B3 := hide (B2.out.trans (b3.mono B2.out.size))
                    clear b3 c0 c1 c2 c3 c4 a0 a1
                    obtain ⟨a0, a1, ab⟩ := HBA.out _ B3.out
                    obtain ⟨c0, c1, c2, c3, c4, bb⟩ := HB.out _ ab
                    have BB3 := hide bb
                    clear ab bb
                    go_wp2_with fail
                    refine (HIS.out _ BB3.out).mono ?_
                    rintro e w4 ⟨rfl, b4⟩
                    have B4 := hide (B3.out.trans (b4.mono B3.out.size))
                    clear b4 c0 c1 c2 c3 c4 a0 a1
                    obtain ⟨a0, a1, ab⟩ := HBA.out _ B4.out
                    obtain ⟨c0, c1, c2, c3, c4, bb⟩ := HB.out _ ab
                    have BB4 := hide bb
                    clear ab bb
                    go_wp2_with fail
                    refine (HE.out _ BB4.out).mono ?_
                    rintro e w5 ⟨rfl, b5⟩
                    have B5 := hide (B4.out.trans (b5.mono B4.out.size))
                    clear b5 c0 c1 c2 c3 c4 a0 a1
                    obtain ⟨a0, a1, ab⟩ := HBA.out _ B5.out
                    obtain ⟨c0, c1, c2, c3, c4, bb⟩ := HB.out _ ab
                    have BB5 := hide bb
                    clear ab bb
                    go_wp2_with fail
                    refine (HOF.out _ BB5.out).mono ?_
                    rintro e w6 ⟨rfl, b6⟩
                    have B6 := hide (B5.out.trans (b6.mono B5.out.size))
                    clear b6 c0 c1 c2 c3 c4 a0 a1
                    obtain ⟨a0, a1, ab⟩ := HBA.out _ B6.out
                    obtain ⟨c0, c1, c2, c3, c4, bb⟩ := HB.out _ ab
                    have BB6 := hide bb
                    clear ab bb
                    go_wp2
                    go_loopw [10] (fun i wr => ∃ k : Nat, k ≤ li.length ∧ i = .int .i64 k ∧ Hid (Below ((poW w ⟨rs, li, sc, dr, de, .slice ra rs.length rc, .slice la li.length lc, .slice sa sc.length sc', .slice da dr.length dc⟩).alloc (.cells #[.string z0, .string z1] 27)).heap.size ((poW w ⟨rs, li, sc, dr, de, .slice ra rs.length rc, .slice la li.length lc, .slice sa sc.length sc', .slice da dr.length dc⟩).alloc (.cells #[.string z0, .string z1] 27)) wr)) (fun i _ => li.length - (intOf i).toNat)
                    case atStart => exact ⟨0, Nat.zero_le _, rfl, B6⟩
                    case round =>
                      obtain ⟨k, hk, rfl, HX⟩ := hrel
                      clear a0 a1 c0 c1 c2 c3 c4
                      obtain ⟨a0, a1, ab⟩ := HBA.out _ HX.out
                      obtain ⟨c0, c1, c2, c3, c4, bb⟩ := HB.out _ ab
                      have BBX := hide bb
                      clear ab bb a0 a1 c0 c2 c3 c4
                      by_cases hlt : k < li.length
                      · have hlt2 : (k : Int) < li.length := by omega
                        have HY := hide HX.out.drew
                        have en := among_at hlt HJ.out
                        obtain ⟨bl, ol, rfl, hd⟩ := HGL.out.at_ k _ (List.getElem?_eq_getElem hlt)
                        have HD := hide hd
                        clear hd
                        generalize (⟨(li[k]).toArray⟩ : ByteArray) = y at *
                        go_wp2_with fail
                        refine wp_region_held_drew (S := fun W' => Below ((poW w ⟨rs, li, sc, dr, de, .slice ra rs.length rc, .slice (some ⟨bl, ol, none⟩) li.length lc, .slice sa sc.length sc', .slice da dr.length dc⟩).alloc (.cells #[.string z0, .string z1] 27)).heap.size ((poW w ⟨rs, li, sc, dr, de, .slice ra rs.length rc, .slice (some ⟨bl, ol, none⟩) li.length lc, .slice sa sc.length sc', .slice da dr.length dc⟩).alloc (.cells #[.string z0, .string z1] 27)) W') (by kernel_rfl) HY.out (fun hHeld => ?_)
                        refine wpAnyH_take (i := 0) (v := .bool true) rfl (by kernel_rfl) (by kernel_rfl) (by kernel_rfl) (fun _ _ _ h => h) (Or.inl ⟨by kernel_rfl, fun _ _ => by go_simp⟩) hHeld ?_
                        simp only [Act.put, List.getElem_toArray, List.getElem_cons_zero, List.getElem_cons_succ, List.setIfInBounds_toArray, List.set_cons_zero, List.set_cons_succ]
                        refine wpAnyH_take (i := 1) (v := .bool true) rfl (by kernel_rfl) (by kernel_rfl) (by kernel_rfl) (fun _ _ _ h => h) (Or.inl ⟨by kernel_rfl, fun _ _ => by go_simp⟩) hHeld ?_
                        simp only [Act.put, List.getElem_toArray, List.getElem_cons_zero, List.getElem_cons_succ, List.setIfInBounds_toArray, List.set_cons_zero, List.set_cons_succ]
                        refine wpAnyH_take (i := 2) (v := .bool true) rfl (by kernel_rfl) (by kernel_rfl) (by kernel_rfl) (fun _ _ _ h => h) (Or.inl ⟨by kernel_rfl, fun _ _ => by go_simp⟩) hHeld ?_
                        simp only [Act.put, List.getElem_toArray, List.getElem_cons_zero, List.getElem_cons_succ, List.setIfInBounds_toArray, List.set_cons_zero, List.set_cons_succ]
                        refine wpAnyH_take (i := 3) (v := .bool true) rfl (by kernel_rfl) (by kernel_rfl) (by kernel_rfl) (fun _ _ _ h => h) (Or.inl ⟨by kernel_rfl, fun _ _ => by go_simp⟩) hHeld ?_
                        simp only [Act.put, List.getElem_toArray, List.getElem_cons_zero, List.getElem_cons_succ, List.setIfInBounds_toArray, List.set_cons_zero, List.set_cons_succ]
                        refine wpAnyH_take (i := 4) (v := .bool true) rfl (by kernel_rfl) (by kernel_rfl) (by kernel_rfl) (fun _ _ _ h => h) (Or.inl ⟨by kernel_rfl, fun _ _ => by go_simp⟩) hHeld ?_
                        simp only [Act.put, List.getElem_toArray, List.getElem_cons_zero, List.getElem_cons_succ, List.setIfInBounds_toArray, List.set_cons_zero, List.set_cons_succ]
                        refine wpAnyH_take (i := 5) (v := ?_) rfl (by kernel_rfl) (by kernel_rfl) (by kernel_rfl) (fun _ _ _ h => h) (Or.inl ⟨by kernel_rfl, ?_⟩) hHeld ?_
                        rotate_left
                        · intro W hSw
                          clear hSw
                          go_simp <;> with_reducible rfl
                        simp only [Act.put, List.getElem_toArray, List.getElem_cons_zero, List.getElem_cons_succ, List.setIfInBounds_toArray, List.set_cons_zero, List.set_cons_succ]
                        refine wpAnyH_take (i := 6) (v := .bool true) rfl (by kernel_rfl) (by kernel_rfl) (by kernel_rfl) (fun _ _ _ h => h) (Or.inl ⟨by kernel_rfl, fun _ _ => by go_simp⟩) hHeld ?_
                        simp only [Act.put, List.getElem_toArray, List.getElem_cons_zero, List.getElem_cons_succ, List.setIfInBounds_toArray, List.set_cons_zero, List.set_cons_succ]
                        refine wpAnyH_take (i := 7) (v := .bool true) rfl (by kernel_rfl) (by kernel_rfl) (by kernel_rfl) (fun _ _ _ h => h) (Or.inl ⟨by kernel_rfl, fun _ _ => by go_simp⟩) hHeld ?_
                        simp only [Act.put, List.getElem_toArray, List.getElem_cons_zero, List.getElem_cons_succ, List.setIfInBounds_toArray, List.set_cons_zero, List.set_cons_succ]
                        refine wpAnyH_take (i := 8) (v := .bool true) rfl (by kernel_rfl) (by kernel_rfl) (by kernel_rfl) (fun _ _ _ h => h) (Or.inl ⟨by kernel_rfl, fun _ _ => by go_simp⟩) hHeld ?_
                        simp only [Act.put, List.getElem_toArray, List.getElem_cons_zero, List.getElem_cons_succ, List.setIfInBounds_toArray, List.set_cons_zero, List.set_cons_succ]
                        refine wpAnyH_take (i := 9) (v := ?_) rfl (by kernel_rfl) (by kernel_rfl) (by kernel_rfl) (fun _ _ _ h => h) (Or.inl ⟨by kernel_rfl, ?_⟩) hHeld ?_
                        rotate_left
                        · intro W hSw
                          clear hSw
                          go_simp <;> with_reducible rfl
                        simp only [Act.put, List.getElem_toArray, List.getElem_cons_zero, List.getElem_cons_succ, List.setIfInBounds_toArray, List.set_cons_zero, List.set_cons_succ]
                        refine wpAnyH_take (i := 10) (v := ?_) rfl (by kernel_rfl) (by kernel_rfl) (by kernel_rfl) (fun _ _ _ h => h) (Or.inl ⟨by kernel_rfl, ?_⟩) hHeld ?_
                        rotate_left
                        · intro W hSw
                          have c1 := (HB.out _ (HBA.out _ hSw).2.2).2.1
                          clear hSw
                          go_simp <;> with_reducible rfl
                        simp only [Act.put, List.getElem_toArray, List.getElem_cons_zero, List.getElem_cons_succ, List.setIfInBounds_toArray, List.set_cons_zero, List.set_cons_succ]
                        refine wpAnyH_take (i := 11) (v := ?_) rfl (by kernel_rfl) (by kernel_rfl) (by kernel_rfl) (fun _ _ _ h => h) (Or.inl ⟨by kernel_rfl, ?_⟩) hHeld ?_
                        rotate_left
                        · intro W hSw
                          clear hSw
                          go_simp <;> with_reducible rfl
                        simp only [Act.put, List.getElem_toArray, List.getElem_cons_zero, List.getElem_cons_succ, List.setIfInBounds_toArray, List.set_cons_zero, List.set_cons_succ]
                        refine wpAnyH_take (i := 12) (v := ?_) rfl (by kernel_rfl) (by kernel_rfl) (by kernel_rfl) (fun _ _ _ h => h) (Or.inl ⟨by kernel_rfl, ?_⟩) hHeld ?_
                        rotate_left
                        · intro W hSw
                          clear hSw
                          go_simp <;> with_reducible rfl
                        simp only [Act.put, List.getElem_toArray, List.getElem_cons_zero, List.getElem_cons_succ, List.setIfInBounds_toArray, List.set_cons_zero, List.set_cons_succ]
                        refine wpAnyH_take (i := 13) (v := ?_) rfl (by kernel_rfl) (by kernel_rfl) (by kernel_rfl) (fun _ _ _ h => h) (Or.inl ⟨by kernel_rfl, ?_⟩) hHeld ?_
                        rotate_left
                        · intro W hSw
                          have d1 := HD.out _ (HB.out _ (HBA.out _ hSw).2.2).2.2.2.2.2
                          clear hSw
                          go_simp <;> with_reducible rfl
                        simp only [Act.put, List.getElem_toArray, List.getElem_cons_zero, List.getElem_cons_succ, List.setIfInBounds_toArray, List.set_cons_zero, List.set_cons_succ]
                        refine wpAnyH_take (i := 14) (v := ?_) rfl (by kernel_rfl) (by kernel_rfl) (by kernel_rfl) (fun _ _ _ h => h) (Or.inl ⟨by kernel_rfl, ?_⟩) hHeld ?_
                        rotate_left
                        · intro W hSw
                          clear hSw
                          go_simp <;> with_reducible rfl
                        simp only [Act.put, List.getElem_toArray, List.getElem_cons_zero, List.getElem_cons_succ, List.setIfInBounds_toArray, List.set_cons_zero, List.set_cons_succ]
                        refine wpAnyH_take (i := 15) (v := ?_) rfl (by kernel_rfl) (by kernel_rfl) (by kernel_rfl) (fun _ _ _ h => h) (Or.inl ⟨by kernel_rfl, ?_⟩) hHeld ?_
                        rotate_left
                        · intro W hSw
                          have a0 := (HBA.out _ hSw).1
                          clear hSw
                          go_simp <;> with_reducible rfl
                        simp only [Act.put, List.getElem_toArray, List.getElem_cons_zero, List.getElem_cons_succ, List.setIfInBounds_toArray, List.set_cons_zero, List.set_cons_succ]
                        refine wpAnyH_take (i := 16) (v := .bool false) rfl (by kernel_rfl) (by kernel_rfl) (by kernel_rfl) (fun _ _ _ h => h) (Or.inl ⟨by kernel_rfl, fun _ _ => by go_simp⟩) hHeld ?_
                        simp only [Act.put, List.getElem_toArray, List.getElem_cons_zero, List.getElem_cons_succ, List.setIfInBounds_toArray, List.set_cons_zero, List.set_cons_succ]
                        refine wpAnyH_take (i := 17) (v := .bool false) rfl (by kernel_rfl) (by kernel_rfl) (by kernel_rfl) (fun _ _ _ h => h) (Or.inl ⟨by kernel_rfl, fun _ _ => by go_simp⟩) hHeld ?_
                        simp only [Act.put, List.getElem_toArray, List.getElem_cons_zero, List.getElem_cons_succ, List.setIfInBounds_toArray, List.set_cons_zero, List.set_cons_succ]
                        refine wpAnyH_done (by kernel_rfl) ?_ _
                        have HZ := hide hHeld
                        clear hHeld
                        go_wp2
                        go_roundw
                        case rel => exact ⟨k + 1, by omega, by go_num, HZ⟩
                        case measure => simp [intOf]; omega
                      · have hlt2 : ¬ (k : Int) < li.length := by omega
                        clear hlt
                        go_wp2_with fail
                        refine (HAL.out _).mono ?_
                        rintro e wz ⟨rfl, bz⟩
                        have BZ := hide (Below.trans BBX.out (bz.mono (BBX.out).size))
                        clear bz
                        go_wp2
                        go_ret
                        exact ⟨rfl, BZ.out⟩
            · have gz2 : ¬ (2 : Int) ≤ z0.size := by omega
              try clear hno
              try clear hbad
              try clear q0
              try clear q1
              cases B with
              | false =>
                clear hJS eT
                go_enter Tryz.func3, Tryz.ntmps3
                go_wp2_with fail
                refine (HSM.out _ BB.out).mono ?_
                rintro e w1 ⟨rfl, b1⟩
                have B1 := hide (B0.out.trans (b1.mono B0.out.size))
                clear b1 c0 c1 c2 c3 c4 a0 a1
                obtain ⟨a0, a1, ab⟩ := HBA.out _ B1.out
                obtain ⟨c0, c1, c2, c3, c4, bb⟩ := HB.out _ ab
                have BB1 := hide bb
                clear ab bb
                go_wp2_with fail
                refine (HA.out _ BB1.out).mono ?_
                rintro e w2 ⟨rfl, b2⟩
                have B2 := hide (B1.out.trans (b2.mono B1.out.size))
                clear b2 c0 c1 c2 c3 c4 a0 a1
                obtain ⟨a0, a1, ab⟩ := HBA.out _ B2.out
                obtain ⟨c0, c1, c2, c3, c4, bb⟩ := HB.out _ ab
                have BB2 := hide bb
                clear ab bb
                go_wp2_with fail
                refine (HE.out _ BB2.out).mono ?_
                rintro e w3 ⟨rfl, b3⟩
                have B3 := hide (B2.out.trans (b3.mono B2.out.size))
                clear b3 c0 c1 c2 c3 c4 a0 a1
                obtain ⟨a0, a1, ab⟩ := HBA.out _ B3.out
                obtain ⟨c0, c1, c2, c3, c4, bb⟩ := HB.out _ ab
                have BB3 := hide bb
                clear ab bb
                go_wp2_with fail
                refine (HIS.out _ BB3.out).mono ?_
                rintro e w4 ⟨rfl, b4⟩
                have B4 := hide (B3.out.trans (b4.mono B3.out.size))
                clear b4 c0 c1 c2 c3 c4 a0 a1
                obtain ⟨a0, a1, ab⟩ := HBA.out _ B4.out
                obtain ⟨c0, c1, c2, c3, c4, bb⟩ := HB.out _ ab
                have BB4 := hide bb
                clear ab bb
                go_wp2_with fail
                refine (HE.out _ BB4.out).mono ?_
                rintro e w5 ⟨rfl, b5⟩
                have B5 := hide (B4.out.trans (b5.mono B4.out.size))
                clear b5 c0 c1 c2 c3 c4 a0 a1
                obtain ⟨a0, a1, ab⟩ := HBA.out _ B5.out
                obtain ⟨c0, c1, c2, c3, c4, bb⟩ := HB.out _ ab
                have BB5 := hide bb
                clear ab bb
                go_wp2_with fail
                refine (HOF.out _ BB5.out).mono ?_
                rintro e w6 ⟨rfl, b6⟩
                have B6 := hide (B5.out.trans (b6.mono B5.out.size))
                clear b6 c0 c1 c2 c3 c4 a0 a1
                obtain ⟨a0, a1, ab⟩ := HBA.out _ B6.out
                obtain ⟨c0, c1, c2, c3, c4, bb⟩ := HB.out _ ab
                have BB6 := hide bb
                clear ab bb
                go_wp2
                go_loopw [10] (fun i wr => ∃ k : Nat, k ≤ li.length ∧ i = .int .i64 k ∧ Hid (Below ((poW w ⟨rs, li, sc, dr, de, .slice ra rs.length rc, .slice la li.length lc, .slice sa sc.length sc', .slice da dr.length dc⟩).alloc (.cells #[.string z0, .string z1] 27)).heap.size ((poW w ⟨rs, li, sc, dr, de, .slice ra rs.length rc, .slice la li.length lc, .slice sa sc.length sc', .slice da dr.length dc⟩).alloc (.cells #[.string z0, .string z1] 27)) wr)) (fun i _ => li.length - (intOf i).toNat)
                case atStart => exact ⟨0, Nat.zero_le _, rfl, B6⟩
                case round =>
                  obtain ⟨k, hk, rfl, HX⟩ := hrel
                  clear a0 a1 c0 c1 c2 c3 c4
                  obtain ⟨a0, a1, ab⟩ := HBA.out _ HX.out
                  obtain ⟨c0, c1, c2, c3, c4, bb⟩ := HB.out _ ab
                  have BBX := hide bb
                  clear ab bb a0 a1 c0 c2 c3 c4
                  by_cases hlt : k < li.length
                  · have hlt2 : (k : Int) < li.length := by omega
                    have HY := hide HX.out.drew
                    go_wp2_with fail
                    refine wp_region_held_drew (S := fun W' => Below ((poW w ⟨rs, li, sc, dr, de, .slice ra rs.length rc, .slice la li.length lc, .slice sa sc.length sc', .slice da dr.length dc⟩).alloc (.cells #[.string z0, .string z1] 27)).heap.size ((poW w ⟨rs, li, sc, dr, de, .slice ra rs.length rc, .slice la li.length lc, .slice sa sc.length sc', .slice da dr.length dc⟩).alloc (.cells #[.string z0, .string z1] 27)) W') (by kernel_rfl) HY.out (fun hHeld => ?_)
                    refine wpAnyH_take (i := 0) (v := .bool true) rfl (by kernel_rfl) (by kernel_rfl) (by kernel_rfl) (fun _ _ _ h => h) (Or.inl ⟨by kernel_rfl, fun _ _ => by go_simp⟩) hHeld ?_
                    simp only [Act.put, List.getElem_toArray, List.getElem_cons_zero, List.getElem_cons_succ, List.setIfInBounds_toArray, List.set_cons_zero, List.set_cons_succ]
                    refine wpAnyH_take (i := 1) (v := .bool true) rfl (by kernel_rfl) (by kernel_rfl) (by kernel_rfl) (fun _ _ _ h => h) (Or.inl ⟨by kernel_rfl, fun _ _ => by go_simp⟩) hHeld ?_
                    simp only [Act.put, List.getElem_toArray, List.getElem_cons_zero, List.getElem_cons_succ, List.setIfInBounds_toArray, List.set_cons_zero, List.set_cons_succ]
                    refine wpAnyH_take (i := 2) (v := .bool false) rfl (by kernel_rfl) (by kernel_rfl) (by kernel_rfl) (fun _ _ _ h => h) (Or.inl ⟨by kernel_rfl, fun _ _ => by go_simp⟩) hHeld ?_
                    simp only [Act.put, List.getElem_toArray, List.getElem_cons_zero, List.getElem_cons_succ, List.setIfInBounds_toArray, List.set_cons_zero, List.set_cons_succ]
                    refine wpAnyH_take (i := 3) (v := .bool false) rfl (by kernel_rfl) (by kernel_rfl) (by kernel_rfl) (fun _ _ _ h => h) (Or.inl ⟨by kernel_rfl, fun _ _ => by go_simp⟩) hHeld ?_
                    simp only [Act.put, List.getElem_toArray, List.getElem_cons_zero, List.getElem_cons_succ, List.setIfInBounds_toArray, List.set_cons_zero, List.set_cons_succ]
                    refine wpAnyH_take (i := 4) (v := .bool false) rfl (by kernel_rfl) (by kernel_rfl) (by kernel_rfl) (fun _ _ _ h => h) (Or.inl ⟨by kernel_rfl, fun _ _ => by go_simp⟩) hHeld ?_
                    simp only [Act.put, List.getElem_toArray, List.getElem_cons_zero, List.getElem_cons_succ, List.setIfInBounds_toArray, List.set_cons_zero, List.set_cons_succ]
                    refine wpAnyH_take (i := 5) (v := undef) rfl (by kernel_rfl) (by kernel_rfl) (by kernel_rfl) (fun _ _ _ h => h) (Or.inr ⟨by kernel_rfl, rfl⟩) hHeld ?_
                    simp only [Act.put, List.getElem_toArray, List.getElem_cons_zero, List.getElem_cons_succ, List.setIfInBounds_toArray, List.set_cons_zero, List.set_cons_succ]
                    refine wpAnyH_take (i := 6) (v := undef) rfl (by kernel_rfl) (by kernel_rfl) (by kernel_rfl) (fun _ _ _ h => h) (Or.inr ⟨by kernel_rfl, rfl⟩) hHeld ?_
                    simp only [Act.put, List.getElem_toArray, List.getElem_cons_zero, List.getElem_cons_succ, List.setIfInBounds_toArray, List.set_cons_zero, List.set_cons_succ]
                    refine wpAnyH_take (i := 7) (v := .bool false) rfl (by kernel_rfl) (by kernel_rfl) (by kernel_rfl) (fun _ _ _ h => h) (Or.inl ⟨by kernel_rfl, fun _ _ => by go_simp⟩) hHeld ?_
                    simp only [Act.put, List.getElem_toArray, List.getElem_cons_zero, List.getElem_cons_succ, List.setIfInBounds_toArray, List.set_cons_zero, List.set_cons_succ]
                    refine wpAnyH_take (i := 8) (v := .bool false) rfl (by kernel_rfl) (by kernel_rfl) (by kernel_rfl) (fun _ _ _ h => h) (Or.inl ⟨by kernel_rfl, fun _ _ => by go_simp⟩) hHeld ?_
                    simp only [Act.put, List.getElem_toArray, List.getElem_cons_zero, List.getElem_cons_succ, List.setIfInBounds_toArray, List.set_cons_zero, List.set_cons_succ]
                    refine wpAnyH_take (i := 9) (v := undef) rfl (by kernel_rfl) (by kernel_rfl) (by kernel_rfl) (fun _ _ _ h => h) (Or.inr ⟨by kernel_rfl, rfl⟩) hHeld ?_
                    simp only [Act.put, List.getElem_toArray, List.getElem_cons_zero, List.getElem_cons_succ, List.setIfInBounds_toArray, List.set_cons_zero, List.set_cons_succ]
                    refine wpAnyH_take (i := 10) (v := undef) rfl (by kernel_rfl) (by kernel_rfl) (by kernel_rfl) (fun _ _ _ h => h) (Or.inr ⟨by kernel_rfl, rfl⟩) hHeld ?_
                    simp only [Act.put, List.getElem_toArray, List.getElem_cons_zero, List.getElem_cons_succ, List.setIfInBounds_toArray, List.set_cons_zero, List.set_cons_succ]
                    refine wpAnyH_take (i := 11) (v := undef) rfl (by kernel_rfl) (by kernel_rfl) (by kernel_rfl) (fun _ _ _ h => h) (Or.inr ⟨by kernel_rfl, rfl⟩) hHeld ?_
                    simp only [Act.put, List.getElem_toArray, List.getElem_cons_zero, List.getElem_cons_succ, List.setIfInBounds_toArray, List.set_cons_zero, List.set_cons_succ]
                    refine wpAnyH_take (i := 12) (v := undef) rfl (by kernel_rfl) (by kernel_rfl) (by kernel_rfl) (fun _ _ _ h => h) (Or.inr ⟨by kernel_rfl, rfl⟩) hHeld ?_
                    simp only [Act.put, List.getElem_toArray, List.getElem_cons_zero, List.getElem_cons_succ, List.setIfInBounds_toArray, List.set_cons_zero, List.set_cons_succ]
                    refine wpAnyH_take (i := 13) (v := undef) rfl (by kernel_rfl) (by kernel_rfl) (by kernel_rfl) (fun _ _ _ h => h) (Or.inr ⟨by kernel_rfl, rfl⟩) hHeld ?_
                    simp only [Act.put, List.getElem_toArray, List.getElem_cons_zero, List.getElem_cons_succ, List.setIfInBounds_toArray, List.set_cons_zero, List.set_cons_succ]
                    refine wpAnyH_take (i := 14) (v := undef) rfl (by kernel_rfl) (by kernel_rfl) (by kernel_rfl) (fun _ _ _ h => h) (Or.inr ⟨by kernel_rfl, rfl⟩) hHeld ?_
                    simp only [Act.put, List.getElem_toArray, List.getElem_cons_zero, List.getElem_cons_succ, List.setIfInBounds_toArray, List.set_cons_zero, List.set_cons_succ]
                    refine wpAnyH_take (i := 15) (v := undef) rfl (by kernel_rfl) (by kernel_rfl) (by kernel_rfl) (fun _ _ _ h => h) (Or.inr ⟨by kernel_rfl, rfl⟩) hHeld ?_
                    simp only [Act.put, List.getElem_toArray, List.getElem_cons_zero, List.getElem_cons_succ, List.setIfInBounds_toArray, List.set_cons_zero, List.set_cons_succ]
                    refine wpAnyH_take (i := 16) (v := undef) rfl (by kernel_rfl) (by kernel_rfl) (by kernel_rfl) (fun _ _ _ h => h) (Or.inr ⟨by kernel_rfl, rfl⟩) hHeld ?_
                    simp only [Act.put, List.getElem_toArray, List.getElem_cons_zero, List.getElem_cons_succ, List.setIfInBounds_toArray, List.set_cons_zero, List.set_cons_succ]
                    refine wpAnyH_take (i := 17) (v := .bool false) rfl (by kernel_rfl) (by kernel_rfl) (by kernel_rfl) (fun _ _ _ h => h) (Or.inl ⟨by kernel_rfl, fun _ _ => by go_simp⟩) hHeld ?_
                    simp only [Act.put, List.getElem_toArray, List.getElem_cons_zero, List.getElem_cons_succ, List.setIfInBounds_toArray, List.set_cons_zero, List.set_cons_succ]
                    refine wpAnyH_done (by kernel_rfl) ?_ _
                    have HZ := hide hHeld
                    clear hHeld
                    go_wp2
                    go_roundw
                    case rel => exact ⟨k + 1, by omega, by go_num, HZ⟩
                    case measure => simp [intOf]; omega
                  · have hlt2 : ¬ (k : Int) < li.length := by omega
                    clear hlt
                    go_wp2_with fail
                    refine (HAL.out _).mono ?_
                    rintro e wz ⟨rfl, bz⟩
                    have BZ := hide (Below.trans BBX.out (bz.mono (BBX.out).size))
                    clear bz
                    go_wp2
                    go_ret
                    exact ⟨rfl, BZ.out⟩
              | true =>
                cases hTj : (T == [106, 97, 118, 97, 115, 99, 114, 105, 112, 116]) with
                | false =>
                  rw [hTj] at eT
                  clear hJS hTj
                  go_enter Tryz.func3, Tryz.ntmps3
                  go_wp2_with fail
                  refine (HSM.out _ BB.out).mono ?_
                  rintro e w1 ⟨rfl, b1⟩
                  have B1 := hide (B0.out.trans (b1.mono B0.out.size))
                  clear b1 c0 c1 c2 c3 c4 a0 a1
                  obtain ⟨a0, a1, ab⟩ := HBA.out _ B1.out
                  obtain ⟨c0, c1, c2, c3, c4, bb⟩ := HB.out _ ab
                  have BB1 := hide bb
                  clear ab bb
                  go_wp2_with fail
                  refine (HA.out _ BB1.out).mono ?_
                  rintro e w2 ⟨rfl, b2⟩
                  have B2 := hide (B1.out.trans (b2.mono B1.out.size))
                  clear b2 c0 c1 c2 c3 c4 a0 a1
                  obtain ⟨a0, a1, ab⟩ := HBA.out _ B2.out
                  obtain ⟨c0, c1, c2, c3, c4, bb⟩ := HB.out _ ab
                  have BB2 := hide bb
                  clear ab bb
                  go_wp2_with fail
                  refine (HE.out _ BB2.out).mono ?_
                  rintro e w3 ⟨rfl, b3⟩
                  have B3 := hide (B2.out.trans (b3.mono B2.out.size))
                  clear b3 c0 c1 c2 c3 c4 a0 a1
                  obtain ⟨a0, a1, ab⟩ := HBA.out _ B3.out
                  obtain ⟨c0, c1, c2, c3, c4, bb⟩ := HB.out _ ab
                  have BB3 := hide bb
                  clear ab bb
                  go_wp2_with fail
                  refine (HIS.out _ BB3.out).mono ?_
                  rintro e w4 ⟨rfl, b4⟩
                  have B4 := hide (B3.out.trans (b4.mono B3.out.size))
                  clear b4 c0 c1 c2 c3 c4 a0 a1
                  obtain ⟨a0, a1, ab⟩ := HBA.out _ B4.out
                  obtain ⟨c0, c1, c2, c3, c4, bb⟩ := HB.out _ ab
                  have BB4 := hide bb
                  clear ab bb
                  go_wp2_with fail
                  refine (HE.out _ BB4.out).mono ?_
                  rintro e w5 ⟨rfl, b5⟩
                  have B5 := hide (B4.out.trans (b5.mono B4.out.size))
                  clear b5 c0 c1 c2 c3 c4 a0 a1
                  obtain ⟨a0, a1, ab⟩ := HBA.out _ B5.out
                  obtain ⟨c0, c1, c2, c3, c4, bb⟩ := HB.out _ ab
                  have BB5 := hide bb
                  clear ab bb
                  go_wp2_with fail
                  refine (HOF.out _ BB5.out).mono ?_
                  rintro e w6 ⟨rfl, b6⟩
                  have B6 := hide (B5.out.trans (b6.mono B5.out.size))
                  clear b6 c0 c1 c2 c3 c4 a0 a1
                  obtain ⟨a0, a1, ab⟩ := HBA.out _ B6.out
                  obtain ⟨c0, c1, c2, c3, c4, bb⟩ := HB.out _ ab
                  have BB6 := hide bb
                  clear ab bb
                  go_wp2
                  go_loopw [10] (fun i wr => ∃ k : Nat, k ≤ li.length ∧ i = .int .i64 k ∧ Hid (Below ((poW w ⟨rs, li, sc, dr, de, .slice ra rs.length rc, .slice la li.length lc, .slice sa sc.length sc', .slice da dr.length dc⟩).alloc (.cells #[.string z0, .string z1] 27)).heap.size ((poW w ⟨rs, li, sc, dr, de, .slice ra rs.length rc, .slice la li.length lc, .slice sa sc.length sc', .slice da dr.length dc⟩).alloc (.cells #[.string z0, .string z1] 27)) wr)) (fun i _ => li.length - (intOf i).toNat)
                  case atStart => exact ⟨0, Nat.zero_le _, rfl, B6⟩
                  case round =>
                    obtain ⟨k, hk, rfl, HX⟩ := hrel
                    clear a0 a1 c0 c1 c2 c3 c4
                    obtain ⟨a0, a1, ab⟩ := HBA.out _ HX.out
                    obtain ⟨c0, c1, c2, c3, c4, bb⟩ := HB.out _ ab
                    have BBX := hide bb
                    clear ab bb a0 a1 c0 c2 c3 c4
                    by_cases hlt : k < li.length
                    · have hlt2 : (k : Int) < li.length := by omega
                      have HY := hide HX.out.drew
                      go_wp2_with fail
                      refine wp_region_held_drew (S := fun W' => Below ((poW w ⟨rs, li, sc, dr, de, .slice ra rs.length rc, .slice la li.length lc, .slice sa sc.length sc', .slice da dr.length dc⟩).alloc (.cells #[.string z0, .string z1] 27)).heap.size ((poW w ⟨rs, li, sc, dr, de, .slice ra rs.length rc, .slice la li.length lc, .slice sa sc.length sc', .slice da dr.length dc⟩).alloc (.cells #[.string z0, .string z1] 27)) W') (by kernel_rfl) HY.out (fun hHeld => ?_)
                      refine wpAnyH_take (i := 0) (v := .bool true) rfl (by kernel_rfl) (by kernel_rfl) (by kernel_rfl) (fun _ _ _ h => h) (Or.inl ⟨by kernel_rfl, fun _ _ => by go_simp⟩) hHeld ?_
                      simp only [Act.put, List.getElem_toArray, List.getElem_cons_zero, List.getElem_cons_succ, List.setIfInBounds_toArray, List.set_cons_zero, List.set_cons_succ]
                      refine wpAnyH_take (i := 1) (v := .bool true) rfl (by kernel_rfl) (by kernel_rfl) (by kernel_rfl) (fun _ _ _ h => h) (Or.inl ⟨by kernel_rfl, fun _ _ => by go_simp⟩) hHeld ?_
                      simp only [Act.put, List.getElem_toArray, List.getElem_cons_zero, List.getElem_cons_succ, List.setIfInBounds_toArray, List.set_cons_zero, List.set_cons_succ]
                      refine wpAnyH_take (i := 2) (v := .bool true) rfl (by kernel_rfl) (by kernel_rfl) (by kernel_rfl) (fun _ _ _ h => h) (Or.inl ⟨by kernel_rfl, fun _ _ => by go_simp⟩) hHeld ?_
                      simp only [Act.put, List.getElem_toArray, List.getElem_cons_zero, List.getElem_cons_succ, List.setIfInBounds_toArray, List.set_cons_zero, List.set_cons_succ]
                      refine wpAnyH_take (i := 3) (v := .bool true) rfl (by kernel_rfl) (by kernel_rfl) (by kernel_rfl) (fun _ _ _ h => h) (Or.inl ⟨by kernel_rfl, fun _ _ => by go_simp⟩) hHeld ?_
                      simp only [Act.put, List.getElem_toArray, List.getElem_cons_zero, List.getElem_cons_succ, List.setIfInBounds_toArray, List.set_cons_zero, List.set_cons_succ]
                      refine wpAnyH_take (i := 4) (v := .bool true) rfl (by kernel_rfl) (by kernel_rfl) (by kernel_rfl) (fun _ _ _ h => h) (Or.inl ⟨by kernel_rfl, fun _ _ => by go_simp⟩) hHeld ?_
                      simp only [Act.put, List.getElem_toArray, List.getElem_cons_zero, List.getElem_cons_succ, List.setIfInBounds_toArray, List.set_cons_zero, List.set_cons_succ]
                      refine wpAnyH_take (i := 5) (v := ?_) rfl (by kernel_rfl) (by kernel_rfl) (by kernel_rfl) (fun _ _ _ h => h) (Or.inl ⟨by kernel_rfl, ?_⟩) hHeld ?_
                      rotate_left
                      · intro W hSw
                        clear hSw
                        go_simp <;> with_reducible rfl
                      simp only [Act.put, List.getElem_toArray, List.getElem_cons_zero, List.getElem_cons_succ, List.setIfInBounds_toArray, List.set_cons_zero, List.set_cons_succ]
                      refine wpAnyH_take (i := 6) (v := .bool false) rfl (by kernel_rfl) (by kernel_rfl) (by kernel_rfl) (fun _ _ _ h => h) (Or.inl ⟨by kernel_rfl, fun _ _ => by go_simp⟩) hHeld ?_
                      simp only [Act.put, List.getElem_toArray, List.getElem_cons_zero, List.getElem_cons_succ, List.setIfInBounds_toArray, List.set_cons_zero, List.set_cons_succ]
                      refine wpAnyH_take (i := 7) (v := .bool false) rfl (by kernel_rfl) (by kernel_rfl) (by kernel_rfl) (fun _ _ _ h => h) (Or.inl ⟨by kernel_rfl, fun _ _ => by go_simp⟩) hHeld ?_
                      simp only [Act.put, List.getElem_toArray, List.getElem_cons_zero, List.getElem_cons_succ, List.setIfInBounds_toArray, List.set_cons_zero, List.set_cons_succ]
                      refine wpAnyH_take (i := 8) (v := .bool false) rfl (by kernel_rfl) (by kernel_rfl) (by kernel_rfl) (fun _ _ _ h => h) (Or.inl ⟨by kernel_rfl, fun _ _ => by go_simp⟩) hHeld ?_
                      simp only [Act.put, List.getElem_toArray, List.getElem_cons_zero, List.getElem_cons_succ, List.setIfInBounds_toArray, List.set_cons_zero, List.set_cons_succ]
                      refine wpAnyH_take (i := 9) (v := undef) rfl (by kernel_rfl) (by kernel_rfl) (by kernel_rfl) (fun _ _ _ h => h) (Or.inr ⟨by kernel_rfl, rfl⟩) hHeld ?_
                      simp only [Act.put, List.getElem_toArray, List.getElem_cons_zero, List.getElem_cons_succ, List.setIfInBounds_toArray, List.set_cons_zero, List.set_cons_succ]
                      refine wpAnyH_take (i := 10) (v := undef) rfl (by kernel_rfl) (by kernel_rfl) (by kernel_rfl) (fun _ _ _ h => h) (Or.inr ⟨by kernel_rfl, rfl⟩) hHeld ?_
                      simp only [Act.put, List.getElem_toArray, List.getElem_cons_zero, List.getElem_cons_succ, List.setIfInBounds_toArray, List.set_cons_zero, List.set_cons_succ]
                      refine wpAnyH_take (i := 11) (v := undef) rfl (by kernel_rfl) (by kernel_rfl) (by kernel_rfl) (fun _ _ _ h => h) (Or.inr ⟨by kernel_rfl, rfl⟩) hHeld ?_
                      simp only [Act.put, List.getElem_toArray, List.getElem_cons_zero, List.getElem_cons_succ, List.setIfInBounds_toArray, List.set_cons_zero, List.set_cons_succ]
                      refine wpAnyH_take (i := 12) (v := undef) rfl (by kernel_rfl) (by kernel_rfl) (by kernel_rfl) (fun _ _ _ h => h) (Or.inr ⟨by kernel_rfl, rfl⟩) hHeld ?_
                      simp only [Act.put, List.getElem_toArray, List.getElem_cons_zero, List.getElem_cons_succ, List.setIfInBounds_toArray, List.set_cons_zero, List.set_cons_succ]
                      refine wpAnyH_take (i := 13) (v := undef) rfl (by kernel_rfl) (by kernel_rfl) (by kernel_rfl) (fun _ _ _ h => h) (Or.inr ⟨by kernel_rfl, rfl⟩) hHeld ?_
                      simp only [Act.put, List.getElem_toArray, List.getElem_cons_zero, List.getElem_cons_succ, List.setIfInBounds_toArray, List.set_cons_zero, List.set_cons_succ]
                      refine wpAnyH_take (i := 14) (v := undef) rfl (by kernel_rfl) (by kernel_rfl) (by kernel_rfl) (fun _ _ _ h => h) (Or.inr ⟨by kernel_rfl, rfl⟩) hHeld ?_
                      simp only [Act.put, List.getElem_toArray, List.getElem_cons_zero, List.getElem_cons_succ, List.setIfInBounds_toArray, List.set_cons_zero, List.set_cons_succ]
                      refine wpAnyH_take (i := 15) (v := undef) rfl (by kernel_rfl) (by kernel_rfl) (by kernel_rfl) (fun _ _ _ h => h) (Or.inr ⟨by kernel_rfl, rfl⟩) hHeld ?_
                      simp only [Act.put, List.getElem_toArray, List.getElem_cons_zero, List.getElem_cons_succ, List.setIfInBounds_toArray, List.set_cons_zero, List.set_cons_succ]
                      refine wpAnyH_take (i := 16) (v := undef) rfl (by kernel_rfl) (by kernel_rfl) (by kernel_rfl) (fun _ _ _ h => h) (Or.inr ⟨by kernel_rfl, rfl⟩) hHeld ?_
                      simp only [Act.put, List.getElem_toArray, List.getElem_cons_zero, List.getElem_cons_succ, List.setIfInBounds_toArray, List.set_cons_zero, List.set_cons_succ]
                      refine wpAnyH_take (i := 17) (v := .bool false) rfl (by kernel_rfl) (by kernel_rfl) (by kernel_rfl) (fun _ _ _ h => h) (Or.inl ⟨by kernel_rfl, fun _ _ => by go_simp⟩) hHeld ?_
                      simp only [Act.put, List.getElem_toArray, List.getElem_cons_zero, List.getElem_cons_succ, List.setIfInBounds_toArray, List.set_cons_zero, List.set_cons_succ]
                      refine wpAnyH_done (by kernel_rfl) ?_ _
                      have HZ := hide hHeld
                      clear hHeld
                      go_wp2
                      go_roundw
                      case rel => exact ⟨k + 1, by omega, by go_num, HZ⟩
                      case measure => simp [intOf]; omega
                    · have hlt2 : ¬ (k : Int) < li.length := by omega
                      clear hlt
                      go_wp2_with fail
                      refine (HAL.out _).mono ?_
                      rintro e wz ⟨rfl, bz⟩
                      have BZ := hide (Below.trans BBX.out (bz.mono (BBX.out).size))
                      clear bz
                      go_wp2
                      go_ret
                      exact ⟨rfl, BZ.out⟩
                | true =>
                  rw [hTj] at eT
                  have HJ := hide (hJS rfl rfl (beq_iff_eq.1 hTj))
                  clear hJS hTj
                  go_enter Tryz.func3, Tryz.ntmps3
                  go_wp2_with fail
                  refine (HSM.out _ BB.out).mono ?_
                  rintro e w1 ⟨rfl, b1⟩
                  have B1 := hide (B0.out.trans (b1.mono B0.out.size))
                  clear b1 c0 c1 c2 c3 c4 a0 a1
                  obtain ⟨a0, a1, ab⟩ := HBA.out _ B1.out
                  obtain ⟨c0, c1, c2, c3, c4, bb⟩ := HB.out _ ab
                  have BB1 := hide bb
                  clear ab bb
                  go_wp2_with fail
                  refine (HA.out _ BB1.out).mono ?_
                  rintro e w2 ⟨rfl, b2⟩
                  have B2 := hide (B1.out.trans (b2.mono B1.out.size))
                  clear b2 c0 c1 c2 c3 c4 a0 a1
                  obtain ⟨a0, a1, ab⟩ := HBA.out _ B2.out
                  obtain ⟨c0, c1, c2, c3, c4, bb⟩ := HB.out _ ab
                  have BB2 := hide bb
                  clear ab bb
                  go_wp2_with fail
                  refine (HE.out _ BB2.out).mono ?_
                  rintro e w3 ⟨rfl, b3⟩
                  have B3 := hide (B2.out.trans (b3.mono B2.out.size))
                  clear b3 c0 c1 c2 c3 c4 a0 a1
                  obtain ⟨a0, a1, ab⟩ := HBA.out _ B3.out
                  obtain ⟨c0, c1, c2, c3, c4, bb⟩ := HB.out _ ab
                  have BB3 := hide bb
                  clear ab bb
                  go_wp2_with fail
                  refine (HIS.out _ BB3.out).mono ?_
                  rintro e w4 ⟨rfl, b4⟩
                  have B4 := hide (B3.out.trans (b4.mono B3.out.size))
                  clear b4 c0 c1 c2 c3 c4 a0 a1
                  obtain ⟨a0, a1, ab⟩ := HBA.out _ B4.out
                  obtain ⟨c0, c1, c2, c3, c4, bb⟩ := HB.out _ ab
                  have BB4 := hide bb
                  clear ab bb
                  go_wp2_with fail
                  refine (HE.out _ BB4.out).mono ?_
                  rintro e w5 ⟨rfl, b5⟩
                  have B5 := hide (B4.out.trans (b5.mono B4.out.size))
                  clear b5 c0 c1 c2 c3 c4 a0 a1
                  obtain ⟨a0, a1, ab⟩ := HBA.out _ B5.out
                  obtain ⟨c0, c1, c2, c3, c4, bb⟩ := HB.out _ ab
                  have BB5 := hide bb
                  clear ab bb
                  go_wp2_with fail
                  refine (HOF.out _ BB5.out).mono ?_
                  rintro e w6 ⟨rfl, b6⟩
                  have B6 := hide (B5.out.trans (b6.mono B5.out.size))
                  clear b6 c0 c1 c2 c3 c4 a0 a1
                  obtain ⟨a0, a1, ab⟩ := HBA.out _ B6.out
                  obtain ⟨c0, c1, c2, c3, c4, bb⟩ := HB.out _ ab
                  have BB6 := hide bb
                  clear ab bb
                  go_wp2
                  go_loopw [10] (fun i wr => ∃ k : Nat, k ≤ li.length ∧ i = .int .i64 k ∧ Hid (Below ((poW w ⟨rs, li, sc, dr, de, .slice ra rs.length rc, .slice la li.length lc, .slice sa sc.length sc', .slice da dr.length dc⟩).alloc (.cells #[.string z0, .string z1] 27)).heap.size ((poW w ⟨rs, li, sc, dr, de, .slice ra rs.length rc, .slice la li.length lc, .slice sa sc.length sc', .slice da dr.length dc⟩).alloc (.cells #[.string z0, .string z1] 27)) wr)) (fun i _ => li.length - (intOf i).toNat)
                  case atStart => exact ⟨0, Nat.zero_le _, rfl, B6⟩
                  case round =>
                    obtain ⟨k, hk, rfl, HX⟩ := hrel
                    clear a0 a1 c0 c1 c2 c3 c4
                    obtain ⟨a0, a1, ab⟩ := HBA.out _ HX.out
                    obtain ⟨c0, c1, c2, c3, c4, bb⟩ := HB.out _ ab
                    have BBX := hide bb
                    clear ab bb a0 a1 c0 c2 c3 c4
                    by_cases hlt : k < li.length
                    · have hlt2 : (k : Int) < li.length := by omega
                      have HY := hide HX.out.drew
                      have en := among_at hlt HJ.out
                      obtain ⟨bl, ol, rfl, hd⟩ := HGL.out.at_ k _ (List.getElem?_eq_getElem hlt)
                      have HD := hide hd
                      clear hd
                      generalize (⟨(li[k]).toArray⟩ : ByteArray) = y at *
                      go_wp2_with fail
                      refine wp_region_held_drew (S := fun W' => Below ((poW w ⟨rs, li, sc, dr, de, .slice ra rs.length rc, .slice (some ⟨bl, ol, none⟩) li.length lc, .slice sa sc.length sc', .slice da dr.length dc⟩).alloc (.cells #[.string z0, .string z1] 27)).heap.size ((poW w ⟨rs, li, sc, dr, de, .slice ra rs.length rc, .slice (some ⟨bl, ol, none⟩) li.length lc, .slice sa sc.length sc', .slice da dr.length dc⟩).alloc (.cells #[.string z0, .string z1] 27)) W') (by kernel_rfl) HY.out (fun hHeld => ?_)
                      refine wpAnyH_take (i := 0) (v := .bool true) rfl (by kernel_rfl) (by kernel_rfl) (by kernel_rfl) (fun _ _ _ h => h) (Or.inl ⟨by kernel_rfl, fun _ _ => by go_simp⟩) hHeld ?_
                      simp only [Act.put, List.getElem_toArray, List.getElem_cons_zero, List.getElem_cons_succ, List.setIfInBounds_toArray, List.set_cons_zero, List.set_cons_succ]
                      refine wpAnyH_take (i := 1) (v := .bool true) rfl (by kernel_rfl) (by kernel_rfl) (by kernel_rfl) (fun _ _ _ h => h) (Or.inl ⟨by kernel_rfl, fun _ _ => by go_simp⟩) hHeld ?_
                      simp only [Act.put, List.getElem_toArray, List.getElem_cons_zero, List.getElem_cons_succ, List.setIfInBounds_toArray, List.set_cons_zero, List.set_cons_succ]
                      refine wpAnyH_take (i := 2) (v := .bool true) rfl (by kernel_rfl) (by kernel_rfl) (by kernel_rfl) (fun _ _ _ h => h) (Or.inl ⟨by kernel_rfl, fun _ _ => by go_simp⟩) hHeld ?_
                      simp only [Act.put, List.getElem_toArray, List.getElem_cons_zero, List.getElem_cons_succ, List.setIfInBounds_toArray, List.set_cons_zero, List.set_cons_succ]
                      refine wpAnyH_take (i := 3) (v := .bool true) rfl (by kernel_rfl) (by kernel_rfl) (by kernel_rfl) (fun _ _ _ h => h) (Or.inl ⟨by kernel_rfl, fun _ _ => by go_simp⟩) hHeld ?_
                      simp only [Act.put, List.getElem_toArray, List.getElem_cons_zero, List.getElem_cons_succ, List.setIfInBounds_toArray, List.set_cons_zero, List.set_cons_succ]
                      refine wpAnyH_take (i := 4) (v := .bool true) rfl (by kernel_rfl) (by kernel_rfl) (by kernel_rfl) (fun _ _ _ h => h) (Or.inl ⟨by kernel_rfl, fun _ _ => by go_simp⟩) hHeld ?_
                      simp only [Act.put, List.getElem_toArray, List.getElem_cons_zero, List.getElem_cons_succ, List.setIfInBounds_toArray, List.set_cons_zero, List.set_cons_succ]
                      refine wpAnyH_take (i := 5) (v := ?_) rfl (by kernel_rfl) (by kernel_rfl) (by kernel_rfl) (fun _ _ _ h => h) (Or.inl ⟨by kernel_rfl, ?_⟩) hHeld ?_
                      rotate_left
                      · intro W hSw
                        clear hSw
                        go_simp <;> with_reducible rfl
                      simp only [Act.put, List.getElem_toArray, List.getElem_cons_zero, List.getElem_cons_succ, List.setIfInBounds_toArray, List.set_cons_zero, List.set_cons_succ]
                      refine wpAnyH_take (i := 6) (v := .bool true) rfl (by kernel_rfl) (by kernel_rfl) (by kernel_rfl) (fun _ _ _ h => h) (Or.inl ⟨by kernel_rfl, fun _ _ => by go_simp⟩) hHeld ?_
                      simp only [Act.put, List.getElem_toArray, List.getElem_cons_zero, List.getElem_cons_succ, List.setIfInBounds_toArray, List.set_cons_zero, List.set_cons_succ]
                      refine wpAnyH_take (i := 7) (v := .bool true) rfl (by kernel_rfl) (by kernel_rfl) (by kernel_rfl) (fun _ _ _ h => h) (Or.inl ⟨by kernel_rfl, fun _ _ => by go_simp⟩) hHeld ?_
                      simp only [Act.put, List.getElem_toArray, List.getElem_cons_zero, List.getElem_cons_succ, List.setIfInBounds_toArray, List.set_cons_zero, List.set_cons_succ]
                      refine wpAnyH_take (i := 8) (v := .bool true) rfl (by kernel_rfl) (by kernel_rfl) (by kernel_rfl) (fun _ _ _ h => h) (Or.inl ⟨by kernel_rfl, fun _ _ => by go_simp⟩) hHeld ?_
                      simp only [Act.put, List.getElem_toArray, List.getElem_cons_zero, List.getElem_cons_succ, List.setIfInBounds_toArray, List.set_cons_zero, List.set_cons_succ]
                      refine wpAnyH_take (i := 9) (v := ?_) rfl (by kernel_rfl) (by kernel_rfl) (by kernel_rfl) (fun _ _ _ h => h) (Or.inl ⟨by kernel_rfl, ?_⟩) hHeld ?_
                      rotate_left
                      · intro W hSw
                        clear hSw
                        go_simp <;> with_reducible rfl
                      simp only [Act.put, List.getElem_toArray, List.getElem_cons_zero, List.getElem_cons_succ, List.setIfInBounds_toArray, List.set_cons_zero, List.set_cons_succ]
                      refine wpAnyH_take (i := 10) (v := ?_) rfl (by kernel_rfl) (by kernel_rfl) (by kernel_rfl) (fun _ _ _ h => h) (Or.inl ⟨by kernel_rfl, ?_⟩) hHeld ?_
                      rotate_left
                      · intro W hSw
                        have c1 := (HB.out _ (HBA.out _ hSw).2.2).2.1
                        clear hSw
                        go_simp <;> with_reducible rfl
                      simp only [Act.put, List.getElem_toArray, List.getElem_cons_zero, List.getElem_cons_succ, List.setIfInBounds_toArray, List.set_cons_zero, List.set_cons_succ]
                      refine wpAnyH_take (i := 11) (v := ?_) rfl (by kernel_rfl) (by kernel_rfl) (by kernel_rfl) (fun _ _ _ h => h) (Or.inl ⟨by kernel_rfl, ?_⟩) hHeld ?_
                      rotate_left
                      · intro W hSw
                        clear hSw
                        go_simp <;> with_reducible rfl
                      simp only [Act.put, List.getElem_toArray, List.getElem_cons_zero, List.getElem_cons_succ, List.setIfInBounds_toArray, List.set_cons_zero, List.set_cons_succ]
                      refine wpAnyH_take (i := 12) (v := ?_) rfl (by kernel_rfl) (by kernel_rfl) (by kernel_rfl) (fun _ _ _ h => h) (Or.inl ⟨by kernel_rfl, ?_⟩) hHeld ?_
                      rotate_left
                      · intro W hSw
                        clear hSw
                        go_simp <;> with_reducible rfl
                      simp only [Act.put, List.getElem_toArray, List.getElem_cons_zero, List.getElem_cons_succ, List.setIfInBounds_toArray, List.set_cons_zero, List.set_cons_succ]
                      refine wpAnyH_take (i := 13) (v := ?_) rfl (by kernel_rfl) (by kernel_rfl) (by kernel_rfl) (fun _ _ _ h => h) (Or.inl ⟨by kernel_rfl, ?_⟩) hHeld ?_
                      rotate_left
                      · intro W hSw
                        have d1 := HD.out _ (HB.out _ (HBA.out _ hSw).2.2).2.2.2.2.2
                        clear hSw
                        go_simp <;> with_reducible rfl
                      simp only [Act.put, List.getElem_toArray, List.getElem_cons_zero, List.getElem_cons_succ, List.setIfInBounds_toArray, List.set_cons_zero, List.set_cons_succ]
                      refine wpAnyH_take (i := 14) (v := ?_) rfl (by kernel_rfl) (by kernel_rfl) (by kernel_rfl) (fun _ _ _ h => h) (Or.inl ⟨by kernel_rfl, ?_⟩) hHeld ?_
                      rotate_left
                      · intro W hSw
                        clear hSw
                        go_simp <;> with_reducible rfl
                      simp only [Act.put, List.getElem_toArray, List.getElem_cons_zero, List.getElem_cons_succ, List.setIfInBounds_toArray, List.set_cons_zero, List.set_cons_succ]
                      refine wpAnyH_take (i := 15) (v := ?_) rfl (by kernel_rfl) (by kernel_rfl) (by kernel_rfl) (fun _ _ _ h => h) (Or.inl ⟨by kernel_rfl, ?_⟩) hHeld ?_
                      rotate_left
                      · intro W hSw
                        have a0 := (HBA.out _ hSw).1
                        clear hSw
                        go_simp <;> with_reducible rfl
                      simp only [Act.put, List.getElem_toArray, List.getElem_cons_zero, List.getElem_cons_succ, List.setIfInBounds_toArray, List.set_cons_zero, List.set_cons_succ]
                      refine wpAnyH_take (i := 16) (v := .bool false) rfl (by kernel_rfl) (by kernel_rfl) (by kernel_rfl) (fun _ _ _ h => h) (Or.inl ⟨by kernel_rfl, fun _ _ => by go_simp⟩) hHeld ?_
                      simp only [Act.put, List.getElem_toArray, List.getElem_cons_zero, List.getElem_cons_succ, List.setIfInBounds_toArray, List.set_cons_zero, List.set_cons_succ]
                      refine wpAnyH_take (i := 17) (v := .bool false) rfl (by kernel_rfl) (by kernel_rfl) (by kernel_rfl) (fun _ _ _ h => h) (Or.inl ⟨by kernel_rfl, fun _ _ => by go_simp⟩) hHeld ?_
                      simp only [Act.put, List.getElem_toArray, List.getElem_cons_zero, List.getElem_cons_succ, List.setIfInBounds_toArray, List.set_cons_zero, List.set_cons_succ]
                      refine wpAnyH_done (by kernel_rfl) ?_ _
                      have HZ := hide hHeld
                      clear hHeld
                      go_wp2
                      go_roundw
                      case rel => exact ⟨k + 1, by omega, by go_num, HZ⟩
                      case measure => simp [intOf]; omega
                    · have hlt2 : ¬ (k : Int) < li.length := by omega
                      clear hlt
                      go_wp2_with fail
                      refine (HAL.out _).mono ?_
                      rintro e wz ⟨rfl, bz⟩
                      have BZ := hide (Below.trans BBX.out (bz.mono (BBX.out).size))
                      clear bz
                      go_wp2
                      go_ret
                      exact ⟨rfl, BZ.out⟩
end Go.Proofs.YtfjganjihapnhabGreatDoor
