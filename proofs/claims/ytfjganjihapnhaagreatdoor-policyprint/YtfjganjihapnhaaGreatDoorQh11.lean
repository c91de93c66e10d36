/- What the document's Print answers. -/
import Derived.Test.YtfjganjihapnhaaGreatDoorQg11
set_option linter.unusedVariables false
set_option linter.unusedSimpArgs false
set_option maxRecDepth 4000
namespace Go.Proofs.YtfjganjihapnhaaGreatDoor
open Go.RowKit

theorem fig_at : ∀ i < 10, ((⟨#[48, 49, 50, 51, 52, 53, 54, 55, 56, 57]⟩ : ByteArray).extract i (i + 1)).data.toList = figL i := by decide +kernel
theorem put_one (f x : Bs) : putL f [x] = saidL f [x] := by unfold putL; rw [if_neg (by simp)]
theorem num_two (d : Nat) (h : 10 ≤ d) (h2 : d < 100) : ((⟨#[48, 49, 50, 51, 52, 53, 54, 55, 56, 57]⟩ : ByteArray).extract (d / 10) (d / 10 + 1) ++ (⟨#[48, 49, 50, 51, 52, 53, 54, 55, 56, 57]⟩ : ByteArray).extract (d % 10) (d % 10 + 1)).data.toList = numL d := by
  rw [str_app _ _ _ _ (fig_at (d / 10) (by omega)) (fig_at (d % 10) (by omega))]
  unfold numL
  rw [if_pos h]
theorem num_one (d : Nat) (h : ¬ 10 ≤ d) : ((⟨#[48, 49, 50, 51, 52, 53, 54, 55, 56, 57]⟩ : ByteArray).extract (d % 10) (d % 10 + 1)).data.toList = numL d := by
  rw [fig_at (d % 10) (by omega)]
  unfold numL
  rw [if_neg h]
  unfold figL
  rw [Nat.mod_mod]
theorem num_len (d : Nat) : (numL d).length ≤ 2 := by
  unfold numL figL
  split <;> simp
set_option maxHeartbeats 4000000 in
theorem rprint_any (p : PV) (hp : CapP p) (w : World) (hI : IsPo w p) :
    Calls Tryz.prog 17 #[poA p] w fun e w' => e = .returned (.tuple #[.string ⟨(printP p.po).1.toArray⟩, .int .i64 (printP p.po).2]) ∧ Below w.heap.size w w' := by
  have H1 := hide (fun x (b : Below w.heap.size w x) => rcheck_any p hp x (hI.below b))
  have hPR := print_is p
  have hDE := @check_deep p.po
  unfold printP
  have hS := hp.s
  generalize checkP p.po = c at *
  generalize printL p.po = PL at *
  have hdd : p.po.de = p.de := rfl
  rw [hdd] at hDE
  clear hdd
  have hrl : p.rs.length ≤ 1000 := hS.r
  have HRL := hide (fun k => rulesP_len (p.rs.take k) (fun r hr => hS.a r (List.mem_of_mem_take hr)))
  have HSL := hide (show (p.li.length ≤ 2000 ∧ (∀ x ∈ p.li, x.length ≤ 1000000)) ∧ (p.sc.length ≤ 2000 ∧ (∀ x ∈ p.sc, x.length ≤ 1000000)) ∧ (p.dr.length ≤ 2000 ∧ (∀ x ∈ p.dr, x.length ≤ 1000000)) from ⟨⟨by have := hS.l; omega, hS.ll⟩, ⟨by have := hS.s; omega, hS.ls⟩, ⟨by have := hS.d; omega, hS.ld⟩⟩)
  have HS1 := hide (fun x (b : Below w.heap.size w x) => said_any ⟨#[108, 105, 110, 107]⟩ p.li (by have := hS.l; omega) hS.ll (by decide) p.lv x (hI.l.below b))
  have HS2 := hide (fun x (b : Below w.heap.size w x) => said_any ⟨#[115, 99, 104, 101, 109, 101]⟩ p.sc (by have := hS.s; omega) hS.ls (by decide) p.sv x (hI.s.below b))
  have HS3 := hide (fun x (b : Below w.heap.size w x) => said_any ⟨#[100, 114, 111, 112]⟩ p.dr (by have := hS.d; omega) hS.ld (by decide) p.dv x (hI.d.below b))
  have HSR := hide (fun k r (hk : p.rs[k]? = some r) (t : ByteArray) (ht : t.size ≤ 2000000) x (b : Below w.heap.size w x) => said_any t r.at_ (by have := (hS.a r (List.mem_of_getElem? hk)).1; omega) (hS.a r (List.mem_of_getElem? hk)).2.2 ht r.av x ((hI.r.2 r (List.mem_of_getElem? hk)).below b))
  have HRN := hide (fun k r (hk : p.rs[k]? = some r) => (hS.a r (List.mem_of_getElem? hk)).2.1)
  clear hS
  have HB := hide (fun x (b : Below (poW w p).heap.size (poW w p) x) => po_box w p b)
  obtain ⟨rs, li, sc, dr, de, rv, lv, sv, dv⟩ := p
  simp only [] at *
  have gr : IsR w rv rs := hI.r
  have gl : IsW w lv li := hI.l
  have gs : IsW w sv sc := hI.s
  have gd : IsW w dv dr := hI.d
  obtain ⟨ra, rc, rfl⟩ := gr.form
  obtain ⟨la, lc, rfl⟩ := gl.form
  obtain ⟨sa, sc', rfl⟩ := gs.form
  obtain ⟨da, dc, rfl⟩ := gd.form
  clear gl gs gd
  have HAT := hide (fun k r (hk : rs[k]? = some r) => gr.at_ k r hk)
  have B0 := hide (Below.refl (poW w ⟨rs, li, sc, dr, de, .slice ra rs.length rc, .slice la li.length lc, .slice sa sc.length sc', .slice da dr.length dc⟩).heap.size (poW w ⟨rs, li, sc, dr, de, .slice ra rs.length rc, .slice la li.length lc, .slice sa sc.length sc', .slice da dr.length dc⟩))
  obtain ⟨c0, c1, c2, c3, c4, bb⟩ := HB.out _ B0.out
  have BB := hide bb
  clear hI bb gr hp
  by_cases hc : c = 0
  · subst hc
    rw [if_pos rfl]
    obtain ⟨n1, n2⟩ := hDE rfl
    obtain ⟨d, rfl⟩ : ∃ d : Nat, de = (d : Int) := ⟨de.toNat, by omega⟩
    have hd60 : d ≤ 60 := by omega
    have hnl : ((d : Int)).toNat = d := by omega
    rw [hnl] at hPR
    have HPR := hide hPR
    clear hPR hnl hDE n1 n2
    have t1 : Int.tmod (d : Int) 10 = ((d % 10 : Nat) : Int) := by rw [Int.tmod_eq_emod_of_nonneg (by omega)]; omega
    have t2 : Int.tdiv (d : Int) 10 = ((d / 10 : Nat) : Int) := by rw [Int.tdiv_eq_ediv_of_nonneg (by omega)]; omega
    have t3 : wrap64 (((d % 10 : Nat) : Int) + 1) = ((d % 10 + 1 : Nat) : Int) := by unfold wrap64; omega
    have t4 : wrap64 (((d / 10 : Nat) : Int) + 1) = ((d / 10 + 1 : Nat) : Int) := by unfold wrap64; omega
    go_enter Tryz.func17, Tryz.ntmps17
    go_wp2_with fail
    refine (H1.out _ BB.out).mono ?_
    rintro e w1 ⟨rfl, b1⟩
    have B1 := hide (B0.out.trans (b1.mono B0.out.size))
    clear b1 c0 c1 c2 c3 c4 H1
    obtain ⟨c0, c1, c2, c3, c4, bb⟩ := HB.out _ B1.out
    have BB1 := hide bb
    clear bb
    by_cases h10 : 10 ≤ d
    · have h10i : (10 : Int) ≤ d := by omega
      go_wp2_with fail
      have hds := num_two d h10 (by omega)
      rw [← hds] at HPR
      have hdl : (((⟨#[48, 49, 50, 51, 52, 53, 54, 55, 56, 57]⟩ : ByteArray).extract (d / 10) (d / 10 + 1) ++ (⟨#[48, 49, 50, 51, 52, 53, 54, 55, 56, 57]⟩ : ByteArray).extract (d % 10) (d % 10 + 1))).data.toList.length ≤ 2 := by rw [hds]; exact num_len d
      generalize ((⟨#[48, 49, 50, 51, 52, 53, 54, 55, 56, 57]⟩ : ByteArray).extract (d / 10) (d / 10 + 1) ++ (⟨#[48, 49, 50, 51, 52, 53, 54, 55, 56, 57]⟩ : ByteArray).extract (d % 10) (d % 10 + 1)) = ds at *
      clear hds t1 t2 t3 t4
      have HSD : Hid (Calls Tryz.prog 38 #[.string ⟨#[100, 101, 101, 112]⟩, .slice (some ⟨w1.heap.size, 0, none⟩) 1 1] (w1.alloc (.cells #[.string ds] 9)) fun e w' => e = .returned (.string ⟨(saidL deepN [ds.data.toList]).toArray⟩) ∧ w' = (w1.alloc (.cells #[.string ds] 9))) := hide (said_any ⟨#[100, 101, 101, 112]⟩ [ds.data.toList] (by simp) (fun x hx => by obtain rfl := List.mem_singleton.1 hx; omega) (by decide) _ _ (owns_isW (own_one w1 ds)).1)
      rw [put_one] at HPR
      refine HSD.out.mono ?_
      rintro e w2 ⟨rfl, rfl⟩
      have hz : (⟨(saidL deepN [ds.data.toList]).toArray⟩ : ByteArray).data.toList = saidL deepN [ds.data.toList] := str_data _
      have hsl : (saidL deepN [ds.data.toList]).length ≤ 2000003001 := by rw [← put_one]; exact putL_len deepN _ (by decide) (fun x hx => by obtain rfl := List.mem_singleton.1 hx; omega) (by simp)
      generalize (⟨(saidL deepN [ds.data.toList]).toArray⟩ : ByteArray) = z0 at *
      generalize saidL deepN [ds.data.toList] = D0 at *
      clear HSD hdl
      have B2 := hide (B1.out.trans ((below_alloc w1 (.cells #[.string ds] 9)).mono B1.out.size))
      clear c0 c1 c2 c3 c4
      obtain ⟨c0, c1, c2, c3, c4, bb⟩ := HB.out _ B2.out
      clear bb
      go_wp2
      go_loopw [6, 7] (fun y i wr => ∃ (k : Nat) (z : ByteArray), k ≤ rs.length ∧ i = .int .i64 k ∧ y = .string z ∧ Hid (z.data.toList = D0 ++ rulesP (rs.take k)) ∧ Hid (Below (poW w ⟨rs, li, sc, dr, (d : Int), .slice ra rs.length rc, .slice la li.length lc, .slice sa sc.length sc', .slice da dr.length dc⟩).heap.size (poW w ⟨rs, li, sc, dr, (d : Int), .slice ra rs.length rc, .slice la li.length lc, .slice sa sc.length sc', .slice da dr.length dc⟩) wr)) (fun _ i _ => rs.length - (intOf i).toNat)
      case atStart => exact ⟨0, z0, Nat.zero_le _, rfl, rfl, hide (by rw [hz, List.take_zero, show rulesP [] = [] from rfl, List.append_nil]), B2⟩
      case round =>
        clear c0 c1 c2 c3 c4 B2 hz
        obtain ⟨k, z, hk, rfl, rfl, HZ, HX⟩ := hrel
        obtain ⟨c0, c1, c2, c3, c4, bb⟩ := HB.out _ HX.out
        have BBX := hide bb
        clear bb
        have hzs : z.size ≤ 2000003001 + 1000 * 2000003001 := by
          have hr := HRL.out k
          rw [List.length_take] at hr
          have hr2 : min k rs.length * 2000003001 ≤ 1000 * 2000003001 := Nat.mul_le_mul_right _ (by omega)
          rw [size_list, HZ.out, List.length_append]
          omega
        by_cases hlt : k < rs.length
        · have hlt2 : (k : Int) < rs.length := by omega
          have HY := hide HX.out.drew
          obtain ⟨x, hx⟩ : ∃ x, rs[k]? = some x := ⟨_, List.getElem?_eq_getElem hlt⟩
          obtain ⟨⟨b, o, rfl, hq⟩, hw⟩ := HAT.out k x hx
          obtain ⟨xa, xc, hxf⟩ := hw.form
          have hst := rulesP_step rs k x hx
          have hxn := HRN.out k x hx
          have hsx := HSR.out k x hx ((⟨#[101, 108, 101, 109, 101, 110, 116, 32]⟩ : ByteArray) ++ x.nm) (by rw [size_list, str_app _ _ [101, 108, 101, 109, 101, 110, 116, 32] _ rfl rfl, List.length_append, ← size_list]; simp; omega)
          rw [put_elem] at hst
          have hel : ((⟨#[101, 108, 101, 109, 101, 110, 116, 32]⟩ : ByteArray) ++ x.nm).data.toList = elemN ++ 32 :: x.nm.data.toList := by
            rw [str_app _ _ [101, 108, 101, 109, 101, 110, 116, 32] _ rfl rfl]
            rfl
          rw [hel] at hsx
          have hy : (⟨(saidL (elemN ++ 32 :: x.nm.data.toList) x.at_).toArray⟩ : ByteArray).data.toList = saidL (elemN ++ 32 :: x.nm.data.toList) x.at_ := str_data _
          have hyl : (saidL (elemN ++ 32 :: x.nm.data.toList) x.at_).length ≤ 2000003001 * 1000 := by
            have hr := HRL.out (k + 1)
            rw [hst, List.length_append, List.length_take] at hr
            have hr2 : min (k + 1) rs.length * 2000003001 ≤ 1000 * 2000003001 := Nat.mul_le_mul_right _ (by omega)
            omega
          have hys : (⟨(saidL (elemN ++ 32 :: x.nm.data.toList) x.at_).toArray⟩ : ByteArray).size ≤ 2000003001 * 1000 := by rw [size_list, hy]; exact hyl
          generalize (⟨(saidL (elemN ++ 32 :: x.nm.data.toList) x.at_).toArray⟩ : ByteArray) = y at *
          have HZN : Hid ((z ++ y).data.toList = D0 ++ rulesP (rs.take (k + 1))) := hide (by rw [str_app _ _ _ _ HZ.out hy, hst, List.append_assoc])
          have HSX := hide hsx
          have HD := hide hq
          clear hsx hq hw hx hst hy hyl hel HZ
          obtain ⟨xn, xat, xav⟩ := x
          simp only [] at hxf HSX HD hxn
          subst hxf
          generalize xat.length = xl at *
          have hf1 : ¬ 9223372036854775807 < 8 + xn.size := by omega
          have hf2 : ¬ 9223372036854775807 < z.size + y.size := by omega
          clear c1 c2 c3 c4
          go_wp2_with fail
          refine wp_region_held_drew (S := fun W' => Below (poW w ⟨rs, li, sc, dr, (d : Int), .slice (some ⟨b, o, none⟩) rs.length rc, .slice la li.length lc, .slice sa sc.length sc', .slice da dr.length dc⟩).heap.size (poW w ⟨rs, li, sc, dr, (d : Int), .slice (some ⟨b, o, none⟩) rs.length rc, .slice la li.length lc, .slice sa sc.length sc', .slice da dr.length dc⟩) W') (by kernel_rfl) HY.out (fun hHeld => ?_)
          refine wpAnyH_take (i := 0) (v := ?_) rfl (by kernel_rfl) (by kernel_rfl) (by kernel_rfl) (fun _ _ _ h => h) (Or.inl ⟨by kernel_rfl, ?_⟩) hHeld ?_
          rotate_left
          · intro W hSw
            clear hSw
            go_simp <;> with_reducible rfl
          simp only [Act.put, List.getElem_toArray, List.getElem_cons_zero, List.getElem_cons_succ, List.setIfInBounds_toArray, List.set_cons_zero, List.set_cons_succ]
          refine wpAnyH_take (i := 1) (v := ?_) rfl (by kernel_rfl) (by kernel_rfl) (by kernel_rfl) (fun _ _ _ h => h) (Or.inl ⟨by kernel_rfl, ?_⟩) hHeld ?_
          rotate_left
          · intro W hSw
            clear hSw
            go_simp <;> with_reducible rfl
          simp only [Act.put, List.getElem_toArray, List.getElem_cons_zero, List.getElem_cons_succ, List.setIfInBounds_toArray, List.set_cons_zero, List.set_cons_succ]
          refine wpAnyH_take (i := 2) (v := ?_) rfl (by kernel_rfl) (by kernel_rfl) (by kernel_rfl) (fun _ _ _ h => h) (Or.inl ⟨by kernel_rfl, ?_⟩) hHeld ?_
          rotate_left
          · intro W hSw
            have c0 := (HB.out _ hSw).1
            clear hSw
            go_simp <;> with_reducible rfl
          simp only [Act.put, List.getElem_toArray, List.getElem_cons_zero, List.getElem_cons_succ, List.setIfInBounds_toArray, List.set_cons_zero, List.set_cons_succ]
          refine wpAnyH_take (i := 3) (v := ?_) rfl (by kernel_rfl) (by kernel_rfl) (by kernel_rfl) (fun _ _ _ h => h) (Or.inl ⟨by kernel_rfl, ?_⟩) hHeld ?_
          rotate_left
          · intro W hSw
            clear hSw
            go_simp <;> with_reducible rfl
          simp only [Act.put, List.getElem_toArray, List.getElem_cons_zero, List.getElem_cons_succ, List.setIfInBounds_toArray, List.set_cons_zero, List.set_cons_succ]
          refine wpAnyH_take (i := 4) (v := ?_) rfl (by kernel_rfl) (by kernel_rfl) (by kernel_rfl) (fun _ _ _ h => h) (Or.inl ⟨by kernel_rfl, ?_⟩) hHeld ?_
          rotate_left
          · intro W hSw
            clear hSw
            go_simp <;> with_reducible rfl
          simp only [Act.put, List.getElem_toArray, List.getElem_cons_zero, List.getElem_cons_succ, List.setIfInBounds_toArray, List.set_cons_zero, List.set_cons_succ]
          refine wpAnyH_take (i := 5) (v := ?_) rfl (by kernel_rfl) (by kernel_rfl) (by kernel_rfl) (fun _ _ _ h => h) (Or.inl ⟨by kernel_rfl, ?_⟩) hHeld ?_
          rotate_left
          · intro W hSw
            clear hSw
            go_simp <;> with_reducible rfl
          simp only [Act.put, List.getElem_toArray, List.getElem_cons_zero, List.getElem_cons_succ, List.setIfInBounds_toArray, List.set_cons_zero, List.set_cons_succ]
          refine wpAnyH_take (i := 6) (v := ?_) rfl (by kernel_rfl) (by kernel_rfl) (by kernel_rfl) (fun _ _ _ h => h) (Or.inl ⟨by kernel_rfl, ?_⟩) hHeld ?_
          rotate_left
          · intro W hSw
            obtain ⟨d0, d1⟩ := HD.out _ (HB.out _ hSw).2.2.2.2.2
            clear hSw
            go_simp <;> with_reducible rfl
          simp only [Act.put, List.getElem_toArray, List.getElem_cons_zero, List.getElem_cons_succ, List.setIfInBounds_toArray, List.set_cons_zero, List.set_cons_succ]
          refine wpAnyH_take (i := 7) (v := ?_) rfl (by kernel_rfl) (by kernel_rfl) (by kernel_rfl) (fun _ _ _ h => h) (Or.inl ⟨by kernel_rfl, ?_⟩) hHeld ?_
          rotate_left
          · intro W hSw
            clear hSw
            go_simp <;> with_reducible rfl
          simp only [Act.put, List.getElem_toArray, List.getElem_cons_zero, List.getElem_cons_succ, List.setIfInBounds_toArray, List.set_cons_zero, List.set_cons_succ]
          refine wpAnyH_take (i := 8) (v := ?_) rfl (by kernel_rfl) (by kernel_rfl) (by kernel_rfl) (fun _ _ _ h => h) (Or.inl ⟨by kernel_rfl, ?_⟩) hHeld ?_
          rotate_left
          · intro W hSw
            clear hSw
            go_simp <;> with_reducible rfl
          simp only [Act.put, List.getElem_toArray, List.getElem_cons_zero, List.getElem_cons_succ, List.setIfInBounds_toArray, List.set_cons_zero, List.set_cons_succ]
          refine wpAnyH_take (i := 9) (v := ?_) rfl (by kernel_rfl) (by kernel_rfl) (by kernel_rfl) (fun _ _ _ h => h) (Or.inl ⟨by kernel_rfl, ?_⟩) hHeld ?_
          rotate_left
          · intro W hSw
            have c0 := (HB.out _ hSw).1
            clear hSw
            go_simp <;> with_reducible rfl
          simp only [Act.put, List.getElem_toArray, List.getElem_cons_zero, List.getElem_cons_succ, List.setIfInBounds_toArray, List.set_cons_zero, List.set_cons_succ]
          refine wpAnyH_take (i := 10) (v := ?_) rfl (by kernel_rfl) (by kernel_rfl) (by kernel_rfl) (fun _ _ _ h => h) (Or.inl ⟨by kernel_rfl, ?_⟩) hHeld ?_
          rotate_left
          · intro W hSw
            clear hSw
            go_simp <;> with_reducible rfl
          simp only [Act.put, List.getElem_toArray, List.getElem_cons_zero, List.getElem_cons_succ, List.setIfInBounds_toArray, List.set_cons_zero, List.set_cons_succ]
          refine wpAnyH_take (i := 11) (v := ?_) rfl (by kernel_rfl) (by kernel_rfl) (by kernel_rfl) (fun _ _ _ h => h) (Or.inl ⟨by kernel_rfl, ?_⟩) hHeld ?_
          rotate_left
          · intro W hSw
            clear hSw
            go_simp <;> with_reducible rfl
          simp only [Act.put, List.getElem_toArray, List.getElem_cons_zero, List.getElem_cons_succ, List.setIfInBounds_toArray, List.set_cons_zero, List.set_cons_succ]
          refine wpAnyH_take (i := 12) (v := ?_) rfl (by kernel_rfl) (by kernel_rfl) (by kernel_rfl) (fun _ _ _ h => h) (Or.inl ⟨by kernel_rfl, ?_⟩) hHeld ?_
          rotate_left
          · intro W hSw
            clear hSw
            go_simp <;> with_reducible rfl
          simp only [Act.put, List.getElem_toArray, List.getElem_cons_zero, List.getElem_cons_succ, List.setIfInBounds_toArray, List.set_cons_zero, List.set_cons_succ]
          refine wpAnyH_take (i := 13) (v := ?_) rfl (by kernel_rfl) (by kernel_rfl) (by kernel_rfl) (fun _ _ _ h => h) (Or.inl ⟨by kernel_rfl, ?_⟩) hHeld ?_
          rotate_left
          · intro W hSw
            obtain ⟨d0, d1⟩ := HD.out _ (HB.out _ hSw).2.2.2.2.2
            clear hSw
            go_simp <;> with_reducible rfl
          simp only [Act.put, List.getElem_toArray, List.getElem_cons_zero, List.getElem_cons_succ, List.setIfInBounds_toArray, List.set_cons_zero, List.set_cons_succ]
          have BD := hide (HB.out _ hHeld).2.2.2.2.2
          refine wpAnyH_ready (rs := [14]) (by kernel_rfl) (by simp) ?_
          refine AllReadyH.cons rfl (fun K hK => ?_) AllReadyH.nil
          go_simp
          go_wp2_with (first | (go_at_call 38; refine (HSX.out _ BD.out).mono ?_; rintro e x2 ⟨rfl, rfl⟩))
          refine hK.out _ _ ?_ (fun hHeld => ?_)
          · exact hHeld
          clear hK K
          try simp only [Act.put, List.getElem_toArray, List.getElem_cons_zero, List.getElem_cons_succ, List.setIfInBounds_toArray, List.set_cons_zero, List.set_cons_succ]
          clear BD
          refine wpAnyH_take (i := 15) (v := ?_) rfl (by kernel_rfl) (by kernel_rfl) (by kernel_rfl) (fun _ _ _ h => h) (Or.inl ⟨by kernel_rfl, ?_⟩) hHeld ?_
          rotate_left
          · intro W hSw
            clear hSw
            go_simp <;> with_reducible rfl
          simp only [Act.put, List.getElem_toArray, List.getElem_cons_zero, List.getElem_cons_succ, List.setIfInBounds_toArray, List.set_cons_zero, List.set_cons_succ]
          refine wpAnyH_take (i := 16) (v := ?_) rfl (by kernel_rfl) (by kernel_rfl) (by kernel_rfl) (fun _ _ _ h => h) (Or.inl ⟨by kernel_rfl, ?_⟩) hHeld ?_
          rotate_left
          · intro W hSw
            clear hSw
            go_simp <;> with_reducible rfl
          simp only [Act.put, List.getElem_toArray, List.getElem_cons_zero, List.getElem_cons_succ, List.setIfInBounds_toArray, List.set_cons_zero, List.set_cons_succ]
          refine wpAnyH_done (by kernel_rfl) ?_ _
          have HZ2 := hide hHeld
          clear hHeld
          go_wp2
          go_roundw
          case rel => exact ⟨k + 1, _, by omega, by go_num, rfl, HZN, HZ2⟩
          case measure => simp [intOf]; omega
        · have hlt2 : ¬ (k : Int) < rs.length := by omega
          obtain rfl : k = rs.length := by omega
          rw [List.take_length] at HZ
          clear hlt
          by_cases hl0 : li.length = 0
          · have g0 : ¬ (0 : Int) < li.length := by omega
            have HC1 : Hid ((z).data.toList = D0 ++ rulesP rs ++ putL linkN li) := hide (by rw [List.length_eq_zero_iff.1 hl0, show putL linkN [] = [] from rfl, List.append_nil]; exact HZ.out)
            by_cases hl1 : sc.length = 0
            · have g1 : ¬ (0 : Int) < sc.length := by omega
              have HC2 : Hid ((z).data.toList = D0 ++ rulesP rs ++ putL linkN li ++ putL schemeN sc) := hide (by rw [List.length_eq_zero_iff.1 hl1, show putL schemeN [] = [] from rfl, List.append_nil]; exact HC1.out)
              by_cases hl2 : dr.length = 0
              · have g2 : ¬ (0 : Int) < dr.length := by omega
                have HC3 : Hid ((z).data.toList = D0 ++ rulesP rs ++ putL linkN li ++ putL schemeN sc ++ putL dropN dr) := hide (by rw [List.length_eq_zero_iff.1 hl2, show putL dropN [] = [] from rfl, List.append_nil]; exact HC2.out)
                go_wp2
                go_ret2
                refine ⟨?_, BBX.out⟩
                have h9 : (⟨PL.toArray⟩ : ByteArray) = z := congrArg (fun l : Bs => (⟨l.toArray⟩ : ByteArray)) (HPR.out.trans HC3.out.symm)
                simp only []
                rw [h9]
                rfl
              · have g2 : (0 : Int) < dr.length := by omega
                have hq2 : saidL dropN dr = putL dropN dr := by unfold putL; rw [if_neg (fun e => hl2 (by rw [e]; rfl))]
                have hd2 : (⟨(saidL dropN dr).toArray⟩ : ByteArray).data.toList = putL dropN dr := by rw [str_data]; exact hq2
                have hs2 : (⟨(saidL dropN dr).toArray⟩ : ByteArray).size ≤ 2000003001 := by rw [size_list, hd2]; exact putL_len dropN dr (by decide) HSL.out.2.2.2 HSL.out.2.2.1
                have HK2 : Hid (∀ x, Below w.heap.size w x → Calls Tryz.prog 38 #[.string ⟨#[100, 114, 111, 112]⟩, .slice da dr.length dc] x fun e w' => e = .returned (.string ⟨(saidL dropN dr).toArray⟩) ∧ w' = x) := HS3
                generalize (⟨(saidL dropN dr).toArray⟩ : ByteArray) = y2 at *
                have HC3 : Hid ((z ++ y2).data.toList = D0 ++ rulesP rs ++ putL linkN li ++ putL schemeN sc ++ putL dropN dr) := hide (str_app _ _ _ _ HC2.out hd2)
                have hf2 : ¬ 9223372036854775807 < z.size + y2.size := by omega
                clear hq2 hd2 HS3
                go_wp2_with fail
                refine (HK2.out _ BBX.out).mono ?_
                rintro e v2 ⟨rfl, rfl⟩
                go_wp2
                go_ret2
                refine ⟨?_, BBX.out⟩
                have h9 : (⟨PL.toArray⟩ : ByteArray) = z ++ y2 := congrArg (fun l : Bs => (⟨l.toArray⟩ : ByteArray)) (HPR.out.trans HC3.out.symm)
                simp only []
                rw [h9]
                rfl
            · have g1 : (0 : Int) < sc.length := by omega
              have hq1 : saidL schemeN sc = putL schemeN sc := by unfold putL; rw [if_neg (fun e => hl1 (by rw [e]; rfl))]
              have hd1 : (⟨(saidL schemeN sc).toArray⟩ : ByteArray).data.toList = putL schemeN sc := by rw [str_data]; exact hq1
              have hs1 : (⟨(saidL schemeN sc).toArray⟩ : ByteArray).size ≤ 2000003001 := by rw [size_list, hd1]; exact putL_len schemeN sc (by decide) HSL.out.2.1.2 HSL.out.2.1.1
              have HK1 : Hid (∀ x, Below w.heap.size w x → Calls Tryz.prog 38 #[.string ⟨#[115, 99, 104, 101, 109, 101]⟩, .slice sa sc.length sc'] x fun e w' => e = .returned (.string ⟨(saidL schemeN sc).toArray⟩) ∧ w' = x) := HS2
              generalize (⟨(saidL schemeN sc).toArray⟩ : ByteArray) = y1 at *
              have HC2 : Hid ((z ++ y1).data.toList = D0 ++ rulesP rs ++ putL linkN li ++ putL schemeN sc) := hide (str_app _ _ _ _ HC1.out hd1)
              have hf1 : ¬ 9223372036854775807 < z.size + y1.size := by omega
              clear hq1 hd1 HS2
              go_wp2_with fail
              refine (HK1.out _ BBX.out).mono ?_
              rintro e v1 ⟨rfl, rfl⟩
              by_cases hl2 : dr.length = 0
              · have g2 : ¬ (0 : Int) < dr.length := by omega
                have HC3 : Hid ((z ++ y1).data.toList = D0 ++ rulesP rs ++ putL linkN li ++ putL schemeN sc ++ putL dropN dr) := hide (by rw [List.length_eq_zero_iff.1 hl2, show putL dropN [] = [] from rfl, List.append_nil]; exact HC2.out)
                go_wp2
                go_ret2
                refine ⟨?_, BBX.out⟩
                have h9 : (⟨PL.toArray⟩ : ByteArray) = z ++ y1 := congrArg (fun l : Bs => (⟨l.toArray⟩ : ByteArray)) (HPR.out.trans HC3.out.symm)
                simp only []
                rw [h9]
                rfl
              · have g2 : (0 : Int) < dr.length := by omega
                have hq2 : saidL dropN dr = putL dropN dr := by unfold putL; rw [if_neg (fun e => hl2 (by rw [e]; rfl))]
                have hd2 : (⟨(saidL dropN dr).toArray⟩ : ByteArray).data.toList = putL dropN dr := by rw [str_data]; exact hq2
                have hs2 : (⟨(saidL dropN dr).toArray⟩ : ByteArray).size ≤ 2000003001 := by rw [size_list, hd2]; exact putL_len dropN dr (by decide) HSL.out.2.2.2 HSL.out.2.2.1
                have HK2 : Hid (∀ x, Below w.heap.size w x → Calls Tryz.prog 38 #[.string ⟨#[100, 114, 111, 112]⟩, .slice da dr.length dc] x fun e w' => e = .returned (.string ⟨(saidL dropN dr).toArray⟩) ∧ w' = x) := HS3
                generalize (⟨(saidL dropN dr).toArray⟩ : ByteArray) = y2 at *
                have HC3 : Hid ((z ++ y1 ++ y2).data.toList = D0 ++ rulesP rs ++ putL linkN li ++ putL schemeN sc ++ putL dropN dr) := hide (str_app _ _ _ _ HC2.out hd2)
                have hf2 : ¬ 9223372036854775807 < z.size + y1.size + y2.size := by omega
                clear hq2 hd2 HS3
                go_wp2_with fail
                refine (HK2.out _ BBX.out).mono ?_
                rintro e v2 ⟨rfl, rfl⟩
                go_wp2
                go_ret2
                refine ⟨?_, BBX.out⟩
                have h9 : (⟨PL.toArray⟩ : ByteArray) = z ++ y1 ++ y2 := congrArg (fun l : Bs => (⟨l.toArray⟩ : ByteArray)) (HPR.out.trans HC3.out.symm)
                simp only []
                rw [h9]
                rfl
          · have g0 : (0 : Int) < li.length := by omega
            have hq0 : saidL linkN li = putL linkN li := by unfold putL; rw [if_neg (fun e => hl0 (by rw [e]; rfl))]
            have hd0 : (⟨(saidL linkN li).toArray⟩ : ByteArray).data.toList = putL linkN li := by rw [str_data]; exact hq0
            have hs0 : (⟨(saidL linkN li).toArray⟩ : ByteArray).size ≤ 2000003001 := by rw [size_list, hd0]; exact putL_len linkN li (by decide) HSL.out.1.2 HSL.out.1.1
            have HK0 : Hid (∀ x, Below w.heap.size w x → Calls Tryz.prog 38 #[.string ⟨#[108, 105, 110, 107]⟩, .slice la li.length lc] x fun e w' => e = .returned (.string ⟨(saidL linkN li).toArray⟩) ∧ w' = x) := HS1
            generalize (⟨(saidL linkN li).toArray⟩ : ByteArray) = y0 at *
            have HC1 : Hid ((z ++ y0).data.toList = D0 ++ rulesP rs ++ putL linkN li) := hide (str_app _ _ _ _ HZ.out hd0)
            have hf0 : ¬ 9223372036854775807 < z.size + y0.size := by omega
            clear hq0 hd0 HS1
            go_wp2_with fail
            refine (HK0.out _ BBX.out).mono ?_
            rintro e v0 ⟨rfl, rfl⟩
            by_cases hl1 : sc.length = 0
            · have g1 : ¬ (0 : Int) < sc.length := by omega
              have HC2 : Hid ((z ++ y0).data.toList = D0 ++ rulesP rs ++ putL linkN li ++ putL schemeN sc) := hide (by rw [List.length_eq_zero_iff.1 hl1, show putL schemeN [] = [] from rfl, List.append_nil]; exact HC1.out)
              by_cases hl2 : dr.length = 0
              · have g2 : ¬ (0 : Int) < dr.length := by omega
                have HC3 : Hid ((z ++ y0).data.toList = D0 ++ rulesP rs ++ putL linkN li ++ putL schemeN sc ++ putL dropN dr) := hide (by rw [List.length_eq_zero_iff.1 hl2, show putL dropN [] = [] from rfl, List.append_nil]; exact HC2.out)
                go_wp2
                go_ret2
                refine ⟨?_, BBX.out⟩
                have h9 : (⟨PL.toArray⟩ : ByteArray) = z ++ y0 := congrArg (fun l : Bs => (⟨l.toArray⟩ : ByteArray)) (HPR.out.trans HC3.out.symm)
                simp only []
                rw [h9]
                rfl
              · have g2 : (0 : Int) < dr.length := by omega
                have hq2 : saidL dropN dr = putL dropN dr := by unfold putL; rw [if_neg (fun e => hl2 (by rw [e]; rfl))]
                have hd2 : (⟨(saidL dropN dr).toArray⟩ : ByteArray).data.toList = putL dropN dr := by rw [str_data]; exact hq2
                have hs2 : (⟨(saidL dropN dr).toArray⟩ : ByteArray).size ≤ 2000003001 := by rw [size_list, hd2]; exact putL_len dropN dr (by decide) HSL.out.2.2.2 HSL.out.2.2.1
                have HK2 : Hid (∀ x, Below w.heap.size w x → Calls Tryz.prog 38 #[.string ⟨#[100, 114, 111, 112]⟩, .slice da dr.length dc] x fun e w' => e = .returned (.string ⟨(saidL dropN dr).toArray⟩) ∧ w' = x) := HS3
                generalize (⟨(saidL dropN dr).toArray⟩ : ByteArray) = y2 at *
                have HC3 : Hid ((z ++ y0 ++ y2).data.toList = D0 ++ rulesP rs ++ putL linkN li ++ putL schemeN sc ++ putL dropN dr) := hide (str_app _ _ _ _ HC2.out hd2)
                have hf2 : ¬ 9223372036854775807 < z.size + y0.size + y2.size := by omega
                clear hq2 hd2 HS3
                go_wp2_with fail
                refine (HK2.out _ BBX.out).mono ?_
                rintro e v2 ⟨rfl, rfl⟩
                go_wp2
                go_ret2
                refine ⟨?_, BBX.out⟩
                have h9 : (⟨PL.toArray⟩ : ByteArray) = z ++ y0 ++ y2 := congrArg (fun l : Bs => (⟨l.toArray⟩ : ByteArray)) (HPR.out.trans HC3.out.symm)
                simp only []
                rw [h9]
                rfl
            · have g1 : (0 : Int) < sc.length := by omega
              have hq1 : saidL schemeN sc = putL schemeN sc := by unfold putL; rw [if_neg (fun e => hl1 (by rw [e]; rfl))]
              have hd1 : (⟨(saidL schemeN sc).toArray⟩ : ByteArray).data.toList = putL schemeN sc := by rw [str_data]; exact hq1
              have hs1 : (⟨(saidL schemeN sc).toArray⟩ : ByteArray).size ≤ 2000003001 := by rw [size_list, hd1]; exact putL_len schemeN sc (by decide) HSL.out.2.1.2 HSL.out.2.1.1
              have HK1 : Hid (∀ x, Below w.heap.size w x → Calls Tryz.prog 38 #[.string ⟨#[115, 99, 104, 101, 109, 101]⟩, .slice sa sc.length sc'] x fun e w' => e = .returned (.string ⟨(saidL schemeN sc).toArray⟩) ∧ w' = x) := HS2
              generalize (⟨(saidL schemeN sc).toArray⟩ : ByteArray) = y1 at *
              have HC2 : Hid ((z ++ y0 ++ y1).data.toList = D0 ++ rulesP rs ++ putL linkN li ++ putL schemeN sc) := hide (str_app _ _ _ _ HC1.out hd1)
              have hf1 : ¬ 9223372036854775807 < z.size + y0.size + y1.size := by omega
              clear hq1 hd1 HS2
              go_wp2_with fail
              refine (HK1.out _ BBX.out).mono ?_
              rintro e v1 ⟨rfl, rfl⟩
              by_cases hl2 : dr.length = 0
              · have g2 : ¬ (0 : Int) < dr.length := by omega
                have HC3 : Hid ((z ++ y0 ++ y1).data.toList = D0 ++ rulesP rs ++ putL linkN li ++ putL schemeN sc ++ putL dropN dr) := hide (by rw [List.length_eq_zero_iff.1 hl2, show putL dropN [] = [] from rfl, List.append_nil]; exact HC2.out)
                go_wp2
                go_ret2
                refine ⟨?_, BBX.out⟩
                have h9 : (⟨PL.toArray⟩ : ByteArray) = z ++ y0 ++ y1 := congrArg (fun l : Bs => (⟨l.toArray⟩ : ByteArray)) (HPR.out.trans HC3.out.symm)
                simp only []
                rw [h9]
                rfl
              · have g2 : (0 : Int) < dr.length := by omega
                have hq2 : saidL dropN dr = putL dropN dr := by unfold putL; rw [if_neg (fun e => hl2 (by rw [e]; rfl))]
                have hd2 : (⟨(saidL dropN dr).toArray⟩ : ByteArray).data.toList = putL dropN dr := by rw [str_data]; exact hq2
                have hs2 : (⟨(saidL dropN dr).toArray⟩ : ByteArray).size ≤ 2000003001 := by rw [size_list, hd2]; exact putL_len dropN dr (by decide) HSL.out.2.2.2 HSL.out.2.2.1
                have HK2 : Hid (∀ x, Below w.heap.size w x → Calls Tryz.prog 38 #[.string ⟨#[100, 114, 111, 112]⟩, .slice da dr.length dc] x fun e w' => e = .returned (.string ⟨(saidL dropN dr).toArray⟩) ∧ w' = x) := HS3
                generalize (⟨(saidL dropN dr).toArray⟩ : ByteArray) = y2 at *
                have HC3 : Hid ((z ++ y0 ++ y1 ++ y2).data.toList = D0 ++ rulesP rs ++ putL linkN li ++ putL schemeN sc ++ putL dropN dr) := hide (str_app _ _ _ _ HC2.out hd2)
                have hf2 : ¬ 9223372036854775807 < z.size + y0.size + y1.size + y2.size := by omega
                clear hq2 hd2 HS3
                go_wp2_with fail
                refine (HK2.out _ BBX.out).mono ?_
                rintro e v2 ⟨rfl, rfl⟩
                go_wp2
                go_ret2
                refine ⟨?_, BBX.out⟩
                have h9 : (⟨PL.toArray⟩ : ByteArray) = z ++ y0 ++ y1 ++ y2 := congrArg (fun l : Bs => (⟨l.toArray⟩ : ByteArray)) (HPR.out.trans HC3.out.symm)
                simp only []
                rw [h9]
                rfl
    · have h10i : ¬ (10 : Int) ≤ d := by omega
      go_wp2_with fail
      have hds := num_one d h10
      rw [← hds] at HPR
      have hdl : (((⟨#[48, 49, 50, 51, 52, 53, 54, 55, 56, 57]⟩ : ByteArray).extract (d % 10) (d % 10 + 1))).data.toList.length ≤ 2 := by rw [hds]; exact num_len d
      generalize ((⟨#[48, 49, 50, 51, 52, 53, 54, 55, 56, 57]⟩ : ByteArray).extract (d % 10) (d % 10 + 1)) = ds at *
      clear hds t1 t2 t3 t4
      have HSD : Hid (Calls Tryz.prog 38 #[.string ⟨#[100, 101, 101, 112]⟩, .slice (some ⟨w1.heap.size, 0, none⟩) 1 1] (w1.alloc (.cells #[.string ds] 9)) fun e w' => e = .returned (.string ⟨(saidL deepN [ds.data.toList]).toArray⟩) ∧ w' = (w1.alloc (.cells #[.string ds] 9))) := hide (said_any ⟨#[100, 101, 101, 112]⟩ [ds.data.toList] (by simp) (fun x hx => by obtain rfl := List.mem_singleton.1 hx; omega) (by decide) _ _ (owns_isW (own_one w1 ds)).1)
      rw [put_one] at HPR
      refine HSD.out.mono ?_
      rintro e w2 ⟨rfl, rfl⟩
      have hz : (⟨(saidL deepN [ds.data.toList]).toArray⟩ : ByteArray).data.toList = saidL deepN [ds.data.toList] := str_data _
      have hsl : (saidL deepN [ds.data.toList]).length ≤ 2000003001 := by rw [← put_one]; exact putL_len deepN _ (by decide) (fun x hx => by obtain rfl := List.mem_singleton.1 hx; omega) (by simp)
      generalize (⟨(saidL deepN [ds.data.toList]).toArray⟩ : ByteArray) = z0 at *
      generalize saidL deepN [ds.data.toList] = D0 at *
      clear HSD hdl
      have B2 := hide (B1.out.trans ((below_alloc w1 (.cells #[.string ds] 9)).mono B1.out.size))
      clear c0 c1 c2 c3 c4
      obtain ⟨c0, c1, c2, c3, c4, bb⟩ := HB.out _ B2.out
      clear bb
      go_wp2
      go_loopw [6, 7] (fun y i wr => ∃ (k : Nat) (z : ByteArray), k ≤ rs.length ∧ i = .int .i64 k ∧ y = .string z ∧ Hid (z.data.toList = D0 ++ rulesP (rs.take k)) ∧ Hid (Below (poW w ⟨rs, li, sc, dr, (d : Int), .slice ra rs.length rc, .slice la li.length lc, .slice sa sc.length sc', .slice da dr.length dc⟩).heap.size (poW w ⟨rs, li, sc, dr, (d : Int), .slice ra rs.length rc, .slice la li.length lc, .slice sa sc.length sc', .slice da dr.length dc⟩) wr)) (fun _ i _ => rs.length - (intOf i).toNat)
      case atStart => exact ⟨0, z0, Nat.zero_le _, rfl, rfl, hide (by rw [hz, List.take_zero, show rulesP [] = [] from rfl, List.append_nil]), B2⟩
      case round =>
        clear c0 c1 c2 c3 c4 B2 hz
        obtain ⟨k, z, hk, rfl, rfl, HZ, HX⟩ := hrel
        obtain ⟨c0, c1, c2, c3, c4, bb⟩ := HB.out _ HX.out
        have BBX := hide bb
        clear bb
        have hzs : z.size ≤ 2000003001 + 1000 * 2000003001 := by
          have hr := HRL.out k
          rw [List.length_take] at hr
          have hr2 : min k rs.length * 2000003001 ≤ 1000 * 2000003001 := Nat.mul_le_mul_right _ (by omega)
          rw [size_list, HZ.out, List.length_append]
          omega
        by_cases hlt : k < rs.length
        · have hlt2 : (k : Int) < rs.length := by omega
          have HY := hide HX.out.drew
          obtain ⟨x, hx⟩ : ∃ x, rs[k]? = some x := ⟨_, List.getElem?_eq_getElem hlt⟩
          obtain ⟨⟨b, o, rfl, hq⟩, hw⟩ := HAT.out k x hx
          obtain ⟨xa, xc, hxf⟩ := hw.form
          have hst := rulesP_step rs k x hx
          have hxn := HRN.out k x hx
          have hsx := HSR.out k x hx ((⟨#[101, 108, 101, 109, 101, 110, 116, 32]⟩ : ByteArray) ++ x.nm) (by rw [size_list, str_app _ _ [101, 108, 101, 109, 101, 110, 116, 32] _ rfl rfl, List.length_append, ← size_list]; simp; omega)
          rw [put_elem] at hst
          have hel : ((⟨#[101, 108, 101, 109, 101, 110, 116, 32]⟩ : ByteArray) ++ x.nm).data.toList = elemN ++ 32 :: x.nm.data.toList := by
            rw [str_app _ _ [101, 108, 101, 109, 101, 110, 116, 32] _ rfl rfl]
            rfl
          rw [hel] at hsx
          have hy : (⟨(saidL (elemN ++ 32 :: x.nm.data.toList) x.at_).toArray⟩ : ByteArray).data.toList = saidL (elemN ++ 32 :: x.nm.data.toList) x.at_ := str_data _
          have hyl : (saidL (elemN ++ 32 :: x.nm.data.toList) x.at_).length ≤ 2000003001 * 1000 := by
            have hr := HRL.out (k + 1)
            rw [hst, List.length_append, List.length_take] at hr
            have hr2 : min (k + 1) rs.length * 2000003001 ≤ 1000 * 2000003001 := Nat.mul_le_mul_right _ (by omega)
            omega
          have hys : (⟨(saidL (elemN ++ 32 :: x.nm.data.toList) x.at_).toArray⟩ : ByteArray).size ≤ 2000003001 * 1000 := by rw [size_list, hy]; exact hyl
          generalize (⟨(saidL (elemN ++ 32 :: x.nm.data.toList) x.at_).toArray⟩ : ByteArray) = y at *
          have HZN : Hid ((z ++ y).data.toList = D0 ++ rulesP (rs.take (k + 1))) := hide (by rw [str_app _ _ _ _ HZ.out hy, hst, List.append_assoc])
          have HSX := hide hsx
          have HD := hide hq
          clear hsx hq hw hx hst hy hyl hel HZ
          obtain ⟨xn, xat, xav⟩ := x
          simp only [] at hxf HSX HD hxn
          subst hxf
          generalize xat.length = xl at *
          have hf1 : ¬ 9223372036854775807 < 8 + xn.size := by omega
          have hf2 : ¬ 9223372036854775807 < z.size + y.size := by omega
          clear c1 c2 c3 c4
          go_wp2_with fail
          refine wp_region_held_drew (S := fun W' => Below (poW w ⟨rs, li, sc, dr, (d : Int), .slice (some ⟨b, o, none⟩) rs.length rc, .slice la li.length lc, .slice sa sc.length sc', .slice da dr.length dc⟩).heap.size (poW w ⟨rs, li, sc, dr, (d : Int), .slice (some ⟨b, o, none⟩) rs.length rc, .slice la li.length lc, .slice sa sc.length sc', .slice da dr.length dc⟩) W') (by kernel_rfl) HY.out (fun hHeld => ?_)
          refine wpAnyH_take (i := 0) (v := ?_) rfl (by kernel_rfl) (by kernel_rfl) (by kernel_rfl) (fun _ _ _ h => h) (Or.inl ⟨by kernel_rfl, ?_⟩) hHeld ?_
          rotate_left
          · intro W hSw
            clear hSw
            go_simp <;> with_reducible rfl
          simp only [Act.put, List.getElem_toArray, List.getElem_cons_zero, List.getElem_cons_succ, List.setIfInBounds_toArray, List.set_cons_zero, List.set_cons_succ]
          refine wpAnyH_take (i := 1) (v := ?_) rfl (by kernel_rfl) (by kernel_rfl) (by kernel_rfl) (fun _ _ _ h => h) (Or.inl ⟨by kernel_rfl, ?_⟩) hHeld ?_
          rotate_left
          · intro W hSw
            clear hSw
            go_simp <;> with_reducible rfl
          simp only [Act.put, List.getElem_toArray, List.getElem_cons_zero, List.getElem_cons_succ, List.setIfInBounds_toArray, List.set_cons_zero, List.set_cons_succ]
          refine wpAnyH_take (i := 2) (v := ?_) rfl (by kernel_rfl) (by kernel_rfl) (by kernel_rfl) (fun _ _ _ h => h) (Or.inl ⟨by kernel_rfl, ?_⟩) hHeld ?_
          rotate_left
          · intro W hSw
            have c0 := (HB.out _ hSw).1
            clear hSw
            go_simp <;> with_reducible rfl
          simp only [Act.put, List.getElem_toArray, List.getElem_cons_zero, List.getElem_cons_succ, List.setIfInBounds_toArray, List.set_cons_zero, List.set_cons_succ]
          refine wpAnyH_take (i := 3) (v := ?_) rfl (by kernel_rfl) (by kernel_rfl) (by kernel_rfl) (fun _ _ _ h => h) (Or.inl ⟨by kernel_rfl, ?_⟩) hHeld ?_
          rotate_left
          · intro W hSw
            clear hSw
            go_simp <;> with_reducible rfl
          simp only [Act.put, List.getElem_toArray, List.getElem_cons_zero, List.getElem_cons_succ, List.setIfInBounds_toArray, List.set_cons_zero, List.set_cons_succ]
          refine wpAnyH_take (i := 4) (v := ?_) rfl (by kernel_rfl) (by kernel_rfl) (by kernel_rfl) (fun _ _ _ h => h) (Or.inl ⟨by kernel_rfl, ?_⟩) hHeld ?_
          rotate_left
          · intro W hSw
            clear hSw
            go_simp <;> with_reducible rfl
          simp only [Act.put, List.getElem_toArray, List.getElem_cons_zero, List.getElem_cons_succ, List.setIfInBounds_toArray, List.set_cons_zero, List.set_cons_succ]
          refine wpAnyH_take (i := 5) (v := ?_) rfl (by kernel_rfl) (by kernel_rfl) (by kernel_rfl) (fun _ _ _ h => h) (Or.inl ⟨by kernel_rfl, ?_⟩) hHeld ?_
          rotate_left
          · intro W hSw
            clear hSw
            go_simp <;> with_reducible rfl
          simp only [Act.put, List.getElem_toArray, List.getElem_cons_zero, List.getElem_cons_succ, List.setIfInBounds_toArray, List.set_cons_zero, List.set_cons_succ]
          refine wpAnyH_take (i := 6) (v := ?_) rfl (by kernel_rfl) (by kernel_rfl) (by kernel_rfl) (fun _ _ _ h => h) (Or.inl ⟨by kernel_rfl, ?_⟩) hHeld ?_
          rotate_left
          · intro W hSw
            obtain ⟨d0, d1⟩ := HD.out _ (HB.out _ hSw).2.2.2.2.2
            clear hSw
            go_simp <;> with_reducible rfl
          simp only [Act.put, List.getElem_toArray, List.getElem_cons_zero, List.getElem_cons_succ, List.setIfInBounds_toArray, List.set_cons_zero, List.set_cons_succ]
          refine wpAnyH_take (i := 7) (v := ?_) rfl (by kernel_rfl) (by kernel_rfl) (by kernel_rfl) (fun _ _ _ h => h) (Or.inl ⟨by kernel_rfl, ?_⟩) hHeld ?_
          rotate_left
          · intro W hSw
            clear hSw
            go_simp <;> with_reducible rfl
          simp only [Act.put, List.getElem_toArray, List.getElem_cons_zero, List.getElem_cons_succ, List.setIfInBounds_toArray, List.set_cons_zero, List.set_cons_succ]
          refine wpAnyH_take (i := 8) (v := ?_) rfl (by kernel_rfl) (by kernel_rfl) (by kernel_rfl) (fun _ _ _ h => h) (Or.inl ⟨by kernel_rfl, ?_⟩) hHeld ?_
          rotate_left
          · intro W hSw
            clear hSw
            go_simp <;> with_reducible rfl
          simp only [Act.put, List.getElem_toArray, List.getElem_cons_zero, List.getElem_cons_succ, List.setIfInBounds_toArray, List.set_cons_zero, List.set_cons_succ]
          refine wpAnyH_take (i := 9) (v := ?_) rfl (by kernel_rfl) (by kernel_rfl) (by kernel_rfl) (fun _ _ _ h => h) (Or.inl ⟨by kernel_rfl, ?_⟩) hHeld ?_
          rotate_left
          · intro W hSw
            have c0 := (HB.out _ hSw).1
            clear hSw
            go_simp <;> with_reducible rfl
          simp only [Act.put, List.getElem_toArray, List.getElem_cons_zero, List.getElem_cons_succ, List.setIfInBounds_toArray, List.set_cons_zero, List.set_cons_succ]
          refine wpAnyH_take (i := 10) (v := ?_) rfl (by kernel_rfl) (by kernel_rfl) (by kernel_rfl) (fun _ _ _ h => h) (Or.inl ⟨by kernel_rfl, ?_⟩) hHeld ?_
          rotate_left
          · intro W hSw
            clear hSw
            go_simp <;> with_reducible rfl
          simp only [Act.put, List.getElem_toArray, List.getElem_cons_zero, List.getElem_cons_succ, List.setIfInBounds_toArray, List.set_cons_zero, List.set_cons_succ]
          refine wpAnyH_take (i := 11) (v := ?_) rfl (by kernel_rfl) (by kernel_rfl) (by kernel_rfl) (fun _ _ _ h => h) (Or.inl ⟨by kernel_rfl, ?_⟩) hHeld ?_
          rotate_left
          · intro W hSw
            clear hSw
            go_simp <;> with_reducible rfl
          simp only [Act.put, List.getElem_toArray, List.getElem_cons_zero, List.getElem_cons_succ, List.setIfInBounds_toArray, List.set_cons_zero, List.set_cons_succ]
          refine wpAnyH_take (i := 12) (v := ?_) rfl (by kernel_rfl) (by kernel_rfl) (by kernel_rfl) (fun _ _ _ h => h) (Or.inl ⟨by kernel_rfl, ?_⟩) hHeld ?_
          rotate_left
          · intro W hSw
            clear hSw
            go_simp <;> with_reducible rfl
          simp only [Act.put, List.getElem_toArray, List.getElem_cons_zero, List.getElem_cons_succ, List.setIfInBounds_toArray, List.set_cons_zero, List.set_cons_succ]
          refine wpAnyH_take (i := 13) (v := ?_) rfl (by kernel_rfl) (by kernel_rfl) (by kernel_rfl) (fun _ _ _ h => h) (Or.inl ⟨by kernel_rfl, ?_⟩) hHeld ?_
          rotate_left
          · intro W hSw
            obtain ⟨d0, d1⟩ := HD.out _ (HB.out _ hSw).2.2.2.2.2
            clear hSw
            go_simp <;> with_reducible rfl
          simp only [Act.put, List.getElem_toArray, List.getElem_cons_zero, List.getElem_cons_succ, List.setIfInBounds_toArray, List.set_cons_zero, List.set_cons_succ]
          have BD := hide (HB.out _ hHeld).2.2.2.2.2
          refine wpAnyH_ready (rs := [14]) (by kernel_rfl) (by simp) ?_
          refine AllReadyH.cons rfl (fun K hK => ?_) AllReadyH.nil
          go_simp
          go_wp2_with (first | (go_at_call 38; refine (HSX.out _ BD.out).mono ?_; rintro e x2 ⟨rfl, rfl⟩))
          refine hK.out _ _ ?_ (fun hHeld => ?_)
          · exact hHeld
          clear hK K
          try simp only [Act.put, List.getElem_toArray, List.getElem_cons_zero, List.getElem_cons_succ, List.setIfInBounds_toArray, List.set_cons_zero, List.set_cons_succ]
          clear BD
          refine wpAnyH_take (i := 15) (v := ?_) rfl (by kernel_rfl) (by kernel_rfl) (by kernel_rfl) (fun _ _ _ h => h) (Or.inl ⟨by kernel_rfl, ?_⟩) hHeld ?_
          rotate_left
          · intro W hSw
            clear hSw
            go_simp <;> with_reducible rfl
          simp only [Act.put, List.getElem_toArray, List.getElem_cons_zero, List.getElem_cons_succ, List.setIfInBounds_toArray, List.set_cons_zero, List.set_cons_succ]
          refine wpAnyH_take (i := 16) (v := ?_) rfl (by kernel_rfl) (by kernel_rfl) (by kernel_rfl) (fun _ _ _ h => h) (Or.inl ⟨by kernel_rfl, ?_⟩) hHeld ?_
          rotate_left
          · intro W hSw
            clear hSw
            go_simp <;> with_reducible rfl
          simp only [Act.put, List.getElem_toArray, List.getElem_cons_zero, List.getElem_cons_succ, List.setIfInBounds_toArray, List.set_cons_zero, List.set_cons_succ]
          refine wpAnyH_done (by kernel_rfl) ?_ _
          have HZ2 := hide hHeld
          clear hHeld
          go_wp2
          go_roundw
          case rel => exact ⟨k + 1, _, by omega, by go_num, rfl, HZN, HZ2⟩
          case measure => simp [intOf]; omega
        · have hlt2 : ¬ (k : Int) < rs.length := by omega
          obtain rfl : k = rs.length := by omega
          rw [List.take_length] at HZ
          clear hlt
          by_cases hl0 : li.length = 0
          · have g0 : ¬ (0 : Int) < li.length := by omega
            have HC1 : Hid ((z).data.toList = D0 ++ rulesP rs ++ putL linkN li) := hide (by rw [List.length_eq_zero_iff.1 hl0, show putL linkN [] = [] from rfl, List.append_nil]; exact HZ.out)
            by_cases hl1 : sc.length = 0
            · have g1 : ¬ (0 : Int) < sc.length := by omega
              have HC2 : Hid ((z).data.toList = D0 ++ rulesP rs ++ putL linkN li ++ putL schemeN sc) := hide (by rw [List.length_eq_zero_iff.1 hl1, show putL schemeN [] = [] from rfl, List.append_nil]; exact HC1.out)
              by_cases hl2 : dr.length = 0
              · have g2 : ¬ (0 : Int) < dr.length := by omega
                have HC3 : Hid ((z).data.toList = D0 ++ rulesP rs ++ putL linkN li ++ putL schemeN sc ++ putL dropN dr) := hide (by rw [List.length_eq_zero_iff.1 hl2, show putL dropN [] = [] from rfl, List.append_nil]; exact HC2.out)
                go_wp2
                go_ret2
                refine ⟨?_, BBX.out⟩
                have h9 : (⟨PL.toArray⟩ : ByteArray) = z := congrArg (fun l : Bs => (⟨l.toArray⟩ : ByteArray)) (HPR.out.trans HC3.out.symm)
                simp only []
                rw [h9]
                rfl
              · have g2 : (0 : Int) < dr.length := by omega
                have hq2 : saidL dropN dr = putL dropN dr := by unfold putL; rw [if_neg (fun e => hl2 (by rw [e]; rfl))]
                have hd2 : (⟨(saidL dropN dr).toArray⟩ : ByteArray).data.toList = putL dropN dr := by rw [str_data]; exact hq2
                have hs2 : (⟨(saidL dropN dr).toArray⟩ : ByteArray).size ≤ 2000003001 := by rw [size_list, hd2]; exact putL_len dropN dr (by decide) HSL.out.2.2.2 HSL.out.2.2.1
                have HK2 : Hid (∀ x, Below w.heap.size w x → Calls Tryz.prog 38 #[.string ⟨#[100, 114, 111, 112]⟩, .slice da dr.length dc] x fun e w' => e = .returned (.string ⟨(saidL dropN dr).toArray⟩) ∧ w' = x) := HS3
                generalize (⟨(saidL dropN dr).toArray⟩ : ByteArray) = y2 at *
                have HC3 : Hid ((z ++ y2).data.toList = D0 ++ rulesP rs ++ putL linkN li ++ putL schemeN sc ++ putL dropN dr) := hide (str_app _ _ _ _ HC2.out hd2)
                have hf2 : ¬ 9223372036854775807 < z.size + y2.size := by omega
                clear hq2 hd2 HS3
                go_wp2_with fail
                refine (HK2.out _ BBX.out).mono ?_
                rintro e v2 ⟨rfl, rfl⟩
                go_wp2
                go_ret2
                refine ⟨?_, BBX.out⟩
                have h9 : (⟨PL.toArray⟩ : ByteArray) = z ++ y2 := congrArg (fun l : Bs => (⟨l.toArray⟩ : ByteArray)) (HPR.out.trans HC3.out.symm)
                simp only []
                rw [h9]
                rfl
            · have g1 : (0 : Int) < sc.length := by omega
              have hq1 : saidL schemeN sc = putL schemeN sc := by unfold putL; rw [if_neg (fun e => hl1 (by rw [e]; rfl))]
              have hd1 : (⟨(saidL schemeN sc).toArray⟩ : ByteArray).data.toList = putL schemeN sc := by rw [str_data]; exact hq1
              have hs1 : (⟨(saidL schemeN sc).toArray⟩ : ByteArray).size ≤ 2000003001 := by rw [size_list, hd1]; exact putL_len schemeN sc (by decide) HSL.out.2.1.2 HSL.out.2.1.1
              have HK1 : Hid (∀ x, Below w.heap.size w x → Calls Tryz.prog 38 #[.string ⟨#[115, 99, 104, 101, 109, 101]⟩, .slice sa sc.length sc'] x fun e w' => e = .returned (.string ⟨(saidL schemeN sc).toArray⟩) ∧ w' = x) := HS2
              generalize (⟨(saidL schemeN sc).toArray⟩ : ByteArray) = y1 at *
              have HC2 : Hid ((z ++ y1).data.toList = D0 ++ rulesP rs ++ putL linkN li ++ putL schemeN sc) := hide (str_app _ _ _ _ HC1.out hd1)
              have hf1 : ¬ 9223372036854775807 < z.size + y1.size := by omega
              clear hq1 hd1 HS2
              go_wp2_with fail
              refine (HK1.out _ BBX.out).mono ?_
              rintro e v1 ⟨rfl, rfl⟩
              by_cases hl2 : dr.length = 0
              · have g2 : ¬ (0 : Int) < dr.length := by omega
                have HC3 : Hid ((z ++ y1).data.toList = D0 ++ rulesP rs ++ putL linkN li ++ putL schemeN sc ++ putL dropN dr) := hide (by rw [List.length_eq_zero_iff.1 hl2, show putL dropN [] = [] from rfl, List.append_nil]; exact HC2.out)
                go_wp2
                go_ret2
                refine ⟨?_, BBX.out⟩
                have h9 : (⟨PL.toArray⟩ : ByteArray) = z ++ y1 := congrArg (fun l : Bs => (⟨l.toArray⟩ : ByteArray)) (HPR.out.trans HC3.out.symm)
                simp only []
                rw [h9]
                rfl
              · have g2 : (0 : Int) < dr.length := by omega
                have hq2 : saidL dropN dr = putL dropN dr := by unfold putL; rw [if_neg (fun e => hl2 (by rw [e]; rfl))]
                have hd2 : (⟨(saidL dropN dr).toArray⟩ : ByteArray).data.toList = putL dropN dr := by rw [str_data]; exact hq2
                have hs2 : (⟨(saidL dropN dr).toArray⟩ : ByteArray).size ≤ 2000003001 := by rw [size_list, hd2]; exact putL_len dropN dr (by decide) HSL.out.2.2.2 HSL.out.2.2.1
                have HK2 : Hid (∀ x, Below w.heap.size w x → Calls Tryz.prog 38 #[.string ⟨#[100, 114, 111, 112]⟩, .slice da dr.length dc] x fun e w' => e = .returned (.string ⟨(saidL dropN dr).toArray⟩) ∧ w' = x) := HS3
                generalize (⟨(saidL dropN dr).toArray⟩ : ByteArray) = y2 at *
                have HC3 : Hid ((z ++ y1 ++ y2).data.toList = D0 ++ rulesP rs ++ putL linkN li ++ putL schemeN sc ++ putL dropN dr) := hide (str_app _ _ _ _ HC2.out hd2)
                have hf2 : ¬ 9223372036854775807 < z.size + y1.size + y2.size := by omega
                clear hq2 hd2 HS3
                go_wp2_with fail
                refine (HK2.out _ BBX.out).mono ?_
                rintro e v2 ⟨rfl, rfl⟩
                go_wp2
                go_ret2
                refine ⟨?_, BBX.out⟩
                have h9 : (⟨PL.toArray⟩ : ByteArray) = z ++ y1 ++ y2 := congrArg (fun l : Bs => (⟨l.toArray⟩ : ByteArray)) (HPR.out.trans HC3.out.symm)
                simp only []
                rw [h9]
                rfl
          · have g0 : (0 : Int) < li.length := by omega
            have hq0 : saidL linkN li = putL linkN li := by unfold putL; rw [if_neg (fun e => hl0 (by rw [e]; rfl))]
            have hd0 : (⟨(saidL linkN li).toArray⟩ : ByteArray).data.toList = putL linkN li := by rw [str_data]; exact hq0
            have hs0 : (⟨(saidL linkN li).toArray⟩ : ByteArray).size ≤ 2000003001 := by rw [size_list, hd0]; exact putL_len linkN li (by decide) HSL.out.1.2 HSL.out.1.1
            have HK0 : Hid (∀ x, Below w.heap.size w x → Calls Tryz.prog 38 #[.string ⟨#[108, 105, 110, 107]⟩, .slice la li.length lc] x fun e w' => e = .returned (.string ⟨(saidL linkN li).toArray⟩) ∧ w' = x) := HS1
            generalize (⟨(saidL linkN li).toArray⟩ : ByteArray) = y0 at *
            have HC1 : Hid ((z ++ y0).data.toList = D0 ++ rulesP rs ++ putL linkN li) := hide (str_app _ _ _ _ HZ.out hd0)
            have hf0 : ¬ 9223372036854775807 < z.size + y0.size := by omega
            clear hq0 hd0 HS1
            go_wp2_with fail
            refine (HK0.out _ BBX.out).mono ?_
            rintro e v0 ⟨rfl, rfl⟩
            by_cases hl1 : sc.length = 0
            · have g1 : ¬ (0 : Int) < sc.length := by omega
              have HC2 : Hid ((z ++ y0).data.toList = D0 ++ rulesP rs ++ putL linkN li ++ putL schemeN sc) := hide (by rw [List.length_eq_zero_iff.1 hl1, show putL schemeN [] = [] from rfl, List.append_nil]; exact HC1.out)
              by_cases hl2 : dr.length = 0
              · have g2 : ¬ (0 : Int) < dr.length := by omega
                have HC3 : Hid ((z ++ y0).data.toList = D0 ++ rulesP rs ++ putL linkN li ++ putL schemeN sc ++ putL dropN dr) := hide (by rw [List.length_eq_zero_iff.1 hl2, show putL dropN [] = [] from rfl, List.append_nil]; exact HC2.out)
                go_wp2
                go_ret2
                refine ⟨?_, BBX.out⟩
                have h9 : (⟨PL.toArray⟩ : ByteArray) = z ++ y0 := congrArg (fun l : Bs => (⟨l.toArray⟩ : ByteArray)) (HPR.out.trans HC3.out.symm)
                simp only []
                rw [h9]
                rfl
              · have g2 : (0 : Int) < dr.length := by omega
                have hq2 : saidL dropN dr = putL dropN dr := by unfold putL; rw [if_neg (fun e => hl2 (by rw [e]; rfl))]
                have hd2 : (⟨(saidL dropN dr).toArray⟩ : ByteArray).data.toList = putL dropN dr := by rw [str_data]; exact hq2
                have hs2 : (⟨(saidL dropN dr).toArray⟩ : ByteArray).size ≤ 2000003001 := by rw [size_list, hd2]; exact putL_len dropN dr (by decide) HSL.out.2.2.2 HSL.out.2.2.1
                have HK2 : Hid (∀ x, Below w.heap.size w x → Calls Tryz.prog 38 #[.string ⟨#[100, 114, 111, 112]⟩, .slice da dr.length dc] x fun e w' => e = .returned (.string ⟨(saidL dropN dr).toArray⟩) ∧ w' = x) := HS3
                generalize (⟨(saidL dropN dr).toArray⟩ : ByteArray) = y2 at *
                have HC3 : Hid ((z ++ y0 ++ y2).data.toList = D0 ++ rulesP rs ++ putL linkN li ++ putL schemeN sc ++ putL dropN dr) := hide (str_app _ _ _ _ HC2.out hd2)
                have hf2 : ¬ 9223372036854775807 < z.size + y0.size + y2.size := by omega
                clear hq2 hd2 HS3
                go_wp2_with fail
                refine (HK2.out _ BBX.out).mono ?_
                rintro e v2 ⟨rfl, rfl⟩
                go_wp2
                go_ret2
                refine ⟨?_, BBX.out⟩
                have h9 : (⟨PL.toArray⟩ : ByteArray) = z ++ y0 ++ y2 := congrArg (fun l : Bs => (⟨l.toArray⟩ : ByteArray)) (HPR.out.trans HC3.out.symm)
                simp only []
                rw [h9]
                rfl
            · have g1 : (0 : Int) < sc.length := by omega
              have hq1 : saidL schemeN sc = putL schemeN sc := by unfold putL; rw [if_neg (fun e => hl1 (by rw [e]; rfl))]
              have hd1 : (⟨(saidL schemeN sc).toArray⟩ : ByteArray).data.toList = putL schemeN sc := by rw [str_data]; exact hq1
              have hs1 : (⟨(saidL schemeN sc).toArray⟩ : ByteArray).size ≤ 2000003001 := by rw [size_list, hd1]; exact putL_len schemeN sc (by decide) HSL.out.2.1.2 HSL.out.2.1.1
              have HK1 : Hid (∀ x, Below w.heap.size w x → Calls Tryz.prog 38 #[.string ⟨#[115, 99, 104, 101, 109, 101]⟩, .slice sa sc.length sc'] x fun e w' => e = .returned (.string ⟨(saidL schemeN sc).toArray⟩) ∧ w' = x) := HS2
              generalize (⟨(saidL schemeN sc).toArray⟩ : ByteArray) = y1 at *
              have HC2 : Hid ((z ++ y0 ++ y1).data.toList = D0 ++ rulesP rs ++ putL linkN li ++ putL schemeN sc) := hide (str_app _ _ _ _ HC1.out hd1)
              have hf1 : ¬ 9223372036854775807 < z.size + y0.size + y1.size := by omega
              clear hq1 hd1 HS2
              go_wp2_with fail
              refine (HK1.out _ BBX.out).mono ?_
              rintro e v1 ⟨rfl, rfl⟩
              by_cases hl2 : dr.length = 0
              · have g2 : ¬ (0 : Int) < dr.length := by omega
                have HC3 : Hid ((z ++ y0 ++ y1).data.toList = D0 ++ rulesP rs ++ putL linkN li ++ putL schemeN sc ++ putL dropN dr) := hide (by rw [List.length_eq_zero_iff.1 hl2, show putL dropN [] = [] from rfl, List.append_nil]; exact HC2.out)
                go_wp2
                go_ret2
                refine ⟨?_, BBX.out⟩
                have h9 : (⟨PL.toArray⟩ : ByteArray) = z ++ y0 ++ y1 := congrArg (fun l : Bs => (⟨l.toArray⟩ : ByteArray)) (HPR.out.trans HC3.out.symm)
                simp only []
                rw [h9]
                rfl
              · have g2 : (0 : Int) < dr.length := by omega
                have hq2 : saidL dropN dr = putL dropN dr := by unfold putL; rw [if_neg (fun e => hl2 (by rw [e]; rfl))]
                have hd2 : (⟨(saidL dropN dr).toArray⟩ : ByteArray).data.toList = putL dropN dr := by rw [str_data]; exact hq2
                have hs2 : (⟨(saidL dropN dr).toArray⟩ : ByteArray).size ≤ 2000003001 := by rw [size_list, hd2]; exact putL_len dropN dr (by decide) HSL.out.2.2.2 HSL.out.2.2.1
                have HK2 : Hid (∀ x, Below w.heap.size w x → Calls Tryz.prog 38 #[.string ⟨#[100, 114, 111, 112]⟩, .slice da dr.length dc] x fun e w' => e = .returned (.string ⟨(saidL dropN dr).toArray⟩) ∧ w' = x) := HS3
                generalize (⟨(saidL dropN dr).toArray⟩ : ByteArray) = y2 at *
                have HC3 : Hid ((z ++ y0 ++ y1 ++ y2).data.toList = D0 ++ rulesP rs ++ putL linkN li ++ putL schemeN sc ++ putL dropN dr) := hide (str_app _ _ _ _ HC2.out hd2)
                have hf2 : ¬ 9223372036854775807 < z.size + y0.size + y1.size + y2.size := by omega
                clear hq2 hd2 HS3
                go_wp2_with fail
                refine (HK2.out _ BBX.out).mono ?_
                rintro e v2 ⟨rfl, rfl⟩
                go_wp2
                go_ret2
                refine ⟨?_, BBX.out⟩
                have h9 : (⟨PL.toArray⟩ : ByteArray) = z ++ y0 ++ y1 ++ y2 := congrArg (fun l : Bs => (⟨l.toArray⟩ : ByteArray)) (HPR.out.trans HC3.out.symm)
                simp only []
                rw [h9]
                rfl
  · have hci : (c != 0) = true := by rw [bne_iff_ne]; exact hc
    rw [if_neg hc]
    clear hc
    go_enter Tryz.func17, Tryz.ntmps17
    go_wp2_with fail
    refine (H1.out _ BB.out).mono ?_
    rintro e w1 ⟨rfl, b1⟩
    have BC := hide (BB.out.trans (b1.mono BB.out.size))
    clear b1
    go_wp2
    go_ret2
    exact ⟨rfl, BC.out⟩
end Go.Proofs.YtfjganjihapnhaaGreatDoor
