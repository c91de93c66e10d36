/- What the program's Print answers. -/
import Derived.Test.YtfjganjihapnhaaGreatDoorQd11
set_option linter.unusedVariables false
set_option linter.unusedSimpArgs false
set_option maxRecDepth 4000
namespace Go.Proofs.YtfjganjihapnhaaGreatDoor
open Go.RowKit

set_option maxHeartbeats 4000000 in
theorem print_any (p : PV) (hp : CapP p) (w : World) (hI : IsPo w p) :
    Calls Tryz.prog 16 #[poA p] w fun e w' => e = .returned (.tuple #[.string ⟨(printP p.po).1.toArray⟩, .int .i64 (printP p.po).2]) ∧ Below w.heap.size w w' := by
  have H1 := hide (fun x (b : Below w.heap.size w x) => check_any p hp x (hI.below b))
  have hPR := print_is p
  have hDE := @check_deep p.po
  unfold printP
  have hS := hp.s
  generalize checkP p.po = c at *
  generalize printL p.po = PL at *
  have HR := hide (fun k r (hk : p.rs[k]? = some r) => (hS.a r (List.mem_of_getElem? hk)))
  have HRL := hide (fun k => rulesP_len (p.rs.take k) (fun r hr => hS.a r (List.mem_of_mem_take hr)))
  have hrl : p.rs.length ≤ 1000 := hS.r
  have hdd : p.po.de = p.de := rfl
  rw [hdd] at hDE
  clear hdd
  have HSL := hide (show (p.li.length ≤ 2000 ∧ (∀ x ∈ p.li, x.length ≤ 1000000)) ∧ (p.sc.length ≤ 2000 ∧ (∀ x ∈ p.sc, x.length ≤ 1000000)) ∧ (p.dr.length ≤ 2000 ∧ (∀ x ∈ p.dr, x.length ≤ 1000000)) from ⟨⟨by have := hS.l; omega, hS.ll⟩, ⟨by have := hS.s; omega, hS.ls⟩, ⟨by have := hS.d; omega, hS.ld⟩⟩)
  clear hS
  have HB := hide (fun x (b : Below (poW w p).heap.size (poW w p) x) => po_box w p b)
  obtain ⟨rs, li, sc, dr, de, rv, lv, sv, dv⟩ := p
  simp only [] at *
  have gr : IsR w rv rs := hI.r
  have gl : IsW w lv li := hI.l
  have gs : IsW w sv sc := hI.s
  have gd : IsW w dv dr := hI.d
  obtain ⟨ra, rc, rfl⟩ := gr.form
  obtain ⟨la, lc, rfl⟩ := gl.form
  obtain ⟨sa, sc', rfl⟩ := gs.form
  obtain ⟨da, dc, rfl⟩ := gd.form
  have HGL := hide gl
  have HGS := hide gs
  have HGD := hide gd
  have HAT := hide (fun k r (hk : rs[k]? = some r) => gr.at_ k r hk)
  clear gl gs gd
  have B0 := hide (Below.refl (poW w ⟨rs, li, sc, dr, de, .slice ra rs.length rc, .slice la li.length lc, .slice sa sc.length sc', .slice da dr.length dc⟩).heap.size (poW w ⟨rs, li, sc, dr, de, .slice ra rs.length rc, .slice la li.length lc, .slice sa sc.length sc', .slice da dr.length dc⟩))
  obtain ⟨c0, c1, c2, c3, c4, bb⟩ := HB.out _ B0.out
  have BB := hide bb
  clear hI bb gr hp
  by_cases hc : c = 0
  · subst hc
    rw [if_pos rfl]
    obtain ⟨n1, n2⟩ := hDE rfl
    obtain ⟨d, rfl⟩ : ∃ d : Nat, de = (d : Int) := ⟨de.toNat, by omega⟩
    have hd60 : d ≤ 60 := by omega
    have hnl : ((d : Int)).toNat = d := by omega
    rw [hnl, ← dec_num d (by omega)] at hPR
    have HIT := hide (Tryz.strconv_Itoa_small d (by omega))
    have hdl : (Lib.decDigits d).length ≤ 1000 := by
      rw [dec_num d (by omega)]
      unfold numL figL
      split <;> simp
    have hds : (⟨(Lib.decDigits d).toArray⟩ : ByteArray).data.toList = Lib.decDigits d := str_data _
    generalize Lib.decDigits d = D at *
    have HPR := hide hPR
    have HDL := hide hdl
    clear hPR hdl hnl hDE n1 n2 hds
    go_enter Tryz.func16, Tryz.ntmps16
    go_wp2_with fail
    refine (H1.out _ BB.out).mono ?_
    rintro e w1 ⟨rfl, b1⟩
    have B1 := hide (B0.out.trans (b1.mono B0.out.size))
    clear b1 c0 c1 c2 c3 c4 H1
    obtain ⟨c0, c1, c2, c3, c4, bb⟩ := HB.out _ B1.out
    have BB1 := hide bb
    clear bb
    have hcb : ∀ j v, w1.cell? ⟨w.heap.size, j, none⟩ = some v → ∀ W, Below w1.heap.size w1 W → W.cell? ⟨w.heap.size, j, none⟩ = some v := fun j v h W b => (b.cell (cell_lt h)).trans h
    have HX : Hid (∀ W, Below w1.heap.size w1 W → W.cell? ⟨w.heap.size, 0, none⟩ = some (.slice ra rs.length rc) ∧ W.cell? ⟨w.heap.size, 1, none⟩ = some (.slice la li.length lc) ∧ W.cell? ⟨w.heap.size, 2, none⟩ = some (.slice sa sc.length sc') ∧ W.cell? ⟨w.heap.size, 3, none⟩ = some (.slice da dr.length dc) ∧ W.cell? ⟨w.heap.size, 4, none⟩ = some (.int .i64 d) ∧ Below w.heap.size w W) := hide (fun W b => ⟨hcb 0 _ c0 W b, hcb 1 _ c1 W b, hcb 2 _ c2 W b, hcb 3 _ c3 W b, hcb 4 _ c4 W b, BB1.out.trans (b.mono BB1.out.size)⟩)
    clear hcb c0 c1 c2 c3 c4
    have IB0 := hide (Lib.IsBuilderF.of (Lib.fresh_isBuilder 56 5 w1))
    have BW0 := hide ((Below.refl w1.heap.size w1).alloc (Nat.le_refl _) (.cells #[.pointer none, .slice none 0 0] 56))
    obtain ⟨c0, c1, c2, c3, c4, _⟩ := HX.out _ BW0.out
    go_wp2_with fail
    refine (HIT.out _).mono ?_
    rintro e w2 ⟨rfl, rfl⟩
    have hds : (⟨D.toArray⟩ : ByteArray).data.toList = D := str_data D
    generalize (⟨D.toArray⟩ : ByteArray) = ds at *
    subst hds
    have hsz : (w1.alloc (.cells #[.pointer none, .slice none 0 0] 56)).heap.size = w1.heap.size + 1 := by simp
    have HP1 : Hid (Calls Tryz.prog 34 #[.pointer (some ⟨w1.heap.size, 0, none⟩), .string ⟨#[100, 101, 101, 112]⟩, .slice (some ⟨w1.heap.size + 1, 0, none⟩) 1 1] ((w1.alloc (.cells #[.pointer none, .slice none 0 0] 56)).alloc (.cells #[.string ds] 9)) fun e w' => e = .returned (.tuple #[]) ∧ Hid (Lib.IsBuilderF 56 5 w1.heap.size w1.heap.size (Lib.byteCells (putL deepN [ds.data.toList] ++ rulesP (rs.take 0))) w') ∧ Hid (Below w1.heap.size w1 w')) := hide (by
      have hoo := own_one (w1.alloc (.cells #[.pointer none, .slice none 0 0] 56)) ds
      have hp := put_any w1.heap.size w1.heap.size [] ⟨#[100, 101, 101, 112]⟩ [ds.data.toList] _ _ (stay_own hoo (by rw [hsz]; omega)) (Lib.IsBuilderF.alloc IB0.out _) (by rw [World.alloc] <;> simp <;> omega) (by simp) (by decide) (by simp) (fun x hx => by obtain rfl := List.mem_singleton.1 hx; have := HDL.out; omega)
      rw [hsz] at hp
      refine hp.mono fun e w' h => ?_
      obtain ⟨h1, h2, h3, h4⟩ := h
      refine ⟨h1, hide ?_, hide (((BW0.out).alloc (by rw [hsz]; omega) _).trans h3)⟩
      rw [List.take_zero, show rulesP [] = [] from rfl, List.append_nil]
      exact h2)
    clear hsz IB0
    go_wp2_with fail
    refine HP1.out.mono ?_
    rintro e w3 ⟨rfl, IB, BW⟩
    clear HP1 c0 c1 c2 c3 c4
    obtain ⟨c0, c1, c2, c3, c4, _⟩ := HX.out _ BW.out
    go_wp2
    go_loopw [21] (fun i wr => ∃ k : Nat, k ≤ rs.length ∧ i = .int .i64 k ∧ Hid (Lib.IsBuilderF 56 5 w1.heap.size w1.heap.size (Lib.byteCells (putL deepN [ds.data.toList] ++ rulesP (rs.take k))) wr) ∧ Hid (Below w1.heap.size w1 wr)) (fun i _ => rs.length - (intOf i).toNat)
    case atStart => exact ⟨0, Nat.zero_le _, rfl, IB, BW⟩
    case round =>
      clear IB BW c0 c1 c2 c3 c4
      obtain ⟨k, hk, rfl, IB, BW⟩ := hrel
      obtain ⟨c0, c1, c2, c3, c4, bw⟩ := HX.out _ BW.out
      by_cases hlt : k < rs.length
      · have hlt2 : (k : Int) < rs.length := by omega
        obtain ⟨x, hx⟩ : ∃ x, rs[k]? = some x := ⟨_, List.getElem?_eq_getElem hlt⟩
        obtain ⟨⟨b, o, rfl, hq⟩, hw⟩ := HAT.out k x hx
        obtain ⟨d0, d1⟩ := hq _ bw
        obtain ⟨xa, xc, hxf⟩ := hw.form
        have hst := rulesP_step rs k x hx
        have hsm := HR.out k x hx
        obtain ⟨xn, xat, xav⟩ := x
        simp only [] at hxf d0 d1 hst hsm hw
        subst hxf
        have HW := hide (hw.below bw)
        have HST := hide hst
        have HSM := hide hsm
        clear hq hw hx hst hsm bw c0 c1 c2 c3 c4
        go_wp2_with fail
        have bx : Below wr.heap.size wr (((wr.alloc (.cells #[.string xn, .slice xa xat.length xc] 45)).alloc (.cells #[.string xn] 9)).alloc (.cells #[.slice (some ⟨wr.heap.size + 1, 0, none⟩) 1 1, .slice xa xat.length xc] 23)) := (((Below.refl _ wr).alloc (Nat.le_refl _) _).alloc (by simp) _).alloc (by simp; omega) _
        have HC : Hid (Calls Tryz.prog 36 #[.slice (some ⟨wr.heap.size + 1 + 1, 0, none⟩) 2 2] (((wr.alloc (.cells #[.string xn, .slice xa xat.length xc] 45)).alloc (.cells #[.string xn] 9)).alloc (.cells #[.slice (some ⟨wr.heap.size + 1, 0, none⟩) 1 1, .slice xa xat.length xc] 23)) fun e w' => ∃ va vn vc, e = .returned (.slice va vn vc) ∧ Hid (StayL w1.heap.size w1.heap.size w' (.slice va vn vc) (xn.data.toList :: xat)) ∧ Hid (Below wr.heap.size wr w')) := hide (by
          have hxn : (⟨(xn.data.toList).toArray⟩ : ByteArray) = xn := by obtain ⟨⟨l⟩⟩ := xn; rfl
          have hcc := concat_any xn.data.toList xat (wr.heap.size + 1) (wr.heap.size + 1 + 1) (.slice xa xat.length xc) (((wr.alloc (.cells #[.string xn, .slice xa xat.length xc] 45)).alloc (.cells #[.string xn] 9)).alloc (.cells #[.slice (some ⟨wr.heap.size + 1, 0, none⟩) 1 1, .slice xa xat.length xc] 23)) (by simp [go_sem]) (by simp [go_sem]) (by rw [hxn]; simp [go_sem]) (HW.out.below bx) HSM.out.1
          refine hcc.mono fun e w' h => ?_
          obtain ⟨v, h1, h2, h3⟩ := h
          obtain ⟨q1, q2, q3⟩ := owns_formG h2
          refine ⟨q1, _, q2, by rw [h1, q3], hide ?_, hide (bx.trans (h3.mono bx.size))⟩
          rw [← q3]
          exact stay_own h2 (by have := BW.out.size; simp; omega))
        refine HC.out.mono ?_
        rintro e w4 ⟨va, vn, vc, rfl, HS, HB4⟩
        have HP : Hid (Calls Tryz.prog 34 #[.pointer (some ⟨w1.heap.size, 0, none⟩), .string ⟨#[101, 108, 101, 109, 101, 110, 116]⟩, .slice va vn vc] w4 fun e w' => e = .returned (.tuple #[]) ∧ Hid (Lib.IsBuilderF 56 5 w1.heap.size w1.heap.size (Lib.byteCells (putL deepN [ds.data.toList] ++ rulesP (rs.take (k + 1)))) w') ∧ Hid (Below w1.heap.size w1 w')) := hide (by
          have hr := HRL.out k
          rw [List.length_take] at hr
          have hr2 : min k rs.length * 2000003001 ≤ 1000 * 2000003001 := Nat.mul_le_mul_right _ (by omega)
          have hd := putL_len deepN [ds.data.toList] (by decide) (fun x hx => by obtain rfl := List.mem_singleton.1 hx; have := HDL.out; omega) (by simp)
          have hb4 : Below w1.heap.size w1 w4 := BW.out.trans (HB4.out.mono BW.out.size)
          have hp := put_any w1.heap.size w1.heap.size (putL deepN [ds.data.toList] ++ rulesP (rs.take k)) ⟨#[101, 108, 101, 109, 101, 110, 116]⟩ (xn.data.toList :: xat) (.slice va vn vc) w4 HS.out (builder_below IB.out HB4.out) hb4.size (by rw [List.length_append]; omega) (by decide) (by have := HSM.out.1; rw [List.length_cons]; omega) (fun x hx => by
            rcases List.mem_cons.1 hx with rfl | hx
            · rw [← size_list]; exact HSM.out.2.1
            · exact HSM.out.2.2 x hx)
          refine hp.mono fun e w' h => ?_
          obtain ⟨h1, h2, h3, h4⟩ := h
          refine ⟨h1, hide ?_, hide (hb4.trans h3)⟩
          rw [HST.out, ← List.append_assoc]
          exact h2)
        clear bx HC HS HB4 d0 d1 IB BW
        go_wp2_with fail
        refine HP.out.mono ?_
        rintro e w5 ⟨rfl, IB2, BW2⟩
        go_wp2
        go_roundw
        case rel => exact ⟨k + 1, by omega, by go_num, IB2, BW2⟩
        case measure => simp [intOf]; omega
      · have hlt2 : ¬ (k : Int) < rs.length := by omega
        obtain rfl : k = rs.length := by omega
        rw [List.take_length] at IB
        have hr := HRL.out rs.length
        rw [List.take_length] at hr
        have hr2 : rs.length * 2000003001 ≤ 1000 * 2000003001 := Nat.mul_le_mul_right _ hrl
        have hd := putL_len deepN [ds.data.toList] (by decide) (fun x hx => by obtain rfl := List.mem_singleton.1 hx; have := HDL.out; omega) (by simp)
        have HLEN := hide (show (putL deepN [ds.data.toList] ++ rulesP rs).length ≤ 3000000000000 by rw [List.length_append]; omega)
        have hz : w.heap.size ≤ w1.heap.size := BB1.out.size
        clear hr hr2 hd hlt bw
        generalize putL deepN [ds.data.toList] ++ rulesP rs = A0 at *
        have HL0 : Hid (Calls Tryz.prog 34 #[.pointer (some ⟨w1.heap.size, 0, none⟩), .string ⟨#[108, 105, 110, 107]⟩, .slice la li.length lc] wr fun e w' => e = .returned (.tuple #[]) ∧ Hid (Lib.IsBuilderF 56 5 w1.heap.size w1.heap.size (Lib.byteCells (A0 ++ putL linkN li)) w') ∧ Hid (Below w1.heap.size w1 w')) := hide (by
          have hp := put_any w1.heap.size w1.heap.size (A0) ⟨#[108, 105, 110, 107]⟩ li (.slice la li.length lc) wr (stay_low HGL.out (HX.out _ BW.out).2.2.2.2.2 hz) IB.out BW.out.size (by have := HLEN.out; skip; omega) (by decide) HSL.out.1.1 HSL.out.1.2
          refine hp.mono fun e w' h => ?_
          obtain ⟨h1, h2, h3, h4⟩ := h
          exact ⟨h1, hide h2, hide (BW.out.trans h3)⟩)
        go_wp2_with fail
        refine HL0.out.mono ?_
        rintro e x1 ⟨rfl, IB1, BW1⟩
        clear HL0 c0 c1 c2 c3 c4
        obtain ⟨c0, c1, c2, c3, c4, _⟩ := HX.out _ BW1.out
        have HL1 : Hid (Calls Tryz.prog 34 #[.pointer (some ⟨w1.heap.size, 0, none⟩), .string ⟨#[115, 99, 104, 101, 109, 101]⟩, .slice sa sc.length sc'] x1 fun e w' => e = .returned (.tuple #[]) ∧ Hid (Lib.IsBuilderF 56 5 w1.heap.size w1.heap.size (Lib.byteCells (A0 ++ putL linkN li ++ putL schemeN sc)) w') ∧ Hid (Below w1.heap.size w1 w')) := hide (by
          have hp := put_any w1.heap.size w1.heap.size (A0 ++ putL linkN li) ⟨#[115, 99, 104, 101, 109, 101]⟩ sc (.slice sa sc.length sc') x1 (stay_low HGS.out (HX.out _ BW1.out).2.2.2.2.2 hz) IB1.out BW1.out.size (by have := HLEN.out; have t1 := putL_len linkN li (by decide) HSL.out.1.2 HSL.out.1.1; rw [List.length_append]; omega) (by decide) HSL.out.2.1.1 HSL.out.2.1.2
          refine hp.mono fun e w' h => ?_
          obtain ⟨h1, h2, h3, h4⟩ := h
          exact ⟨h1, hide h2, hide (BW1.out.trans h3)⟩)
        go_wp2_with fail
        refine HL1.out.mono ?_
        rintro e x2 ⟨rfl, IB2, BW2⟩
        clear HL1 c0 c1 c2 c3 c4
        obtain ⟨c0, c1, c2, c3, c4, _⟩ := HX.out _ BW2.out
        have HL2 : Hid (Calls Tryz.prog 34 #[.pointer (some ⟨w1.heap.size, 0, none⟩), .string ⟨#[100, 114, 111, 112]⟩, .slice da dr.length dc] x2 fun e w' => e = .returned (.tuple #[]) ∧ Hid (Lib.IsBuilderF 56 5 w1.heap.size w1.heap.size (Lib.byteCells (A0 ++ putL linkN li ++ putL schemeN sc ++ putL dropN dr)) w') ∧ Hid (Below w1.heap.size w1 w')) := hide (by
          have hp := put_any w1.heap.size w1.heap.size (A0 ++ putL linkN li ++ putL schemeN sc) ⟨#[100, 114, 111, 112]⟩ dr (.slice da dr.length dc) x2 (stay_low HGD.out (HX.out _ BW2.out).2.2.2.2.2 hz) IB2.out BW2.out.size (by have := HLEN.out; have t1 := putL_len linkN li (by decide) HSL.out.1.2 HSL.out.1.1; have t2 := putL_len schemeN sc (by decide) HSL.out.2.1.2 HSL.out.2.1.1; rw [List.length_append, List.length_append]; omega) (by decide) HSL.out.2.2.1 HSL.out.2.2.2
          refine hp.mono fun e w' h => ?_
          obtain ⟨h1, h2, h3, h4⟩ := h
          exact ⟨h1, hide h2, hide (BW2.out.trans h3)⟩)
        go_wp2_with fail
        refine HL2.out.mono ?_
        rintro e x3 ⟨rfl, IB3, BW3⟩
        clear HL2 c0 c1 c2 c3 c4
        obtain ⟨c0, c1, c2, c3, c4, _⟩ := HX.out _ BW3.out
        go_wp2_with fail
        refine (Tryz.Builder_String_any_k w1.heap.size w1.heap.size _ _ IB3.out BW3.out.size).mono ?_
        rintro e x4 ⟨rfl, _, b4, _⟩
        have BZ := hide (HX.out _ (BW3.out.trans b4)).2.2.2.2.2
        clear b4 c0 c1 c2 c3 c4
        go_wp2
        go_ret2
        refine ⟨?_, BZ.out⟩
        rw [HPR.out]
        simp only [List.append_assoc]
        rfl
  · have hci : (c != 0) = true := by rw [bne_iff_ne]; exact hc
    rw [if_neg hc]
    clear hc
    go_enter Tryz.func16, Tryz.ntmps16
    go_wp2_with fail
    refine (H1.out _ BB.out).mono ?_
    rintro e w1 ⟨rfl, b1⟩
    have BC := hide (BB.out.trans (b1.mono BB.out.size))
    clear b1
    go_wp2
    go_ret2
    exact ⟨rfl, BC.out⟩
end Go.Proofs.YtfjganjihapnhaaGreatDoor
