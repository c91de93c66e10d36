/- What PolicyBack answers. -/
import Derived.Test.YtfjganjihapnhaaGreatDoorQf11
import Derived.Test.YtfjganjihapnhaaGreatDoorRow11
set_option linter.unusedVariables false
set_option linter.unusedSimpArgs false
set_option maxRecDepth 4000
namespace Go.Proofs.YtfjganjihapnhaaGreatDoor
open Go.RowKit

theorem parse_back (p : PO) (hc : checkP p = 0) (t : ByteArray) (ht : t.data.toList = printL p) (hl : t.size ≤ 2000) (w : World) :
    Calls Tryz.prog 13 #[.string t] w fun e w' => ∃ q : PV, e = .returned (.tuple #[poA q, .int .i64 0, .int .i64 0]) ∧ Hid (q.po = p) ∧ Hid (IsPo w' q) ∧ Hid (Below w.heap.size w w') :=
  (parse_any t (by omega) w).mono fun e w' h => by
    obtain ⟨q, h1, h2, h3, h4, h5⟩ := h
    rw [ht, parse_print p hc (by rw [← ht, ← size_list]; exact hl)] at h1 h2
    exact ⟨q, h2, hide h1, hide h3, hide h5⟩
theorem parse_noted (p : PO) (hc : checkP p = 0) (t s : ByteArray) (ht : t.data.toList = printL p) (hs : ∀ j (h : j < s.size), s[j].toNat ≠ 10) (hl : t.size + s.size + 4 ≤ 2000) (w : World) :
    Calls Tryz.prog 13 #[.string ((⟨#[35]⟩ : ByteArray) ++ s ++ (⟨#[10, 32, 10]⟩ : ByteArray) ++ t)] w fun e w' => ∃ q : PV, e = .returned (.tuple #[poA q, .int .i64 0, .int .i64 0]) ∧ Hid (q.po = p) ∧ Hid (IsPo w' q) ∧ Hid (Below w.heap.size w w') := by
  have e : ((⟨#[35]⟩ : ByteArray) ++ s ++ (⟨#[10, 32, 10]⟩ : ByteArray) ++ t).data.toList = 35 :: (s.data.toList ++ 10 :: 32 :: 10 :: printL p) := by
    have h1 := str_app _ _ [35] s.data.toList (rfl : (⟨#[35]⟩ : ByteArray).data.toList = [35]) rfl
    have h2 := str_app _ _ _ [10, 32, 10] h1 (rfl : (⟨#[10, 32, 10]⟩ : ByteArray).data.toList = [10, 32, 10])
    have h3 := str_app _ _ _ _ h2 ht
    rw [h3]
    simp
  have hz : ((⟨#[35]⟩ : ByteArray) ++ s ++ (⟨#[10, 32, 10]⟩ : ByteArray) ++ t).size ≤ 1000000 := by
    rw [size_list, e]
    simp only [List.length_cons, List.length_append]
    rw [← size_list, ← ht, ← size_list]
    omega
  refine (parse_any _ hz w).mono fun e' w' h => ?_
  obtain ⟨q, h1, h2, h3, h4, h5⟩ := h
  rw [e, parse_note p hc s.data.toList (fun c hc h => by
    obtain ⟨j, hj, rfl⟩ := List.mem_iff_getElem.1 hc
    have hj2 : j < s.size := by rw [size_list]; exact hj
    refine hs j hj2 ?_
    show (s.data[j]).toNat = 10
    have : s.data[j] = s.data.toList[j] := by simp
    rw [this, h]
    rfl) (by rw [← ht, ← size_list, ← size_list]; omega)] at h1 h2
  exact ⟨q, h2, hide h1, hide h3, hide h5⟩
set_option maxHeartbeats 4000000 in
theorem policyBack_walk (p : PV) (s : ByteArray) (w : World) (hP : InP w p) :
    Calls Tryz.prog 8 #[poA p, .string s] w fun e w' => e = .returned (.bool true) ∧ Below w.heap.size w w' := by
  have HAL := hide alive_any
  have HSM := hide (fun x (b : Below w.heap.size w x) => rsmall_any p hP.len x (hP.i.below b))
  have HCP := hide (small_cap hP)
  have HPR0 := hide (fun hp x (b : Below w.heap.size w x) => print_any p hp x (hP.i.below b))
  have HCK0 := hide (fun hp x (b : Below w.heap.size w x) => check_any p hp x (hP.i.below b))
  have HSA0 := hide (fun hrl (q : PV) (hq : q.po = p.po) x (b : Below w.heap.size w x) (hIq : IsPo x q) => rsame_eq p q hq.symm hP.len hrl x (hP.i.below b) hIq)
  have hI := hP.i
  clear hP
  generalize smallP p.po = SM at *
  have hPP : printP p.po = if checkP p.po = 0 then (printL p.po, 0) else ([], checkP p.po) := rfl
  have HPA0 := hide (parse_back p.po)
  have HPN0 := hide (parse_noted p.po)
  have hrl0 : CapP p → p.rs.length ≤ 1000 := fun h => h.s.r
  generalize p.po = Q at *
  have HB := hide (fun x (b : Below (poW w p).heap.size (poW w p) x) => po_box w p b)
  obtain ⟨rs, li, sc, dr, de, rv, lv, sv, dv⟩ := p
  simp only [] at *
  have gr : IsR w rv rs := hI.r
  have gl : IsW w lv li := hI.l
  have gs : IsW w sv sc := hI.s
  have gd : IsW w dv dr := hI.d
  obtain ⟨ra, rc, rfl⟩ := gr.form
  obtain ⟨la, lc, rfl⟩ := gl.form
  obtain ⟨sa, sc', rfl⟩ := gs.form
  obtain ⟨da, dc, rfl⟩ := gd.form
  clear gl gs gd gr
  have B0 := hide (Below.refl (poW w ⟨rs, li, sc, dr, de, .slice ra rs.length rc, .slice la li.length lc, .slice sa sc.length sc', .slice da dr.length dc⟩).heap.size (poW w ⟨rs, li, sc, dr, de, .slice ra rs.length rc, .slice la li.length lc, .slice sa sc.length sc', .slice da dr.length dc⟩))
  obtain ⟨c0, c1, c2, c3, c4, bb⟩ := HB.out _ B0.out
  have BB := hide bb
  clear bb hI
  cases SM with
  | false =>
    clear HCP HPR0 HCK0 HSA0 HPA0 HPN0 hPP hrl0
    go_enter Tryz.func8, Tryz.ntmps8
    go_wp2_with fail
    refine (HSM.out _ BB.out).mono ?_
    rintro e w1 ⟨rfl, b1⟩
    have B1 := hide (B0.out.trans (b1.mono B0.out.size))
    clear b1 c0 c1 c2 c3 c4
    obtain ⟨c0, c1, c2, c3, c4, bb⟩ := HB.out _ B1.out
    have BB1 := hide bb
    clear bb
    go_wp2_with fail
    refine (HAL.out _).mono ?_
    rintro e wz ⟨rfl, bz⟩
    have BZ := hide (Below.trans BB1.out (bz.mono (BB1.out).size))
    clear bz
    go_wp2
    go_ret
    exact ⟨rfl, BZ.out⟩
  | true =>
    by_cases hs : 60 < s.size
    · have gs : (60 : Int) < s.size := by omega
      clear hs HCP HPR0 HCK0 HSA0 HPA0 HPN0 hPP hrl0
      go_enter Tryz.func8, Tryz.ntmps8
      go_wp2_with fail
      refine (HSM.out _ BB.out).mono ?_
      rintro e w1 ⟨rfl, b1⟩
      have B1 := hide (B0.out.trans (b1.mono B0.out.size))
      clear b1 c0 c1 c2 c3 c4
      obtain ⟨c0, c1, c2, c3, c4, bb⟩ := HB.out _ B1.out
      have BB1 := hide bb
      clear bb
      go_wp2_with fail
      refine (HAL.out _).mono ?_
      rintro e wz ⟨rfl, bz⟩
      have BZ := hide (Below.trans BB1.out (bz.mono (BB1.out).size))
      clear bz
      go_wp2
      go_ret
      exact ⟨rfl, BZ.out⟩
    · have gs : ¬ (60 : Int) < s.size := by omega
      have hCP := HCP.out rfl
      have HPR := hide (HPR0.out hCP)
      have HCK := hide (HCK0.out hCP)
      have HSA := hide (HSA0.out (hrl0 hCP))
      clear HPR0 HCK0 HSA0 hrl0 hCP HCP
      rw [hPP] at HPR
      clear hPP
      by_cases hc : checkP Q = 0
      · rw [if_pos hc] at HPR
        have HPA := hide (HPA0.out hc)
        have HPN := hide (HPN0.out hc)
        clear HPA0 HPN0 HCK hc
        have ht : (⟨(printL Q).toArray⟩ : ByteArray).data.toList = printL Q := str_data _
        simp only [] at HPR
        generalize (⟨(printL Q).toArray⟩ : ByteArray) = t at *
        have HT := hide ht
        clear ht
        go_enter Tryz.func8, Tryz.ntmps8
        go_wp2_with fail
        refine (HSM.out _ BB.out).mono ?_
        rintro e w1 ⟨rfl, b1⟩
        have B1 := hide (B0.out.trans (b1.mono B0.out.size))
        clear b1 c0 c1 c2 c3 c4
        obtain ⟨c0, c1, c2, c3, c4, bb⟩ := HB.out _ B1.out
        have BB1 := hide bb
        clear bb
        go_wp2_with fail
        refine (HPR.out _ BB1.out).mono ?_
        rintro e w2 ⟨rfl, b2⟩
        have B2 := hide (B1.out.trans (b2.mono B1.out.size))
        clear b2 c0 c1 c2 c3 c4
        obtain ⟨c0, c1, c2, c3, c4, bb⟩ := HB.out _ B2.out
        have BB2 := hide bb
        clear bb
        go_wp2
        go_loop [7] (fun i => ∃ k : Nat, k ≤ s.size ∧ i = .int .i64 k ∧ Hid (∀ j (h : j < s.size), j < k → s[j].toNat ≠ 10)) (fun i => s.size - (intOf i).toNat)
        case atStart => exact ⟨0, Nat.zero_le _, rfl, hide (fun j _ h => by omega)⟩
        case round =>
          obtain ⟨k, hk, rfl, HN⟩ := hrel
          by_cases hlt : k < s.size
          · have hlt2 : (k : Int) < s.size := by omega
            by_cases h10 : s[k].toNat = 10
            · have e10 : ((s[k].toNat : Int) == 10) = true := by rw [h10]; rfl
              go_wp2_with fail
              refine (HAL.out _).mono ?_
              rintro e wz ⟨rfl, bz⟩
              have BZ := hide (Below.trans BB2.out (bz.mono (BB2.out).size))
              clear bz
              go_wp2
              go_ret
              exact ⟨rfl, BZ.out⟩
            · have e10 : ((s[k].toNat : Int) == 10) = false := by rw [beq_eq_false_iff_ne]; omega
              have HN2 : Hid (∀ j (h : j < s.size), j < k + 1 → s[j].toNat ≠ 10) := hide (fun j h hj => by
                by_cases hjk : j < k
                · exact HN.out j h hjk
                · obtain rfl : j = k := by omega
                  exact h10)
              clear HN h10
              go_wp2
              go_round
              case rel => exact ⟨k + 1, by omega, by go_num, HN2⟩
              case measure => simp [intOf]; omega
          · have hlt2 : ¬ (k : Int) < s.size := by omega
            have hw1 : wrap64 ((2000 : Int) - s.size) = 2000 - s.size := by unfold wrap64; omega
            have hw2 : wrap64 ((2000 : Int) - s.size - 4) = 2000 - s.size - 4 := by unfold wrap64; omega
            by_cases hbig : 2000 < t.size + s.size + 4
            · have hbi : (2000 : Int) - s.size - 4 < t.size := by omega
              clear hbig HN hlt
              go_wp2_with fail
              refine (HAL.out _).mono ?_
              rintro e wz ⟨rfl, bz⟩
              have BZ := hide (Below.trans BB2.out (bz.mono (BB2.out).size))
              clear bz
              go_wp2
              go_ret
              exact ⟨rfl, BZ.out⟩
            · have hbi : ¬ (2000 : Int) - s.size - 4 < t.size := by omega
              have HP1 := hide (HPA.out t HT.out (by omega))
              have HP2 := hide (HPN.out t s HT.out (fun j h => HN.out j h (by omega)) (by omega))
              clear HPA HPN HN HT hbig hlt
              go_wp2_with fail
              refine (HP1.out _).mono ?_
              rintro e x1 ⟨q, rfl, hq1, hI1, hb1⟩
              have HS1 := hide (fun x (b : Below x1.heap.size x1 x) (bw : Below w.heap.size w x) => HSA.out q hq1.out x bw (hI1.out.below b))
              have HBQ := hide (fun x (b : Below (poW x1 q).heap.size (poW x1 q) x) => po_box x1 q b)
              have D1 := hide (B2.out.trans (hb1.out.mono B2.out.size))
              obtain ⟨fa1, ga1, ia1⟩ := hI1.out.r.form
              obtain ⟨fb1, gb1, ib1⟩ := hI1.out.l.form
              obtain ⟨fc1, gc1, ic1⟩ := hI1.out.s.form
              obtain ⟨fd1, gd1, id1⟩ := hI1.out.d.form
              clear hq1 hI1 hb1 HP1
              obtain ⟨rs1, li1, sc1, dr1, de1, rv1, lv1, sv1, dv1⟩ := q
              simp only [] at ia1 ib1 ic1 id1 HS1 HBQ
              subst ia1 ib1 ic1 id1
              generalize rs1.length = n10 at *
              generalize li1.length = n11 at *
              generalize sc1.length = n12 at *
              generalize dr1.length = n13 at *
              clear c0 c1 c2 c3 c4
              go_wp2_with fail
              refine (HP2.out _).mono ?_
              rintro e x2 ⟨q, rfl, hq2, hI2, hb2⟩
              have HS2 := hide (fun x (b : Below x2.heap.size x2 x) (bw : Below w.heap.size w x) => HSA.out q hq2.out x bw (hI2.out.below b))
              have HBR := hide (fun x (b : Below (poW x2 q).heap.size (poW x2 q) x) => po_box x2 q b)
              have D2 := hb2
              obtain ⟨fa2, ga2, ia2⟩ := hI2.out.r.form
              obtain ⟨fb2, gb2, ib2⟩ := hI2.out.l.form
              obtain ⟨fc2, gc2, ic2⟩ := hI2.out.s.form
              obtain ⟨fd2, gd2, id2⟩ := hI2.out.d.form
              clear hq2 hI2 hb2 HP2
              obtain ⟨rs2, li2, sc2, dr2, de2, rv2, lv2, sv2, dv2⟩ := q
              simp only [] at ia2 ib2 ic2 id2 HS2 HBR
              subst ia2 ib2 ic2 id2
              generalize rs2.length = n20 at *
              generalize li2.length = n21 at *
              generalize sc2.length = n22 at *
              generalize dr2.length = n23 at *
              go_wp2_with fail
              refine (HAL.out _).mono ?_
              rintro e x3 ⟨rfl, b3⟩
              have E3 := hide b3
              clear b3
              obtain ⟨r0, r1, r2, r3, r4, br⟩ := HBR.out _ E3.out
              have bq := D2.out.trans (br.mono D2.out.size)
              obtain ⟨q0, q1, q2, q3, q4, bq1⟩ := HBQ.out _ bq
              have bp := D1.out.trans (bq1.mono D1.out.size)
              obtain ⟨c0, c1, c2, c3, c4, bw⟩ := HB.out _ bp
              have R3 := hide br
              have Q3 := hide bq1
              have W3 := hide bw
              clear br bq bq1 bp bw
              go_wp2_with fail
              refine (HS1.out _ Q3.out W3.out).mono ?_
              rintro e x4 ⟨rfl, b4⟩
              have E4 := hide (E3.out.trans (b4.mono E3.out.size))
              clear b4
              clear c0 c1 c2 c3 c4 q0 q1 q2 q3 q4 r0 r1 r2 r3 r4
              obtain ⟨r0, r1, r2, r3, r4, br⟩ := HBR.out _ E4.out
              have bq := D2.out.trans (br.mono D2.out.size)
              obtain ⟨q0, q1, q2, q3, q4, bq1⟩ := HBQ.out _ bq
              have bp := D1.out.trans (bq1.mono D1.out.size)
              obtain ⟨c0, c1, c2, c3, c4, bw⟩ := HB.out _ bp
              have R4 := hide br
              have Q4 := hide bq1
              have W4 := hide bw
              clear br bq bq1 bp bw
              go_wp2_with fail
              refine (HS2.out _ R4.out W4.out).mono ?_
              rintro e x5 ⟨rfl, b5⟩
              have E5 := hide (E4.out.trans (b5.mono E4.out.size))
              clear b5
              clear c0 c1 c2 c3 c4 q0 q1 q2 q3 q4 r0 r1 r2 r3 r4
              obtain ⟨r0, r1, r2, r3, r4, br⟩ := HBR.out _ E5.out
              have bq := D2.out.trans (br.mono D2.out.size)
              obtain ⟨q0, q1, q2, q3, q4, bq1⟩ := HBQ.out _ bq
              have bp := D1.out.trans (bq1.mono D1.out.size)
              obtain ⟨c0, c1, c2, c3, c4, bw⟩ := HB.out _ bp
              have R5 := hide br
              have Q5 := hide bq1
              have W5 := hide bw
              clear br bq bq1 bp bw
              go_wp2
              go_ret
              exact ⟨rfl, W5.out⟩
      · rw [if_neg hc] at HPR
        have hci : (checkP Q != 0) = true := by rw [bne_iff_ne]; exact hc
        clear HPA0 HPN0 HSA hc
        simp only [] at HPR
        generalize checkP Q = c at *
        go_enter Tryz.func8, Tryz.ntmps8
        go_wp2_with fail
        refine (HSM.out _ BB.out).mono ?_
        rintro e w1 ⟨rfl, b1⟩
        have B1 := hide (B0.out.trans (b1.mono B0.out.size))
        clear b1 c0 c1 c2 c3 c4
        obtain ⟨c0, c1, c2, c3, c4, bb⟩ := HB.out _ B1.out
        have BB1 := hide bb
        clear bb
        go_wp2_with fail
        refine (HPR.out _ BB1.out).mono ?_
        rintro e w2 ⟨rfl, b2⟩
        have B2 := hide (B1.out.trans (b2.mono B1.out.size))
        clear b2 c0 c1 c2 c3 c4
        obtain ⟨c0, c1, c2, c3, c4, bb⟩ := HB.out _ B2.out
        have BB2 := hide bb
        clear bb
        go_wp2_with fail
        refine (HAL.out _).mono ?_
        rintro e w3 ⟨rfl, b3⟩
        have B3 := hide (B2.out.trans (b3.mono B2.out.size))
        clear b3 c0 c1 c2 c3 c4
        obtain ⟨c0, c1, c2, c3, c4, bb⟩ := HB.out _ B3.out
        have BB3 := hide bb
        clear bb
        go_wp2_with fail
        refine (HCK.out _ BB3.out).mono ?_
        rintro e w4 ⟨rfl, b4⟩
        have B4 := hide (B3.out.trans (b4.mono B3.out.size))
        clear b4 c0 c1 c2 c3 c4
        obtain ⟨c0, c1, c2, c3, c4, bb⟩ := HB.out _ B4.out
        have BB4 := hide bb
        clear bb
        go_wp2
        go_ret
        exact ⟨by simp, BB4.out⟩
end Go.Proofs.YtfjganjihapnhaaGreatDoor
