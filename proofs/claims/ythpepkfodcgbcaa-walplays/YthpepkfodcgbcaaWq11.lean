import Derived.Test.YthpepkfodcgbcaaWq10
import Derived.Deep.LoopGhost
/- What the document's Open answers of a region of a disk that has power. -/
set_option linter.unusedVariables false
set_option linter.unusedSimpArgs false
set_option maxRecDepth 40000
namespace Go.Proofs.Ythpepkfodcgbcaa
open Go.RowKit

set_option maxHeartbeats 16000000 in
theorem ropen_go (P : Nat → Prop) (d : DV) (first size : Nat) (ep : Nat) (w : World) (hI : IsD w d) (hok : OkD d.m) (hs : d.m.safe.length ≤ 100000) (hll : d.m.l.length ≤ 100000) (hP : ∀ k, w.heap.size ≤ k → P k) (he : ep < 18446744073709551616) (h : isReg d.m (first : Int) (size : Int) = true) (ho : d.m.off = false) (hz : size ≤ 200) :
    Calls Try.prog 12 #[dkA d, .int .i64 (first : Int), .int .i64 (size : Int), .int .u64 (ep : Int)] w (OpenR P w (openW d.m (first : Int) (size : Int) ep)) := by
  have HPP := hide hP
  clear hP
  have hdef : (0 : Int) ≤ first ∧ (1 : Int) ≤ size ∧ (size : Int) ≤ ((d.m.safe.length / 4 : Nat) : Int) ∧ (first : Int) ≤ ((d.m.safe.length / 4 : Nat) : Int) - size := by
    unfold isReg at h
    rw [Bool.and_eq_true, Bool.and_eq_true, Bool.and_eq_true, decide_eq_true_eq, decide_eq_true_eq, decide_eq_true_eq, decide_eq_true_eq] at h
    exact h
  have hfit : (first + size) * 4 ≤ d.m.safe.length := by omega
  have hopen : openW d.m (first : Int) (size : Int) ep = if lifeW (regW (nowD d.m) first size) = 18446744073709551615 then (none, 8) else (some (logW (regW (nowD d.m) first size) first size ep), 0) := by
    unfold openW
    rw [if_pos h, ho, if_neg (by decide), Int.toNat_natCast, Int.toNat_natCast]
  have HR := hide hopen
  generalize openW d.m (first : Int) (size : Int) ep = R at *
  have h64 : ∀ x ∈ regW (nowD d.m) first size, x.length ≤ 1000 := by
    intro x hx
    obtain ⟨i, hi, rfl⟩ := List.mem_iff_getElem.1 hx
    have := poss_64 hok (now_poss (reg_some (List.getElem?_eq_getElem hi)).2)
    omega
  have hlen : (regW (nowD d.m) first size).length = size * 4 := reg_len _ _ _ (by rw [now_len]; exact hfit)
  obtain ⟨sa, sc, es⟩ := hI.s.form
  obtain ⟨la, lc, el⟩ := hI.l.form
  have hb0 : Below w.heap.size w ((w.alloc (.cells (dkC d) 31)).alloc (.cells #[.int .i64 0, .int .i64 0, .int .u64 0, .int .u64 0, .int .i64 0, .slice none 0 0, .bool false] 40)) := below_allocs _ _ _ _
  have HSEC : Hid (Calls Try.prog 42 #[dkA d, .int .i64 (first : Int), .int .i64 (size : Int)] ((w.alloc (.cells (dkC d) 31)).alloc (.cells #[.int .i64 0, .int .i64 0, .int .u64 0, .int .u64 0, .int .i64 0, .slice none 0 0, .bool false] 40)) fun e w' => ∃ a c, e = .returned (.slice a (size * 4) c) ∧ Hid (IsW w' (.slice a (size * 4) c) (regW (nowD d.m) first size)) ∧ Hid (Below w.heap.size w w') ∧ Hid (w'.heap[w.heap.size + 1]? = some (.cells (lgC zeroLg) 40 (0, 0)) ∧ w.heap.size + 2 ≤ w'.heap.size)) := hide ((rsectors_any d first size _ (hI.below hb0) hok hs hll (by omega) hfit).mono fun e w' hh => by
    obtain ⟨a, c, rfl, hW, hb⟩ := hh
    have z2 : ((w.alloc (.cells (dkC d) 31)).alloc (.cells #[.int .i64 0, .int .i64 0, .int .u64 0, .int .u64 0, .int .i64 0, .slice none 0 0, .bool false] 40)).heap.size = w.heap.size + 2 := by simp
    have n2 := alloc_new (w.alloc (.cells (dkC d) 31)) (.cells #[.int .i64 0, .int .i64 0, .int .u64 0, .int .u64 0, .int .i64 0, .slice none 0 0, .bool false] 40)
    have z1 : (w.alloc (.cells (dkC d) 31)).heap.size = w.heap.size + 1 := by simp
    rw [z1] at n2
    exact ⟨a, c, rfl, hide hW, hide (hb0.trans (hb.mono hb0.size)), hide ⟨(hb.block _ (by omega)).trans n2, by have := hb.size; omega⟩⟩)
  have hdiv : ((d.m.safe.length : Nat) : Int).tdiv 4 = ((d.m.safe.length / 4 : Nat) : Int) := by rw [Int.tdiv_eq_ediv_of_nonneg (by omega)]; omega
  generalize regW (nowD d.m) first size = ALL at *
  obtain ⟨⟨safe, l, left, fuse, off⟩, sv, lv⟩ := d
  simp only at es el hs hll ho hdef hfit HSEC hdiv
  subst es el ho
  clear hI hok h hb0 hopen
  generalize hk : safe.length = k1 at *
  generalize l.length = k2 at *
  generalize hqq : k1 / 4 = q at *
  obtain ⟨_, g1, g2, g3⟩ := hdef
  have e1 : ¬ (first : Int) < 0 := by omega
  have e2 : ¬ (size : Int) < 1 := by omega
  have e3 : ¬ (q : Int) < size := by omega
  have e4 : ¬ (q : Int) - size < first := by omega
  have hq : (q : Int) ≤ 100000 := by omega
  have e5 : ¬ size = 0 := by omega
  have e6 : ¬ size < 1 := by omega
  have e7 : ¬ q < size := by omega
  have e8 : size ≤ q := by omega
  have e9 : 1 ≤ size := by omega
  have e10 : (first : Int) ≤ (q : Int) - size := by omega
  clear hqq hk g1 g2 g3
  generalize hL : ALL.length = L at *
  subst hlen
  go_enter Try.func12, Try.ntmps12
  go_wp2_with fail
  refine HSEC.out.mono ?_
  rintro e X0 ⟨aa, ac, rfl, HW, HB, HZ⟩
  clear HSEC e1 e2 e3 e4 e5 e6 e7 e8 e10 hdiv hq
  have HAT : Hid (∀ i, i < size * 4 → ∃ ab ao s, aa = some ⟨ab, ao, none⟩ ∧ ALL[i]? = some s ∧ s.length ≤ 1000 ∧ ∀ x, Below X0.heap.size X0 x → x.cell? ⟨ab, ao + i, none⟩ = some (.string ⟨s.toArray⟩)) := hide (fun i hi => by
    obtain ⟨ab, ao, e, hc⟩ := HW.out.at_ i ALL[i] (List.getElem?_eq_getElem (by omega))
    exact ⟨ab, ao, _, e, List.getElem?_eq_getElem (by omega), h64 _ (List.getElem_mem (by omega)), hc⟩)
  have HLF := hide (life_take ALL)
  have HLT := hide (fun i => life_lt (ALL.take i))
  have HB0 := hide (Below.refl X0.heap.size X0)
  go_wp2
  go_loopw [12, 13] (fun vm vi wr => ∃ (i mo : Nat), vi = .int .i64 (i : Int) ∧ i ≤ size * 4 ∧ vm = .int .u64 (mo : Int) ∧ Hid (mo = lifeW (ALL.take i)) ∧ Hid (Below X0.heap.size X0 wr)) (fun _ vi _ => size * 4 - (intOf vi).toNat)
  case atStart => exact ⟨0, 0, rfl, Nat.zero_le _, rfl, hide rfl, HB0⟩
  case round =>
    obtain ⟨i, mo, rfl, hi, rfl, HM, HBW⟩ := hrel
    have hmo : mo < 18446744073709551616 := by rw [HM.out]; exact HLT.out i
    by_cases hil : i < size * 4
    · have hil2 : (i : Int) < (size : Int) * 4 := by omega
      obtain ⟨ab, ao, s, rfl, hs', hs64, hcell⟩ := HAT.out i hil
      have hcw := hcell wr HBW.out
      have hlf := HLF.out i s hs'
      rw [← HM.out] at hlf
      have HL2 := hide hlf
      obtain ⟨c0, W0, hr0, hY0, hb0⟩ := conv_textY wr s (by omega)
      have HDEC := hide (rdecA _ s W0 hY0 (by omega))
      have HB1 := hide hb0
      clear hY0 hb0 hcell hs' hlf
      go_wp2_with fail
      refine HDEC.out.mono ?_
      rintro e w1 ⟨c, ca, ck, E, rfl, HE, HC, HN, b1⟩
      clear HDEC hr0
      have HB2 := hide (HBW.out.trans ((HB1.out.trans (b1.out.mono HB1.out.size)).mono HBW.out.size))
      have HXB := hide (HB2.out.trans ((below_alloc w1 (.cells (clC c (.slice ca c.data.length ck)) 90)).mono HB2.out.size))
      have hHE := HE.out
      have hci := HC.out.li
      rcases hHE with ⟨rfl, hE⟩ | ⟨rfl, hE⟩
      · have HL3 : Hid (mo = lifeW (ALL.take (i + 1))) := hide (by rw [HL2.out, hE])
        clear HL2 hE HE HM HC HN
        generalize c.data.length = cl at *
        go_wp2
        go_round
        case rel => exact ⟨i + 1, mo, by go_num, by omega, rfl, HL3, HXB⟩
        case measure => simp [intOf]; omega
      · by_cases hgt : mo < c.li
        · have hgt2 : (mo : Int) < c.li := by omega
          have HL3 : Hid (c.li = lifeW (ALL.take (i + 1))) := hide (by rw [HL2.out, hE]; exact (Nat.max_eq_right (by omega)).symm)
          clear HL2 hE HE HM HC HN
          generalize c.data.length = cl at *
          go_wp2
          go_round
          case rel => exact ⟨i + 1, c.li, by go_num, by omega, rfl, HL3, HXB⟩
          case measure => simp [intOf]; omega
        · have hgt2 : ¬ (mo : Int) < c.li := by omega
          have HL3 : Hid (mo = lifeW (ALL.take (i + 1))) := hide (by rw [HL2.out, hE]; exact (Nat.max_eq_left (by omega)).symm)
          clear HL2 hE HE HM HC HN
          generalize c.data.length = cl at *
          go_wp2
          go_round
          case rel => exact ⟨i + 1, mo, by go_num, by omega, rfl, HL3, HXB⟩
          case measure => simp [intOf]; omega
    · have hil2 : ¬ (i : Int) < (size : Int) * 4 := by omega
      obtain rfl : i = size * 4 := by omega
      have hmA : mo = lifeW ALL := by rw [HM.out, ← hL, List.take_length]
      have hz : wr.heap[w.heap.size + 1]? = some (.cells (lgC zeroLg) 40 (0, 0)) := (HBW.out.block _ (by have := HZ.out.2; omega)).trans HZ.out.1
      obtain ⟨⟨p0, p1, p2, p3, p4, p5, p6⟩, f0, f1, f2, f3, f4, f5, f6⟩ := lg_cells hz
      simp only at p0 p1 p2 p3 p4 p5 p6
      have HWR := hide (HB.out.trans (HBW.out.mono HB.out.size))
      by_cases hmx : mo = 18446744073709551615
      · have HRR : Hid (R = (none, 8)) := hide (by rw [HR.out, ← hmA, if_pos hmx])
        have HFIN : Hid (∀ v0 v1 v2 v3 v4 v5 v6, OpenR P w R (.returned (.tuple #[lgA zeroLg, .int .i64 8])) (set7 wr (w.heap.size + 1) v0 v1 v2 v3 v4 v5 v6)) := hide (fun v0 v1 v2 v3 v4 v5 v6 => by
          rw [HRR.out]
          exact openR_no (below_set7 (by omega) HWR.out _ _ _ _ _ _ _))
        subst hmx
        clear HM hmA hmo HRR HR HLT HLF HAT hz HZ h64
        go_wp2
        refine bodyPost_ret (v := .tuple #[lgA zeroLg, .int .i64 8]) ?_ rfl (HFIN.out _ _ _ _ _ _ _)
        simp [results, Try.results12, go_sem, p0, p1, p2, p3, p4, p5, p6]
      · have hmx2 : ((mo : Int) == 18446744073709551615) = false := by rw [beq_eq_false_iff_ne]; omega
        have HRR : Hid (R = (some (logW ALL first size ep), 0)) := hide (by rw [HR.out, ← hmA, if_neg hmx])
        have hmw : IntKind.u64.wrap ((mo : Int) + 1) = ((mo + 1 : Nat) : Int) := by
          simp only [IntKind.wrap]
          rw [show IntKind.u64.signed = false from rfl, Bool.false_and, if_neg (by simp)]
          show ((mo : Int) + 1) % 18446744073709551616 = _
          omega
        have HMW : Hid (mo + 1 < 18446744073709551616) := hide (by omega)
        clear hmx hmo
        generalize hM1 : mo + 1 = M1 at *
        have HM1 := hide hM1
        have HO := OpS.start (X0 := wr) ⟨first, size, ep, M1, 0, [], false⟩
        have HREC0 : Hid (Calls Try.prog 44 #[.slice aa (size * 4) ac, .int .i64 0, .int .u64 (ep : Int)] (wr.alloc (.cells (lgC ⟨⟨first, size, ep, M1, 0, [], false⟩, .slice none 0 0⟩) 40)) (RecA (wr.alloc (.cells (lgC ⟨⟨first, size, ep, M1, 0, [], false⟩, .slice none 0 0⟩) 40)) (recL ep (ALL.drop 0)))) := hide (rrecord_any aa (size * 4) ac ALL 0 ep _ (HW.out.below (HBW.out.trans (HO.b.mono HBW.out.size))) hL.symm (by omega) h64 he (by omega))
        clear HR HM HLT HLF HAT hM1
        have HOS := hide HO
        have HMA := hide hmA
        clear HO hmA
        go_wp2_with fail
        refine HREC0.out.mono ?_
        rintro e w1 ⟨b, li, n, ba, bk, rfl, HRC, HYB, HNB, HBB⟩
        have HZ2 := hide (show wr.heap[w.heap.size + 1]? = some (.cells (lgC zeroLg) 40 (0, 0)) ∧ w.heap.size + 1 < wr.heap.size from ⟨hz, by have := (Array.getElem?_eq_some_iff.1 hz).1; exact this⟩)
        have HWX := hide (HW.out.below HBW.out)
        have HS1 := hide (HOS.out.below HBB.out)
        have HNB2 : Hid (∀ j, (Value.slice ba b.length bk).ownBlock = some j → wr.heap.size + 1 ≤ j) := hide (fun j hj => by
          have := (HNB.out j hj).1
          have e : (wr.alloc (.cells (lgC ⟨⟨first, size, ep, M1, 0, [], false⟩, .slice none 0 0⟩) 40)).heap.size = wr.heap.size + 1 := by simp
          omega)
        clear HREC0 HOS HBB HNB hz HZ HW HBW HB p0 p1 p2 p3 p4 p5 p6 f0 f1 f2 f3 f4 f5 f6 hmw HB0
        generalize wr = X1 at *
        generalize hbx : X1.heap.size = bx at *
        have hread0 : readL ep (size * 4) ALL 0 = [] ++ readL ep (size * 4) (ALL.drop 0) 0 := rfl
        have HRD : Hid (∃ k, (ALL.drop 0).length ≤ k ∧ readL ep (size * 4) ALL 0 = [] ++ readL ep k (ALL.drop 0) 0) := hide ⟨size * 4, by rw [List.drop_zero]; omega, hread0⟩
        clear hread0
        go_wp2
        go_loopg [17, 18, 19, 20] (size * 4) (fun g v17 v18 v19 v20 wr => ∃ (rs : List (Bs × Nat × Nat)) (l : List (Bs × Value)) (va : Option Addr) (vc : Nat) (b : Bs) (ba : Option Addr) (bk li n least : Nat), g + sumP rs = size * 4 ∧ v17 = .int .u64 (least : Int) ∧ v18 = .slice ba b.length bk ∧ v19 = .int .u64 (li : Int) ∧ v20 = .int .i64 (n : Int) ∧ Hid (OpS X1 bx ⟨first, size, ep, M1, sumP rs, told rs, false⟩ l (.slice va rs.length vc) wr) ∧ Hid (l.map Prod.fst = told rs) ∧ Hid ((recL ep (ALL.drop (sumP rs)) = none ∧ n = 0) ∨ (recL ep (ALL.drop (sumP rs)) = some (b, li, n) ∧ 0 < n)) ∧ Hid (IsY wr (.slice ba b.length bk) b) ∧ Hid (∀ j, (Value.slice ba b.length bk).ownBlock = some j → bx + 1 ≤ j ∧ (Value.slice va rs.length vc).ownBlock ≠ some j) ∧ Hid (∃ k, (ALL.drop (sumP rs)).length ≤ k ∧ readL ep (size * 4) ALL 0 = rs ++ readL ep k (ALL.drop (sumP rs)) least) ∧ Hid (rs.length ≤ sumP rs))
        case atStart => exact ⟨[], [], none, 0, b, ba, bk, li, n, 0, by show _ + 0 = _; omega, rfl, rfl, rfl, rfl, HS1, hide rfl, HRC, HYB, hide (fun j hj => ⟨HNB2.out j hj, fun e => by cases e⟩), HRD, hide (Nat.le_refl _)⟩
        case round =>
          obtain ⟨rs, l, va, vc, b, ba, bk, li, n, least, hg, rfl, rfl, rfl, rfl, HS, HML, HRES, HY, HNO, HRD, HRL⟩ := hrel
          have hRES := HRES.out
          have hexit : readL ep (size * 4) ALL 0 = rs → OpenR P w R (.returned (.tuple #[lgA ⟨⟨first, size, ep, M1, sumP rs, told rs, false⟩, .slice va rs.length vc⟩, .int .i64 0])) (set7 wr (w.heap.size + 1) (.int .i64 (first : Int)) (.int .i64 (size : Int)) (.int .u64 (ep : Int)) (.int .u64 (M1 : Int)) (.int .i64 (sumP rs : Int)) (.slice va rs.length vc) (.bool false)) := by
            intro hrd
            have hlt := HS.out.lt
            have hz2 := HZ2.out.2
            have ho := set7_other wr (w.heap.size + 1) (.int .i64 (first : Int)) (.int .i64 (size : Int)) (.int .u64 (ep : Int)) (.int .u64 (M1 : Int)) (.int .i64 (sumP rs : Int)) (.slice va rs.length vc) (.bool false)
            have hk := HS.out.s.keep (W := set7 wr (w.heap.size + 1) (.int .i64 (first : Int)) (.int .i64 (size : Int)) (.int .u64 (ep : Int)) (.int .u64 (M1 : Int)) (.int .i64 (sumP rs : Int)) (.slice va rs.length vc) (.bool false)) (by rw [set7_size]; exact Nat.le_refl _) (fun k hk _ => ho k (by omega))
            refine ⟨⟨⟨first, size, ep, M1, sumP rs, told rs, false⟩, .slice va rs.length vc⟩, ?_, ?_, ?_, below_set7 (by omega) (HWR.out.trans (HS.out.b.mono HWR.out.size)) _ _ _ _ _ _ _⟩
            · rw [HRR.out]
            · rw [HRR.out]
              show _ = logW ALL first size ep
              unfold logW
              rw [hL, hrd, ← HMA.out, HM1.out]
            · have := (hk.isRs (fun k hk => by have h8 := HS.out.lt.1; omega)).mono (Q := P) (fun k hk _ => HPP.out k (Nat.le_trans HWR.out.size hk))
              rw [HML.out] at this
              exact this
          have HEX := hide hexit
          clear hexit
          have hz3 : wr.heap[w.heap.size + 1]? = some (.cells (lgC zeroLg) 40 (0, 0)) := (HS.out.b.block _ (by have := HZ2.out.2; omega)).trans HZ2.out.1
          obtain ⟨⟨p0, p1, p2, p3, p4, p5, p6⟩, f0, f1, f2, f3, f4, f5, f6⟩ := lg_cells hz3
          simp only at p0 p1 p2 p3 p4 p5 p6
          obtain ⟨⟨x0, x1, x2, x3, x4, x5, x6⟩, t0, t1, t2, t3, t4, t5, t6⟩ := lg_cells HS.out.box
          simp only at x0 x1 x2 x3 x4 x5 x6
          clear hz3
          rcases hRES with ⟨hnone, rfl⟩ | ⟨hsome, hn⟩
          · have HRQ : Hid (readL ep (size * 4) ALL 0 = rs) := hide (by
              obtain ⟨k, hk, hq⟩ := HRD.out
              rw [hq, (read_step hk).1 hnone, List.append_nil])
            have HFIN := hide (HEX.out HRQ.out)
            clear HEX HRQ hnone HRES HRD HY HNO HS HML HRL
            generalize rs.length = rl at *
            generalize sumP rs = sp at *
            generalize b.length = bl at *
            go_wp2
            refine bodyPost_ret (v := .tuple #[lgA ⟨⟨first, size, ep, M1, sp, told rs, false⟩, .slice va rl vc⟩, .int .i64 0]) ?_ rfl HFIN.out
            simp [results, Try.results12, go_sem, p0, p1, p2, p3, p4, p5, p6]
          · have hn2 : (0 : Int) < n := by omega
            by_cases hle : least ≤ li
            · have hle2 : (least : Int) ≤ li := by omega
              have hll : l.length = rs.length := by
                have := congrArg List.length HML.out
                rw [List.length_map, told_len] at this
                exact this
              have hnl := (rec_some hsome).2.2.2.2.2.1
              rw [List.length_drop, hL] at hnl
              have hrl := HRL.out
              obtain ⟨a', c', w', hr', ho5, hf5, ho4, hf4, hS'⟩ := HS.out.step HY.out HNO.out (by omega) (sumP rs + n)
              rw [hll] at hr' hS'
              have hcast : ((sumP rs + n : Nat) : Int) = (sumP rs : Int) + n := by omega
              have hs1 : sumP (rs ++ [(b, li, n)]) = sumP rs + n := by rw [sum_app]; rfl
              have hs2 : told (rs ++ [(b, li, n)]) = told rs ++ [b] := by rw [told_app]; rfl
              have hs3 : (rs ++ [(b, li, n)]).length = rs.length + 1 := by rw [List.length_append]; rfl
              have HS' : Hid (OpS X1 bx ⟨first, size, ep, M1, sumP (rs ++ [(b, li, n)]), told (rs ++ [(b, li, n)]), false⟩ (l ++ [(b, .slice ba b.length bk)]) (.slice a' (rs ++ [(b, li, n)]).length c') ((w'.setCell ⟨bx, 5, none⟩ (.slice a' (rs.length + 1) c')).setCell ⟨bx, 4, none⟩ (.int .i64 ((sumP rs : Int) + n)))) := hide (by
                rw [hs1, hs2, hs3, ← hcast]
                exact hS')
              have HML' : Hid ((l ++ [(b, Value.slice ba b.length bk)]).map Prod.fst = told (rs ++ [(b, li, n)])) := hide (by rw [List.map_append, HML.out, hs2]; rfl)
              have HRD' : Hid (∃ k, (ALL.drop (sumP (rs ++ [(b, li, n)]))).length ≤ k ∧ readL ep (size * 4) ALL 0 = (rs ++ [(b, li, n)]) ++ readL ep k (ALL.drop (sumP (rs ++ [(b, li, n)]))) li) := hide (by
                obtain ⟨k, hk, hq⟩ := HRD.out
                obtain ⟨q1, q2⟩ := ((read_step hk).2 b li n hsome).1 hle
                refine ⟨k - 1, ?_, ?_⟩
                · rw [hs1, ← List.drop_drop]; exact q2
                · rw [hq, q1, hs1, ← List.drop_drop, List.append_assoc]; rfl)
              have HRL' : Hid ((rs ++ [(b, li, n)]).length ≤ sumP (rs ++ [(b, li, n)])) := hide (by omega)
              have hgg : (gk - n) + sumP (rs ++ [(b, li, n)]) = size * 4 := by omega
              have hgl : gk - n < gk := by omega
              have hsn : (sumP rs : Int) + n ≤ 1000 := by omega
              have HRECN : Hid (Calls Try.prog 44 #[.slice aa (size * 4) ac, .int .i64 ((sumP rs : Int) + n), .int .u64 (ep : Int)] ((w'.setCell ⟨bx, 5, none⟩ (.slice a' (rs.length + 1) c')).setCell ⟨bx, 4, none⟩ (.int .i64 ((sumP rs : Int) + n))) (RecA ((w'.setCell ⟨bx, 5, none⟩ (.slice a' (rs.length + 1) c')).setCell ⟨bx, 4, none⟩ (.int .i64 ((sumP rs : Int) + n))) (recL ep (ALL.drop (sumP (rs ++ [(b, li, n)])))))) := hide (by
                rw [hs1, ← hcast]
                exact rrecord_any aa (size * 4) ac ALL (sumP rs + n) ep _ (HWX.out.below (by rw [hbx]; have := HS'.out.b; rw [hbx] at this; rw [hcast]; exact this)) hL.symm (by omega) h64 he (by omega))
              obtain ⟨o5, ho5⟩ := ho5
              have h4 := ho4 (.slice a' (rs.length + 1) c')
              have hx4 : ((w'.setCell ⟨bx, 5, none⟩ (.slice a' (rs.length + 1) c')).setCell ⟨bx, 4, none⟩ (.int .i64 ((sumP rs : Int) + n))).cell? ⟨bx, 4, none⟩ = some (.int .i64 ((sumP rs : Int) + n)) := by
                have := (lg_cells HS'.out.box).1.2.2.2.2.1
                simp only [hs1, hcast] at this
                exact this
              have HR1 := hide hr'
              clear HEX hsome HRES HRD HY HNO HS HML HRL hle hll hr' hS' hs1 hs2 hcast ho4 hnl hrl p0 p1 p2 p3 p4 p5 p6 f0 f1 f2 f3 f4 f5 f6
              rw [hs3] at HS'
              generalize hRS : rs ++ [(b, li, n)] = rs' at *
              clear hRS
              generalize rs.length = rl at *
              generalize sumP rs = sp at *
              generalize b.length = bl at *
              clear HZ2 HWR HNB2 HRC HYB HRR HMA HM1 hL h64 HWX t0 t1 t2 t3 t6
              go_wp2_with (first | (at_builtin; refine wpList_append_run rfl _ _ 38 rfl _ _ _ _ rfl rfl HR1.out ?_) | fail)
              refine HRECN.out.mono ?_
              rintro e w9 ⟨b9, li9, n9, ba9, bk9, rfl, HRC9, HYB9, HNB9, HBB9⟩
              have HS9 := hide (HS'.out.below HBB9.out)
              have HNO9 : Hid (∀ j, (Value.slice ba9 b9.length bk9).ownBlock = some j → bx + 1 ≤ j ∧ (Value.slice a' (rl + 1) c').ownBlock ≠ some j) := hide (fun j hj => by
                have q1 := (HNB9.out j hj).1
                have q2 := HS'.out.lt.2
                exact ⟨by omega, fun e => by have := (HS'.out.s.o.lt j e).2; omega⟩)
              clear HRECN HR1 HS' HBB9 HNB9
              rw [← hs3] at HS9 HNO9
              go_wp2
              go_roundg (gk - n)
              case rel => exact ⟨rs', l ++ [(b, Value.slice ba bl bk)], a', c', b9, ba9, bk9, li9, n9, li, hgg, rfl, rfl, rfl, rfl, HS9, HML', HRC9, HYB9, HNO9, HRD', HRL'⟩
              case measure => exact hgl
            · have hle2 : ¬ (least : Int) ≤ li := by omega
              have HRQ : Hid (readL ep (size * 4) ALL 0 = rs) := hide (by
                obtain ⟨k, hk, hq⟩ := HRD.out
                rw [hq, ((read_step hk).2 b li n hsome).2 hle, List.append_nil])
              have HFIN := hide (HEX.out HRQ.out)
              clear HEX HRQ hsome HRES HRD HY HNO HS HML HRL hle
              generalize rs.length = rl at *
              generalize sumP rs = sp at *
              generalize b.length = bl at *
              go_wp2
              refine bodyPost_ret (v := .tuple #[lgA ⟨⟨first, size, ep, M1, sp, told rs, false⟩, .slice va rl vc⟩, .int .i64 0]) ?_ rfl HFIN.out
              simp [results, Try.results12, go_sem, p0, p1, p2, p3, p4, p5, p6]
theorem ropen_any (P : Nat → Prop) (d : DV) (first size : Int) (ep : Nat) (w : World) (hI : IsD w d) (hok : OkD d.m) (hs : d.m.safe.length ≤ 800) (hll : d.m.l.length ≤ 100000) (h1 : -9223372036854775808 ≤ first ∧ first ≤ 9223372036854775807) (h2 : -9223372036854775808 ≤ size ∧ size ≤ 9223372036854775807) (hP : ∀ k, w.heap.size ≤ k → P k) (he : ep < 18446744073709551616) :
    Calls Try.prog 12 #[dkA d, .int .i64 first, .int .i64 size, .int .u64 (ep : Int)] w (OpenR P w (openW d.m first size ep)) := by
  by_cases h : isReg d.m first size = false ∨ d.m.off = true
  · exact ropen_bad P d first size ep w hI (by omega) h1 h2 h
  · have hr : isReg d.m first size = true := by
      cases hc : isReg d.m first size
      · exact absurd (.inl hc) h
      · rfl
    have ho : d.m.off = false := by
      cases hc : d.m.off
      · rfl
      · exact absurd (.inr hc) h
    have hdef := hr
    unfold isReg at hdef
    rw [Bool.and_eq_true, Bool.and_eq_true, Bool.and_eq_true, decide_eq_true_eq, decide_eq_true_eq, decide_eq_true_eq, decide_eq_true_eq] at hdef
    obtain ⟨f, rfl⟩ : ∃ f : Nat, first = (f : Int) := ⟨first.toNat, by omega⟩
    obtain ⟨z, rfl⟩ : ∃ z : Nat, size = (z : Int) := ⟨size.toNat, by omega⟩
    exact ropen_go P d f z ep w hI hok (by omega) hll hP he hr ho (by omega)
end Go.Proofs.Ythpepkfodcgbcaa
