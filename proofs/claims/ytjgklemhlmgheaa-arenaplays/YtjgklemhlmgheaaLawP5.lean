/- ArenaPlays's walk. -/
import Derived.Test.YtjgklemhlmgheaaRowS5
import Derived.Test.YtjgklemhlmgheaaPQ5
import Derived.Test.YtjgklemhlmgheaaWalkH5
import Derived.Test.YtjgklemhlmgheaaDoL5
import Derived.Test.YtjgklemhlmgheaaPl5
import Derived.BigQuiet
import Derived.Deep.QuietTactic
import Derived.Deep.RegionHeld2
set_option linter.unusedVariables false
set_option linter.unusedSimpArgs false
namespace Go.Proofs.Ytjgklemhlmgheaa
open Go.RowKit

set_option maxRecDepth 10000 in
set_option maxHeartbeats 8000000 in
theorem plays_walk (v : Value) (xs : List AV) (n : Int) (w : World) (hS : IsS w v xs) : Calls Try.prog 3 #[v, .int .i64 n] w fun e w' => e = .returned (.bool true) ∧ Below w.heap.size w w' := by
  have HS := hide hS
  obtain ⟨a0, c0, rfl⟩ := isS_form hS
  clear hS
  have HNW := hide (liv_new w)
  go_enter Try.func3, Try.ntmps3
  go_wp2_with fail
  refine HNW.out.mono ?_
  rintro e x0 ⟨pb, rfl, hL⟩
  have HL := hide hL
  clear hL HNW
  have HN := hide (new_any x0)
  go_wp2_with fail
  refine HN.out.mono ?_
  rintro e x1 ⟨⟨rv, hT, ⟨ra, rm, rc, rfl⟩, rfl⟩, b1⟩
  have HP0 := hide (Pl.start (both_new HL.out b1 hT))
  clear hT b1
  go_wp2_with fail
  generalize (x1.alloc (.cells #[.slice ra rm rc] 27)) = X at *
  generalize x1.heap.size = q at *
  go_loopw [7, 8, 9, 10, 11, 12] (fun vi v8 v9 v10 v11 v12 wr => ∃ (i : Nat) (T : TR) (ta : Option Addr) (tc : Nat), vi = .int .i64 (i : Int) ∧ i ≤ 40 ∧ i ≤ xs.length ∧ Hid (Good i T ∧ Pl q w pb wr (.slice ta T.length tc) T)) (fun vi _ _ _ _ _ _ => xs.length - (intOf vi).toNat)
  case atStart =>
    obtain ⟨fa, fc, hf⟩ := HP0.out.bk.form
    rw [hf] at HP0
    exact ⟨0, newL, fa, fc, rfl, by omega, by omega, hide ⟨good_new, HP0.out⟩⟩
  case round =>
    clear HP0
    obtain ⟨i, T, ta, tc, rfl, hi40, hil, HG⟩ := hrel
    by_cases hlt : i < xs.length ∧ i < 40
    · have hlt2 : (i : Int) < xs.length := by omega
      have h402 : (i : Int) < 40 := by omega
      obtain ⟨sb, so, rfl, hcs, hV⟩ := HS.out.get i hlt.1
      have hcs2 := act_cells hcs HG.out.2.bk.bel
      obtain ⟨va, vc, hvf⟩ := isV_form hV
      generalize xs[i] = x at *
      obtain ⟨k, a, b2, sp, s, aa, av⟩ := x
      simp only at hvf hcs2
      subst hvf
      obtain ⟨y0, y1, y2, y3, y4, y5⟩ := hcs2
      have HSM : Hid (∀ W, Calls Try.prog 11 #[.agg #[.int .i64 k, .int .i64 a, .int .i64 b2, .int .i64 sp, .string s, .slice va aa.length vc]] W fun e w' => e = .returned (.bool (smallB ⟨k, a, b2, sp, s, aa, .slice va aa.length vc⟩)) ∧ Below W.heap.size W w') := hide fun W => small_p ⟨k, a, b2, sp, s, aa, .slice va aa.length vc⟩ ⟨va, vc, rfl⟩ W
      cases hsm : smallB ⟨k, a, b2, sp, s, aa, .slice va aa.length vc⟩ with
      | false =>
        rw [hsm] at HSM
        have HUP := hide HG.out.1.up
        clear hcs hV
        go_wp2_with fail
        refine (HSM.out _).mono ?_
        rintro e x1 ⟨rfl, b1⟩
        have HL := hide (HG.out.2.on b1)
        clear b1 y0 y1 y2 y3 y4 y5
        go_wp2
        go_roundw
        case rel => exact ⟨i + 1, T, ta, tc, by go_num, by omega, by omega, hide ⟨HUP.out, HL.out⟩⟩
        case measure => simp [intOf]; omega
      | true =>
        rw [hsm] at HSM
        have HUP := hide (good_act HG.out.1 ⟨k, a, b2, sp, s, aa, .slice va aa.length vc⟩ hsm)
        have HDO : Hid (∀ rr ob W, BothK rr ob w.heap.size w W pb (.slice ta T.length tc) T T → Calls Try.prog 12 #[.pointer (some ⟨pb, 0, none⟩), .agg #[.slice ta T.length tc], .agg #[.int .i64 k, .int .i64 a, .int .i64 b2, .int .i64 sp, .string s, .slice va aa.length vc]] W fun e w' => ∃ rv', e = .returned (.tuple #[.agg #[rv'], .bool true]) ∧ BothK rr ob w.heap.size w w' pb rv' (actP T ⟨k, a, b2, sp, s, aa, .slice va aa.length vc⟩).1 (actP T ⟨k, a, b2, sp, s, aa, .slice va aa.length vc⟩).1 ∧ ∃ a m c, rv' = .slice a m c) := hide fun rr ob W hb => by
          have h := KK.do_p rfl ⟨k, a, b2, sp, s, aa, .slice va aa.length vc⟩ (good_fit HG.out.1 HG.out.1 hi40 hi40 _ hsm) hV hb
          rw [act_same HG.out.1, show okB T T ⟨k, a, b2, sp, s, aa, .slice va aa.length vc⟩ = true by unfold okB; rw [act_same HG.out.1]; simp] at h
          exact h
        have HSS : Hid (∀ W', Below w.heap.size w W' → Kept W' q [.slice ta T.length tc] → (W'.cell? ⟨q, 0, none⟩ = some (.slice ta T.length tc) ∧ W'.cell? ⟨sb, so + i * 6, none⟩ = some (.int .i64 k) ∧ W'.cell? ⟨sb, so + i * 6 + 1, none⟩ = some (.int .i64 a) ∧ W'.cell? ⟨sb, so + i * 6 + 2, none⟩ = some (.int .i64 b2) ∧ W'.cell? ⟨sb, so + i * 6 + 3, none⟩ = some (.int .i64 sp) ∧ W'.cell? ⟨sb, so + i * 6 + 4, none⟩ = some (.string s) ∧ W'.cell? ⟨sb, so + i * 6 + 5, none⟩ = some (.slice va aa.length vc))) := hide fun W' hb hk => by
          obtain ⟨z0, z1, z2, z3, z4, z5⟩ := act_cells hcs hb
          exact ⟨hk.1 0, z0, z1, z2, z3, z4, z5⟩
        clear hcs hV
        go_wp2_with fail
        refine (HSM.out _).mono ?_
        rintro e x1 ⟨rfl, b1⟩
        have HP1 := hide (HG.out.2.on (b1.trans (Below.refl x1.heap.size x1 |>.drew |>.mono (b1.size))))
        have HP2 := hide (HP1.out.bk.more (.cells #[.slice none 0 0] 27))
        have HK2 := hide (HP1.out.kp.alloc (.cells #[.slice none 0 0] 27))
        have HW1 := hide (HSS.out _ HP1.out.bk.bel HP1.out.kp)
        have HW2 := hide (HSS.out _ HP2.out.bel HK2.out)
        have hqx : x1.heap.size ≠ q := by have h := HP1.out.bk.lt q rfl; have h2 : x1.drew.heap.size = x1.heap.size := rfl; omega
        have hwx : w.heap.size ≤ x1.heap.size := HP1.out.bk.hn
        clear b1 y0 y1 y2 y3 y4 y5
        generalize (actP T ⟨k, a, b2, sp, s, aa, .slice va aa.length vc⟩).1 = T2 at *
        go_wp2_with fail
        go_region_held2 (fun W' => W'.cell? ⟨q, 0, none⟩ = some (.slice ta T.length tc) ∧ W'.cell? ⟨sb, so + i * 6, none⟩ = some (.int .i64 k) ∧ W'.cell? ⟨sb, so + i * 6 + 1, none⟩ = some (.int .i64 a) ∧ W'.cell? ⟨sb, so + i * 6 + 2, none⟩ = some (.int .i64 b2) ∧ W'.cell? ⟨sb, so + i * 6 + 3, none⟩ = some (.int .i64 sp) ∧ W'.cell? ⟨sb, so + i * 6 + 4, none⟩ = some (.string s) ∧ W'.cell? ⟨sb, so + i * 6 + 5, none⟩ = some (.slice va aa.length vc)) (first | with_reducible exact HW1.out | with_reducible exact HW2.out | with_reducible exact HW3.out | with_reducible exact HW4.out | with_reducible exact HW5.out | exact HW2.out) (first | (go_at_call 12; refine (HDO.out _ _ _ HP1.out.bk).mono ?_; rintro e u1 ⟨rv', rfl, hbo, ⟨qa, qm, qc, rfl⟩⟩; have HKQ := hide (HP1.out.kp.keep (hbo.ho q rfl)); have HW3 := hide (HSS.out _ hbo.bel HKQ.out); have HW4 := hide (HSS.out _ (hbo.more (.cells #[.slice none 0 0] 27)).bel (HKQ.out.alloc (.cells #[.slice none 0 0] 27))); have HNX := hide (Nx.late hbo HKQ.out HP1.out.hq); have HW5 := hide (HSS.out _ HNX.out.bk.bel HNX.out.kq); clear hbo) | (go_at_call 12; refine (HDO.out _ _ _ HP2.out).mono ?_; rintro e u1 ⟨rv', rfl, hbo, ⟨qa, qm, qc, rfl⟩⟩; have HKQ := hide (HK2.out.keep (hbo.ho q (.inl rfl))); have HKN := hide ((Kept.new x1.drew [.slice none 0 0] 27).keep (hbo.ho x1.drew.heap.size (.inr rfl))); have z0 : u1.cell? ⟨x1.heap.size, 0, none⟩ = some (.slice none 0 0) := HKN.out.1 0; have zf : u1.frozen? ⟨x1.heap.size, 0, none⟩ = false := HKN.out.2 0; have HW3 := hide (HSS.out _ hbo.bel HKQ.out); have HNX : Hid (Nx q x1.heap.size w pb (u1.setCell ⟨x1.heap.size, 0, none⟩ (.slice qa qm qc)) (.slice ta T.length tc) (.slice qa qm qc) T2) := hide (Nx.early hbo HKQ.out HKN.out HP1.out.hq hwx hqx); have HW5 := hide (HSS.out _ HNX.out.bk.bel HNX.out.kq); clear hbo))
        · generalize (u1.alloc (.cells #[.slice qa qm qc] 27)) = Y at *
          generalize u1.heap.size = nq at *
          have j1 : Y.cell? ⟨q, 0, none⟩ = some (.slice ta T.length tc) := HNX.out.kq.1 0
          have jf : Y.frozen? ⟨q, 0, none⟩ = false := HNX.out.kq.2 0
          have jn : Y.cell? ⟨nq, 0, none⟩ = some (.slice qa qm qc) := HNX.out.kn.1 0
          have HPL := hide HNX.out.set
          obtain ⟨fa, fc, hf⟩ := HPL.out.bk.form
          injection hf with e1 e2 e3
          subst e1 e2 e3
          clear HNX HG HDO HSS HSM
          have htl : T2.length ≤ 41 := by have := HUP.out.ll; omega
          have HWF := hide HUP.out.wf
          have HAT := hide (fun i => (by have := (HUP.out.at6 i).1; omega : (nodeAt T2 i).attrs.length ≤ 1000000))
          go_wp2_with fail
          clear j1 jf jn
          generalize (Y.setCell ⟨q, 0, none⟩ (.slice qa T2.length qc)) = Z at *
          have HPD := hide (HPL.out.on (Below.refl Z.heap.size Z |>.drew))
          have HSQ : Hid (∀ W', Pl q w pb W' (.slice qa T2.length qc) T2 → W'.cell? ⟨q, 0, none⟩ = some (.slice qa T2.length qc)) := hide fun W' h => h.kp.1 0
          have HLE := hide (fun W (h : Pl q w pb W (.slice qa T2.length qc) T2) => len_q h.bk.both.liv.own)
          have HVA := hide (fun W (h : Pl q w pb W (.slice qa T2.length qc) T2) z => valueZ_p HWF.out (by omega) HAT.out pb z h.bk.both.liv.own)
          have HVD := hide (fun W (h : Pl q w pb W (.slice qa T2.length qc) T2) z => dvalueZ_p HWF.out (by omega) HAT.out (.slice qa T2.length qc) z W h.bk.isT)
          have HSA := hide (fun z va vb W (ha : IsN (fun k => k < W.heap.size) W (valueZ T2 z) va) (hb : IsN (fun k => k < W.heap.size) W (valueZ T2 z) vb) => same_any _ (okT_valueZ HWF.out (by omega) HAT.out z) (fun k => k < W.heap.size) va vb W (fun k hk => hk) ha hb)
          go_region_held2 (fun W' => W'.cell? ⟨q, 0, none⟩ = some (.slice qa T2.length qc)) (first | with_reducible exact HSQ.out _ HPD.out | with_reducible exact HSQ.out _ HP2.out | with_reducible exact HSQ.out _ HP3.out | with_reducible exact HSQ.out _ HP4.out) (first | (go_at_call 13; refine (HLE.out _ HPD.out).mono ?_; rintro e z1 ⟨rfl, rfl⟩) | (go_at_call 15; refine (HVA.out _ HPD.out n).mono ?_; rintro e z2 ⟨⟨va2, rfl, hN⟩, b2⟩; obtain ⟨g1, g2, g3, g4, g5, g6, g7, g8, g9, g10, rfl⟩ := hN.form; have HNA := hide (isN_low hN); have HP2 := hide (HPD.out.on b2); clear b2 hN) | (go_at_call 16; refine (HVD.out _ HP2.out n).mono ?_; rintro e z3 ⟨⟨vb2, rfl, hN⟩, b3⟩; obtain ⟨h1, h2, h3, h4, h5, h6, h7, h8, h9, h10, rfl⟩ := hN.form; have HSC := hide (HSA.out _ _ _ _ (isN_next HNA.out b3) (isN_low hN)); have HP3 := hide (HP2.out.on b3); clear b3 hN) | (go_at_call 14; refine HSC.out.mono ?_; rintro e z4 ⟨rfl, b4⟩; have HP4 := hide (HP3.out.on b4); clear b4))
          go_wp2_with fail
          go_loopw [10, 11, 12] (fun v10 v11 v12 wr => ∃ kk : Int, v10 = .int .i64 kk ∧ -1 ≤ kk ∧ kk ≤ T2.length + 1 ∧ Hid (Pl q w pb wr (.slice qa T2.length qc) T2)) (fun v10 _ _ _ => ((T2.length : Int) + 1 - intOf v10).toNat)
          case atStart => exact ⟨-1, rfl, by omega, by omega, HP4⟩
          case round =>
            clear HP4 HP3 HP2 HPD HNA HSC HPL HVA HVD HSA
            obtain ⟨kk, rfl, hk1, hk2, HQ⟩ := hrel
            generalize wr = wr2 at *
            have cq : wr2.cell? ⟨q, 0, none⟩ = some (.slice qa T2.length qc) := HQ.out.kp.1 0
            by_cases hkt : kk ≤ T2.length
            · have HKI := hide (kids_p HWF.out (by omega) kk HQ.out.bk.both.liv.own)
              have hkl : (kidsZ T2 kk).length ≤ 41 := by
                unfold kidsZ
                split
                · have := HWF.out.kids_len kk.toNat; omega
                · simp
              have HPQ := hide (fun W (h : Pl q w pb W (.slice qa T2.length qc) T2) => parent_q HWF.out (by omega) kk h.bk.both.liv.own)
              have HPP := hide (fun W (h : Pl q w pb W (.slice qa T2.length qc) T2) => parent_any (.slice qa T2.length qc) T2 kk (by omega) (fun i h => by rw [← kidsAt_get h]; have := HWF.out.kids_len i; omega) W h.bk.isT)
              have HKD := hide (fun W (h : Pl q w pb W (.slice qa T2.length qc) T2) => kids_any (.slice qa T2.length qc) T2 kk W h.bk.isT)
              have HIN := hide (fun va vb W (ha : IsI W va (kidsZ T2 kk)) (hb : IsI W vb (kidsZ T2 kk)) => ints_any va vb _ _ (by omega) (by omega) W ha hb)
              simp only [beq_self_eq_true] at HIN
              generalize parentZ T2 kk = P at *
              generalize kidsZ T2 kk = ks at *
              go_wp2_with fail
              refine HKI.out.mono ?_
              rintro e w2 ⟨⟨v', rfl, ho⟩, b2⟩
              obtain ⟨ka, kc, rfl⟩ := owns_form ho
              have HB2 := hide b2
              have HO2 := hide ho
              have HPE := hide ((HQ.out.on b2).on (Below.refl w2.heap.size w2 |>.drew))
              have HBE := hide (b2.trans ((Below.refl w2.heap.size w2 |>.drew).mono b2.size))
              have HIE := hide ((owns_isI ho).below (Below.refl w2.heap.size w2 |>.drew))
              have HOE := hide (owns_below ho (Below.refl w2.heap.size w2 |>.drew))
              clear ho b2
              go_wp2_with fail
              go_region_held2 (fun W' => W'.cell? ⟨q, 0, none⟩ = some (.slice qa T2.length qc)) (first | with_reducible exact HSQ.out _ HPE.out | with_reducible exact HSQ.out _ HPF.out | with_reducible exact HSQ.out _ HPG.out | with_reducible exact HSQ.out _ HPH.out) (first | (go_at_call 18; refine (HPQ.out _ HPE.out).mono ?_; rintro e z5 ⟨rfl, rfl⟩) | (go_at_call 19; refine (HPP.out _ HPE.out).mono ?_; rintro e z6 ⟨rfl, b6⟩; have HPF := hide (HPE.out.on b6); have HIF := hide (HIE.out.below b6); have HOF := hide (owns_below HOE.out b6); have HBF := hide (HBE.out.trans (b6.mono HBE.out.size)); clear b6) | (go_at_call 21; refine (HKD.out _ HPF.out).mono ?_; rintro e z7 ⟨⟨kv, hI, rfl⟩, b7⟩; obtain ⟨la, lc, rfl⟩ := isI_form hI; have HIS := hide (HIN.out _ _ _ (HIF.out.below b7) hI); have HPG := hide (HPF.out.on b7); have HOG := hide (owns_below HOF.out b7); have HBG := hide (HBF.out.trans (b7.mono HBF.out.size)); clear b7 hI) | (go_at_call 20; refine HIS.out.mono ?_; rintro e z8 ⟨rfl, b8⟩; have HPH := hide (HPG.out.on b8); have HOH := hide (owns_below HOG.out b8); have HBH := hide (HBG.out.trans (b8.mono HBG.out.size)); clear b8))
              all_goals
                go_wp2_with fail
                go_loopw [12] (fun v12 wr3 => ∃ j : Nat, v12 = .int .i64 (j : Int) ∧ j ≤ ks.length ∧ Hid (Below wr2.heap.size wr2 wr3 ∧ ∃ xs', wr3.ownsRow wr2.heap.size 3 1 (.slice ka ks.length kc) ks.length xs')) (fun v12 _ => ks.length - (intOf v12).toNat)
                case atStart => exact ⟨0, rfl, by omega, hide ⟨HBH.out, _, HOH.out⟩⟩
                case round =>
                  obtain ⟨j, rfl, hj, HX⟩ := hrel
                  generalize wr = wr3 at *
                  by_cases hjl : j < ks.length
                  · have hjl2 : (j : Int) < ks.length := by omega
                    obtain ⟨hxb, xs', hx⟩ := HX.out
                    rcases hx.2 with ⟨_, h0⟩ | ⟨g, cc, cur, hv, hg, _⟩
                    · omega
                    injection hv with e1 _ e3
                    subst e1 e3
                    have hcl : ∃ u, wr3.cell? ⟨g, j, none⟩ = some u := by
                      have hl2 : xs'.length = ks.length * 1 := hx.1
                      exact ⟨xs'[j]'(by omega), by rw [hx.cellAt j (by omega), List.getElem?_eq_getElem (by omega)]⟩
                    obtain ⟨u, hcu⟩ := hcl
                    have hfu := hx.frozenAt j
                    have HDN : Hid (Below wr2.heap.size wr2 (wr3.setCell ⟨g, j, none⟩ (.int .i64 (-7 - (j : Int)))) ∧ ∃ xs', (wr3.setCell ⟨g, j, none⟩ (.int .i64 (-7 - (j : Int)))).ownsRow wr2.heap.size 3 1 (.slice (some ⟨g, 0, none⟩) ks.length kc) ks.length xs') := hide ⟨hxb.setCell (p := ⟨g, j, none⟩) hg _, _, (hx.stored j _).1⟩
                    clear hx HX hxb
                    go_wp2
                    go_roundw
                    case rel => exact ⟨j + 1, by go_num, by omega, HDN⟩
                    case measure => simp [intOf]; omega
                  · have hjl2 : ¬ (j : Int) < ks.length := by omega
                    have HPN := hide (HQ.out.on HX.out.1)
                    clear HX
                    go_wp2
                    go_roundw
                    case rel => exact ⟨kk + 1, by go_num, by omega, by omega, HPN⟩
                    case measure => simp [intOf]; omega
            · go_wp2
              go_roundw
              case rel => exact ⟨i + 1, T2, qa, qc, by go_num, by omega, by omega, hide ⟨HUP.out, HQ.out⟩⟩
              case measure => simp [intOf]; omega
        · clear HKN z0 zf
          generalize (u1.setCell ⟨x1.heap.size, 0, none⟩ (.slice qa qm qc)) = Y at *
          clear HP1 HP2 HK2 HW1 HW2 HW3 HW5 HKQ hqx hwx
          generalize x1.heap.size = nq at *
          have j1 : Y.cell? ⟨q, 0, none⟩ = some (.slice ta T.length tc) := HNX.out.kq.1 0
          have jf : Y.frozen? ⟨q, 0, none⟩ = false := HNX.out.kq.2 0
          have jn : Y.cell? ⟨nq, 0, none⟩ = some (.slice qa qm qc) := HNX.out.kn.1 0
          have HPL := hide HNX.out.set
          obtain ⟨fa, fc, hf⟩ := HPL.out.bk.form
          injection hf with e1 e2 e3
          subst e1 e2 e3
          clear HNX HG HDO HSS HSM
          have htl : T2.length ≤ 41 := by have := HUP.out.ll; omega
          have HWF := hide HUP.out.wf
          have HAT := hide (fun i => (by have := (HUP.out.at6 i).1; omega : (nodeAt T2 i).attrs.length ≤ 1000000))
          go_wp2_with fail
          clear j1 jf jn
          generalize (Y.setCell ⟨q, 0, none⟩ (.slice qa T2.length qc)) = Z at *
          have HPD := hide (HPL.out.on (Below.refl Z.heap.size Z |>.drew))
          have HSQ : Hid (∀ W', Pl q w pb W' (.slice qa T2.length qc) T2 → W'.cell? ⟨q, 0, none⟩ = some (.slice qa T2.length qc)) := hide fun W' h => h.kp.1 0
          have HLE := hide (fun W (h : Pl q w pb W (.slice qa T2.length qc) T2) => len_q h.bk.both.liv.own)
          have HVA := hide (fun W (h : Pl q w pb W (.slice qa T2.length qc) T2) z => valueZ_p HWF.out (by omega) HAT.out pb z h.bk.both.liv.own)
          have HVD := hide (fun W (h : Pl q w pb W (.slice qa T2.length qc) T2) z => dvalueZ_p HWF.out (by omega) HAT.out (.slice qa T2.length qc) z W h.bk.isT)
          have HSA := hide (fun z va vb W (ha : IsN (fun k => k < W.heap.size) W (valueZ T2 z) va) (hb : IsN (fun k => k < W.heap.size) W (valueZ T2 z) vb) => same_any _ (okT_valueZ HWF.out (by omega) HAT.out z) (fun k => k < W.heap.size) va vb W (fun k hk => hk) ha hb)
          go_region_held2 (fun W' => W'.cell? ⟨q, 0, none⟩ = some (.slice qa T2.length qc)) (first | with_reducible exact HSQ.out _ HPD.out | with_reducible exact HSQ.out _ HP2.out | with_reducible exact HSQ.out _ HP3.out | with_reducible exact HSQ.out _ HP4.out) (first | (go_at_call 13; refine (HLE.out _ HPD.out).mono ?_; rintro e z1 ⟨rfl, rfl⟩) | (go_at_call 15; refine (HVA.out _ HPD.out n).mono ?_; rintro e z2 ⟨⟨va2, rfl, hN⟩, b2⟩; obtain ⟨g1, g2, g3, g4, g5, g6, g7, g8, g9, g10, rfl⟩ := hN.form; have HNA := hide (isN_low hN); have HP2 := hide (HPD.out.on b2); clear b2 hN) | (go_at_call 16; refine (HVD.out _ HP2.out n).mono ?_; rintro e z3 ⟨⟨vb2, rfl, hN⟩, b3⟩; obtain ⟨h1, h2, h3, h4, h5, h6, h7, h8, h9, h10, rfl⟩ := hN.form; have HSC := hide (HSA.out _ _ _ _ (isN_next HNA.out b3) (isN_low hN)); have HP3 := hide (HP2.out.on b3); clear b3 hN) | (go_at_call 14; refine HSC.out.mono ?_; rintro e z4 ⟨rfl, b4⟩; have HP4 := hide (HP3.out.on b4); clear b4))
          go_wp2_with fail
          go_loopw [10, 11, 12] (fun v10 v11 v12 wr => ∃ kk : Int, v10 = .int .i64 kk ∧ -1 ≤ kk ∧ kk ≤ T2.length + 1 ∧ Hid (Pl q w pb wr (.slice qa T2.length qc) T2)) (fun v10 _ _ _ => ((T2.length : Int) + 1 - intOf v10).toNat)
          case atStart => exact ⟨-1, rfl, by omega, by omega, HP4⟩
          case round =>
            clear HP4 HP3 HP2 HPD HNA HSC HPL HVA HVD HSA
            obtain ⟨kk, rfl, hk1, hk2, HQ⟩ := hrel
            generalize wr = wr2 at *
            have cq : wr2.cell? ⟨q, 0, none⟩ = some (.slice qa T2.length qc) := HQ.out.kp.1 0
            by_cases hkt : kk ≤ T2.length
            · have HKI := hide (kids_p HWF.out (by omega) kk HQ.out.bk.both.liv.own)
              have hkl : (kidsZ T2 kk).length ≤ 41 := by
                unfold kidsZ
                split
                · have := HWF.out.kids_len kk.toNat; omega
                · simp
              have HPQ := hide (fun W (h : Pl q w pb W (.slice qa T2.length qc) T2) => parent_q HWF.out (by omega) kk h.bk.both.liv.own)
              have HPP := hide (fun W (h : Pl q w pb W (.slice qa T2.length qc) T2) => parent_any (.slice qa T2.length qc) T2 kk (by omega) (fun i h => by rw [← kidsAt_get h]; have := HWF.out.kids_len i; omega) W h.bk.isT)
              have HKD := hide (fun W (h : Pl q w pb W (.slice qa T2.length qc) T2) => kids_any (.slice qa T2.length qc) T2 kk W h.bk.isT)
              have HIN := hide (fun va vb W (ha : IsI W va (kidsZ T2 kk)) (hb : IsI W vb (kidsZ T2 kk)) => ints_any va vb _ _ (by omega) (by omega) W ha hb)
              simp only [beq_self_eq_true] at HIN
              generalize parentZ T2 kk = P at *
              generalize kidsZ T2 kk = ks at *
              go_wp2_with fail
              refine HKI.out.mono ?_
              rintro e w2 ⟨⟨v', rfl, ho⟩, b2⟩
              obtain ⟨ka, kc, rfl⟩ := owns_form ho
              have HB2 := hide b2
              have HO2 := hide ho
              have HPE := hide ((HQ.out.on b2).on (Below.refl w2.heap.size w2 |>.drew))
              have HBE := hide (b2.trans ((Below.refl w2.heap.size w2 |>.drew).mono b2.size))
              have HIE := hide ((owns_isI ho).below (Below.refl w2.heap.size w2 |>.drew))
              have HOE := hide (owns_below ho (Below.refl w2.heap.size w2 |>.drew))
              clear ho b2
              go_wp2_with fail
              go_region_held2 (fun W' => W'.cell? ⟨q, 0, none⟩ = some (.slice qa T2.length qc)) (first | with_reducible exact HSQ.out _ HPE.out | with_reducible exact HSQ.out _ HPF.out | with_reducible exact HSQ.out _ HPG.out | with_reducible exact HSQ.out _ HPH.out) (first | (go_at_call 18; refine (HPQ.out _ HPE.out).mono ?_; rintro e z5 ⟨rfl, rfl⟩) | (go_at_call 19; refine (HPP.out _ HPE.out).mono ?_; rintro e z6 ⟨rfl, b6⟩; have HPF := hide (HPE.out.on b6); have HIF := hide (HIE.out.below b6); have HOF := hide (owns_below HOE.out b6); have HBF := hide (HBE.out.trans (b6.mono HBE.out.size)); clear b6) | (go_at_call 21; refine (HKD.out _ HPF.out).mono ?_; rintro e z7 ⟨⟨kv, hI, rfl⟩, b7⟩; obtain ⟨la, lc, rfl⟩ := isI_form hI; have HIS := hide (HIN.out _ _ _ (HIF.out.below b7) hI); have HPG := hide (HPF.out.on b7); have HOG := hide (owns_below HOF.out b7); have HBG := hide (HBF.out.trans (b7.mono HBF.out.size)); clear b7 hI) | (go_at_call 20; refine HIS.out.mono ?_; rintro e z8 ⟨rfl, b8⟩; have HPH := hide (HPG.out.on b8); have HOH := hide (owns_below HOG.out b8); have HBH := hide (HBG.out.trans (b8.mono HBG.out.size)); clear b8))
              all_goals
                go_wp2_with fail
                go_loopw [12] (fun v12 wr3 => ∃ j : Nat, v12 = .int .i64 (j : Int) ∧ j ≤ ks.length ∧ Hid (Below wr2.heap.size wr2 wr3 ∧ ∃ xs', wr3.ownsRow wr2.heap.size 3 1 (.slice ka ks.length kc) ks.length xs')) (fun v12 _ => ks.length - (intOf v12).toNat)
                case atStart => exact ⟨0, rfl, by omega, hide ⟨HBH.out, _, HOH.out⟩⟩
                case round =>
                  obtain ⟨j, rfl, hj, HX⟩ := hrel
                  generalize wr = wr3 at *
                  by_cases hjl : j < ks.length
                  · have hjl2 : (j : Int) < ks.length := by omega
                    obtain ⟨hxb, xs', hx⟩ := HX.out
                    rcases hx.2 with ⟨_, h0⟩ | ⟨g, cc, cur, hv, hg, _⟩
                    · omega
                    injection hv with e1 _ e3
                    subst e1 e3
                    have hcl : ∃ u, wr3.cell? ⟨g, j, none⟩ = some u := by
                      have hl2 : xs'.length = ks.length * 1 := hx.1
                      exact ⟨xs'[j]'(by omega), by rw [hx.cellAt j (by omega), List.getElem?_eq_getElem (by omega)]⟩
                    obtain ⟨u, hcu⟩ := hcl
                    have hfu := hx.frozenAt j
                    have HDN : Hid (Below wr2.heap.size wr2 (wr3.setCell ⟨g, j, none⟩ (.int .i64 (-7 - (j : Int)))) ∧ ∃ xs', (wr3.setCell ⟨g, j, none⟩ (.int .i64 (-7 - (j : Int)))).ownsRow wr2.heap.size 3 1 (.slice (some ⟨g, 0, none⟩) ks.length kc) ks.length xs') := hide ⟨hxb.setCell (p := ⟨g, j, none⟩) hg _, _, (hx.stored j _).1⟩
                    clear hx HX hxb
                    go_wp2
                    go_roundw
                    case rel => exact ⟨j + 1, by go_num, by omega, HDN⟩
                    case measure => simp [intOf]; omega
                  · have hjl2 : ¬ (j : Int) < ks.length := by omega
                    have HPN := hide (HQ.out.on HX.out.1)
                    clear HX
                    go_wp2
                    go_roundw
                    case rel => exact ⟨kk + 1, by go_num, by omega, by omega, HPN⟩
                    case measure => simp [intOf]; omega
            · go_wp2
              go_roundw
              case rel => exact ⟨i + 1, T2, qa, qc, by go_num, by omega, by omega, hide ⟨HUP.out, HQ.out⟩⟩
              case measure => simp [intOf]; omega
    · by_cases hxx : i < xs.length
      · have hlt2 : (i : Int) < xs.length := by omega
        have h402 : ¬ (i : Int) < 40 := by omega
        have htl : T.length ≤ 41 := by have := HG.out.1.ll; omega
        have HWF := hide HG.out.1.wf
        have HAT := hide (fun i => (by have := (HG.out.1.at6 i).1; omega : (nodeAt T i).attrs.length ≤ 1000000))
        have HAL := hide alive_p
        have HPD := hide (HG.out.2.on (Below.refl wr.heap.size wr |>.drew))
        have HSQ : Hid (∀ W', Pl q w pb W' (.slice ta T.length tc) T → W'.cell? ⟨q, 0, none⟩ = some (.slice ta T.length tc)) := hide fun W' h => h.kp.1 0
        have HVA := hide (fun W (h : Pl q w pb W (.slice ta T.length tc) T) => valueZ_p HWF.out (by omega) HAT.out pb 0 h.bk.both.liv.own)
        have HVD := hide (fun W (h : Pl q w pb W (.slice ta T.length tc) T) => dvalueZ_p HWF.out (by omega) HAT.out (.slice ta T.length tc) 0 W h.bk.isT)
        have HSA := hide (fun va vb W (ha : IsN (fun k => k < W.heap.size) W (valueZ T 0) va) (hb : IsN (fun k => k < W.heap.size) W (valueZ T 0) vb) => same_any _ (okT_valueZ HWF.out (by omega) HAT.out 0) (fun k => k < W.heap.size) va vb W (fun k hk => hk) ha hb)
        clear HG HS
        go_wp2_with fail
        go_region_held2 (fun W' => W'.cell? ⟨q, 0, none⟩ = some (.slice ta T.length tc)) (first | with_reducible exact HSQ.out _ HPD.out | with_reducible exact HSQ.out _ HP1.out | with_reducible exact HSQ.out _ HP2.out | with_reducible exact HSQ.out _ HP3.out | with_reducible exact HSQ.out _ HP4.out) (first | (go_at_call 22; refine (HAL.out _).mono ?_; rintro e z1 ⟨rfl, b1⟩; have HP1 := hide (HPD.out.on b1); clear b1) | (go_at_call 15; refine (HVA.out _ HP1.out).mono ?_; rintro e z2 ⟨⟨va2, rfl, hN⟩, b2⟩; obtain ⟨g1, g2, g3, g4, g5, g6, g7, g8, g9, g10, rfl⟩ := hN.form; have HNA := hide (isN_low hN); have HP2 := hide (HP1.out.on b2); clear b2 hN) | (go_at_call 16; refine (HVD.out _ HP2.out).mono ?_; rintro e z3 ⟨⟨vb2, rfl, hN⟩, b3⟩; obtain ⟨h1, h2, h3, h4, h5, h6, h7, h8, h9, h10, rfl⟩ := hN.form; have HSC := hide (HSA.out _ _ _ (isN_next HNA.out b3) (isN_low hN)); have HP3 := hide (HP2.out.on b3); clear b3 hN) | (go_at_call 14; refine HSC.out.mono ?_; rintro e z4 ⟨rfl, b4⟩; have HP4 := hide (HP3.out.on b4); clear b4))
        all_goals
          go_wp2
          go_ret
          exact ⟨rfl, HP4.out.bk.bel⟩
      · have hlt2 : ¬ (i : Int) < xs.length := by omega
        have htl : T.length ≤ 41 := by have := HG.out.1.ll; omega
        have HWF := hide HG.out.1.wf
        have HAT := hide (fun i => (by have := (HG.out.1.at6 i).1; omega : (nodeAt T i).attrs.length ≤ 1000000))
        have HAL := hide alive_p
        have HPD := hide (HG.out.2.on (Below.refl wr.heap.size wr |>.drew))
        have HSQ : Hid (∀ W', Pl q w pb W' (.slice ta T.length tc) T → W'.cell? ⟨q, 0, none⟩ = some (.slice ta T.length tc)) := hide fun W' h => h.kp.1 0
        have HVA := hide (fun W (h : Pl q w pb W (.slice ta T.length tc) T) => valueZ_p HWF.out (by omega) HAT.out pb 0 h.bk.both.liv.own)
        have HVD := hide (fun W (h : Pl q w pb W (.slice ta T.length tc) T) => dvalueZ_p HWF.out (by omega) HAT.out (.slice ta T.length tc) 0 W h.bk.isT)
        have HSA := hide (fun va vb W (ha : IsN (fun k => k < W.heap.size) W (valueZ T 0) va) (hb : IsN (fun k => k < W.heap.size) W (valueZ T 0) vb) => same_any _ (okT_valueZ HWF.out (by omega) HAT.out 0) (fun k => k < W.heap.size) va vb W (fun k hk => hk) ha hb)
        clear HG HS
        go_wp2_with fail
        go_region_held2 (fun W' => W'.cell? ⟨q, 0, none⟩ = some (.slice ta T.length tc)) (first | with_reducible exact HSQ.out _ HPD.out | with_reducible exact HSQ.out _ HP1.out | with_reducible exact HSQ.out _ HP2.out | with_reducible exact HSQ.out _ HP3.out | with_reducible exact HSQ.out _ HP4.out) (first | (go_at_call 22; refine (HAL.out _).mono ?_; rintro e z1 ⟨rfl, b1⟩; have HP1 := hide (HPD.out.on b1); clear b1) | (go_at_call 15; refine (HVA.out _ HP1.out).mono ?_; rintro e z2 ⟨⟨va2, rfl, hN⟩, b2⟩; obtain ⟨g1, g2, g3, g4, g5, g6, g7, g8, g9, g10, rfl⟩ := hN.form; have HNA := hide (isN_low hN); have HP2 := hide (HP1.out.on b2); clear b2 hN) | (go_at_call 16; refine (HVD.out _ HP2.out).mono ?_; rintro e z3 ⟨⟨vb2, rfl, hN⟩, b3⟩; obtain ⟨h1, h2, h3, h4, h5, h6, h7, h8, h9, h10, rfl⟩ := hN.form; have HSC := hide (HSA.out _ _ _ (isN_next HNA.out b3) (isN_low hN)); have HP3 := hide (HP2.out.on b3); clear b3 hN) | (go_at_call 14; refine HSC.out.mono ?_; rintro e z4 ⟨rfl, b4⟩; have HP4 := hide (HP3.out.on b4); clear b4))
        all_goals
          go_wp2
          go_ret
          exact ⟨rfl, HP4.out.bk.bel⟩
end Go.Proofs.Ytjgklemhlmgheaa
