import Derived.Test.YthpepkfodcgbcaaWxT
import Derived.BigQuiet
/- WalKeeps's walk. -/
set_option linter.unusedVariables false
set_option linter.unusedSimpArgs false
set_option maxRecDepth 40000
namespace Go.Proofs.Ythpepkfodcgbcaa
open Go.RowKit

theorem below_drewNK (w : World) (m : Nat) : Below w.heap.size w (w.drewN m) := ⟨rfl, rfl, rfl, Nat.le_refl _, fun _ _ => rfl⟩
set_option maxHeartbeats 16000000 in
theorem walKeeps_walk (v0 : Value) (l0 : List AW) (w : World) (hS0 : IsA w v0 l0) (hO0 : ∀ a ∈ l0, OkW a) (hL0 : l0.length ≤ 9223372036854775807) :
    Calls Try.prog 5 #[v0] w fun e w' => e = .returned (.bool true) ∧ Below w.heap.size w w' := by
  obtain ⟨m0, hm0, hr0, ht0⟩ := kt_new
  have HN := hide (live_new 10 w w (Below.refl _ _) (by decide))
  have HO : Hid (∀ (p : Addr) x, Liv w (.pointer (some p)) (newD 10) x → Calls Try.prog 11 #[.pointer (some p), .int .i64 2, .int .i64 8, .int .u64 1] x fun e y => ∃ a, e = .returned (.tuple #[.pointer (some a), .int .i64 0]) ∧ Hid (KW w p a (.slice none 0 0) 0 0 1 (newD 10) m0 [] y)) := hide (fun p x h => (lw_open (first := 2) (size := 8) (ep := 1) h (Fit.new (by decide)) (by decide) (by decide) (by decide) (by decide) hm0).mono fun e y hh => by
    obtain ⟨a, rfl, hl⟩ := hh
    obtain ⟨A, h1, h2⟩ := hl.out.k
    exact ⟨a, rfl, hide ⟨ht0, ⟨⟨A, h1, h2, fun k hk => by cases hk⟩, .inl ⟨rfl, rfl⟩, fun y hy => absurd hy (by simp), hl.out.b⟩, by rw [hr0]; rfl⟩⟩)
  obtain ⟨a0, c0, rfl⟩ := hS0.form
  have HAC : Hid (∀ i (hi : i < l0.length), ∃ g o, a0 = some ⟨g, o, none⟩ ∧ ∃ a : AW, ∃ ba bc ka kc, a.bv = .slice ba a.b.length bc ∧ a.kv = .slice ka a.keep.length kc ∧ (∀ x, Below w.heap.size w x → x.cell? ⟨g, o + i * 4, none⟩ = some (.int .i64 a.kind) ∧ x.cell? ⟨g, o + i * 4 + 1, none⟩ = some (.int .i64 a.n) ∧ x.cell? ⟨g, o + i * 4 + 2, none⟩ = some (.slice ba a.b.length bc) ∧ x.cell? ⟨g, o + i * 4 + 3, none⟩ = some (.slice ka a.keep.length kc)) ∧ IsY w a.bv a.b ∧ IsF w a.kv a.keep ∧ OkW a) := hide (fun i hi => by
    obtain ⟨g, o, e, _, h1, h2, h3⟩ := hS0.at_ i hi
    obtain ⟨ba, bc, eb⟩ := h2.form
    obtain ⟨ka, kc, ek⟩ := h3.form
    rw [eb, ek] at h1
    exact ⟨g, o, e, l0[i], ba, bc, ka, kc, eb, ek, h1, h2, h3, hO0 _ (List.getElem_mem hi)⟩)
  have HSM : Hid (∀ x (a : AW), Below w.heap.size w x → IsY w a.bv a.b → IsF w a.kv a.keep → Calls Try.prog 13 #[awA a] x fun e y => e = .returned (.bool (smallW a)) ∧ Hid (Below x.heap.size x y)) := hide (fun x a hb hy hf => (small17_any a x (hy.below hb) (hf.below hb)).mono fun e y hh => ⟨hh.1, hide hh.2⟩)
  have HAL := hide alive17_any
  clear hS0 hO0 ht0 hm0 hr0
  go_enter Try.func5, Try.ntmps5
  go_wp2_with fail
  refine HN.out.mono ?_
  rintro e x1 ⟨p, rfl, L1⟩
  have H1 := hide (HO.out p x1 L1.out)
  clear HN HO L1
  go_wp2_with fail
  refine H1.out.mono ?_
  rintro e x2 ⟨lp0, rfl, K0⟩
  clear H1
  go_wp2
  go_loopw [5, 7, 8, 9, 10] (fun v5 v7 v8 v9 v10 wr => ∃ (i sure ep : Nat) (d : DM) (m : LM) (lp : Addr) (va : Option Addr) (vc : Nat) (l : List (Bs × Value)) (ln : Nat), v5 = .pointer (some lp) ∧ v7 = .slice va ln vc ∧ v8 = .int .i64 (sure : Int) ∧ v9 = .int .u64 (ep : Int) ∧ v10 = .int .i64 (i : Int) ∧ Hid (i ≤ 40 ∧ i ≤ l0.length ∧ l.length = ln) ∧ Hid (KW w p lp (.slice va ln vc) i sure ep d m l wr)) (fun _ _ _ _ v10 _ => 40 - (intOf v10).toNat)
  case atStart => exact ⟨0, 0, 1, newD 10, m0, lp0, none, 0, [], 0, rfl, rfl, rfl, rfl, rfl, hide ⟨by omega, Nat.zero_le _, rfl⟩, K0⟩
  case round =>
    clear K0
    obtain ⟨i, sure, ep, d, m, lp, va, vc, l, ln, rfl, rfl, rfl, rfl, rfl, HI, K⟩ := hrel
    by_cases hlt : i < l0.length ∧ i < 40
    · have hlt1 : (i : Int) < l0.length := by omega
      have hlt2 : (i : Int) < 40 := by omega
      obtain ⟨g, o, rfl, a, ba, bc, ka, kc, eb, ek, hcell, hY, hK, hok⟩ := HAC.out i hlt.1
      obtain ⟨k0, k1, k2, k3⟩ := hcell wr K.out.s.b
      have hwi : wrap64 ((i : Int) + 1) = (i : Int) + 1 := by unfold wrap64; omega
      have HI2 : Hid (i + 1 ≤ 40 ∧ i + 1 ≤ l0.length) := hide (by omega)
      obtain ⟨kind, nn, b, keep, bv, kv⟩ := a
      simp only at eb ek k0 k1 k2 k3 hY hK hok
      subst eb ek
      have hal := below_alloc wr (.cells #[.int .i64 kind, .int .i64 nn, .slice ba b.length bc, .slice ka keep.length kc] 46)
      have hbx : (wr.alloc (.cells #[.int .i64 kind, .int .i64 nn, .slice ba b.length bc, .slice ka keep.length kc] 46)).heap[wr.heap.size]? = some (.cells #[.int .i64 kind, .int .i64 nn, .slice ba b.length bc, .slice ka keep.length kc] 46 (0, 0)) := alloc_new wr _
      have HS := hide (HSM.out (wr.alloc (.cells #[.int .i64 kind, .int .i64 nn, .slice ba b.length bc, .slice ka keep.length kc] 46)) ⟨kind, nn, b, keep, .slice ba b.length bc, .slice ka keep.length kc⟩ (K.out.s.b.trans (hal.mono K.out.s.b.size)) hY hK)
      have HYY := hide hY
      have HKK := hide hK
      have HOK := hide hok
      have HAL2 := hide hal
      have HBX := hide hbx
      clear hcell hY hK hok HAC HSM hal hbx hlt
      by_cases hsm : smallW ⟨kind, nn, b, keep, .slice ba b.length bc, .slice ka keep.length kc⟩ = true
      · rw [hsm] at HS
        have HBL : Hid (b.length ≤ 600) := hide (by
          unfold smallW at hsm
          rw [Bool.and_eq_true] at hsm
          exact of_decide_eq_true hsm.1)
        clear hsm
        obtain ⟨bl, hbl⟩ : ∃ bl, bl = b.length := ⟨_, rfl⟩
        have HBN := hide hbl
        rw [← hbl] at HS HYY HBX HAL2 k2 
        obtain ⟨kl, hkl⟩ : ∃ kl, kl = keep.length := ⟨_, rfl⟩
        have HKN := hide hkl
        rw [← hkl] at HS HKK HBX HAL2 k3
        clear hbl hkl
        go_wp2_with fail
        refine HS.out.mono ?_
        rintro e y1 ⟨rfl, c1⟩
        have B1 := hide (HAL2.out.trans (c1.out.mono HAL2.out.size))
        have hbx1 := (c1.out.block wr.heap.size (by simp)).trans HBX.out
        have z0 : y1.cell? ⟨wr.heap.size, 0, none⟩ = some (.int .i64 kind) := by rw [cell_of_row y1 _ 0 _ _ _ hbx1]; rfl
        have z1 : y1.cell? ⟨wr.heap.size, 1, none⟩ = some (.int .i64 nn) := by rw [cell_of_row y1 _ 1 _ _ _ hbx1]; rfl
        have z2 : y1.cell? ⟨wr.heap.size, 2, none⟩ = some (.slice ba bl bc) := by rw [cell_of_row y1 _ 2 _ _ _ hbx1]; rfl
        have z3 : y1.cell? ⟨wr.heap.size, 3, none⟩ = some (.slice ka kl kc) := by rw [cell_of_row y1 _ 3 _ _ _ hbx1]; rfl
        have HX1 := hide hbx1
        have K1 := hide (K.out.below B1.out)
        clear HS c1 k0 k1 k2 k3 hbx1 HBX HAL2
        by_cases q1 : kind = 1
        · subst q1
          have HA := hide (kw_append (b := b) (a := ba) (c := bc) K.out (by have := HI2.out; omega) B1.out (by rw [← HBN.out]; exact HYY.out) HBL.out)
          rw [← HBN.out] at HA
          clear K1
          go_wp2_with fail
          refine HA.out.mono ?_
          rintro e y2 ⟨z, rfl, HKP, ⟨hz, d', m', K2⟩ | ⟨rfl, d', m', a', c', y', l', hrun, hl', K2⟩⟩
          · have hz2 : (z == 0) = false := by rw [beq_eq_false_iff_ne]; exact hz
            clear HA HKP z0 z1 z2 z3 HX1 hz
            go_wp2
            go_roundw
            case rel => exact ⟨i + 1, sure, ep, d', m', lp, va, vc, l, ln, rfl, rfl, rfl, rfl, rfl, hide ⟨HI2.out.1, HI2.out.2, HI.out.2.2⟩, K2⟩
            case measure => exact meas40 i HI2.out.1
          · have hx2 := (HKP.out wr.heap.size (Nat.le_refl _) (Array.getElem?_eq_some_iff.1 HX1.out).1).trans HX1.out
            have u2 : y2.cell? ⟨wr.heap.size, 2, none⟩ = some (.slice ba bl bc) := by rw [cell_of_row y2 _ 2 _ _ _ hx2]; rfl
            have hrn := hrun.out
            rw [HI.out.2.2] at hrn hl' K2
            have HRN := hide hrn
            have HL' := hide hl'
            clear HA HKP z0 z1 z2 z3 HX1 hx2 hrn hrun hl'
            go_wp2_with (at_builtin; refine Lib.wpList_append_run _ rfl (.tmp 62) (.tmp 65) _ _ rfl (.slice va ln vc) (.slice (some ⟨y2.heap.size, 0, none⟩) 1 1) rfl rfl _ _ HRN.out ?_)
            go_roundw
            case rel => exact ⟨i + 1, sure, ep, d', m', lp, a', c', l', ln + 1, rfl, rfl, rfl, rfl, rfl, hide ⟨HI2.out.1, HI2.out.2, HL'.out⟩, K2⟩
            case measure => exact meas40 i HI2.out.1
        · have n1 : (kind == 1) = false := by rw [beq_eq_false_iff_ne]; exact q1
          clear q1
          by_cases q2 : kind = 2
          · subst q2
            have HA := hide (kw_sync K1.out)
            go_wp2_with fail
            refine HA.out.mono ?_
            rintro e y2 ⟨z, rfl, ⟨hz, d', m', K2⟩ | ⟨rfl, d', m', K2⟩⟩
            · have hz2 : (z == 0) = false := by rw [beq_eq_false_iff_ne]; exact hz
              clear HA z0 z1 z2 z3 HX1 hz K1
              go_wp2
              go_roundw
              case rel => exact ⟨i + 1, sure, ep, d', m', lp, va, vc, l, ln, rfl, rfl, rfl, rfl, rfl, hide ⟨HI2.out.1, HI2.out.2, HI.out.2.2⟩, K2⟩
              case measure => exact meas40 i HI2.out.1
            · clear HA z0 z1 z2 z3 HX1 K1
              have K3 := K2
              rw [HI.out.2.2] at K3
              go_wp2
              go_roundw
              case rel => exact ⟨i + 1, ln, ep, d', m', lp, va, vc, l, ln, rfl, rfl, rfl, rfl, rfl, hide ⟨HI2.out.1, HI2.out.2, HI.out.2.2⟩, K3⟩
              case measure => exact meas40 i HI2.out.1
          · have n2 : (kind == 2) = false := by rw [beq_eq_false_iff_ne]; exact q2
            clear q2
            by_cases q3 : kind = 3
            · subst q3
              have hep := K1.out.t.b.1
              have hi40 := HI2.out.1
              have HA := hide (kw_reset K1.out (by omega))
              have hwe : IntKind.u64.wrap ((ep : Int) + 1) = ((ep + 1 : Nat) : Int) := by
                unfold IntKind.wrap
                simp only [show IntKind.u64.signed = false from rfl, Bool.false_and]
                show (if _ then _ else ((ep : Int) + 1) % 18446744073709551616) = _
                rw [if_neg (by simp)]
                omega
              have hwe2 : (ep : Int) + 1 < 18446744073709551616 := by omega
              have hce : ((ep + 1 : Nat) : Int) = (ep : Int) + 1 := by omega
              rw [hce] at HA
              clear hep hi40 hwe hce
              go_wp2_with fail
              refine HA.out.mono ?_
              rintro e y2 ⟨z, rfl, ⟨hz, d', m', K2⟩ | ⟨rfl, d', m', K2⟩⟩
              · have hz2 : (z == 0) = false := by rw [beq_eq_false_iff_ne]; exact hz
                clear HA z0 z1 z2 z3 HX1 hz K1
                go_wp2
                go_roundw
                case rel => exact ⟨i + 1, sure, ep, d', m', lp, va, vc, l, ln, rfl, rfl, rfl, rfl, rfl, hide ⟨HI2.out.1, HI2.out.2, HI.out.2.2⟩, K2⟩
                case measure => exact meas40 i HI2.out.1
              · clear HA z0 z1 z2 z3 HX1 K1
                go_wp2
                go_roundw
                case rel => exact ⟨i + 1, 0, ep + 1, d', m', lp, none, 0, [], 0, rfl, rfl, rfl, rfl, rfl, hide ⟨HI2.out.1, HI2.out.2, rfl⟩, K2⟩
                case measure => exact meas40 i HI2.out.1
            · have n3 : (kind == 3) = false := by rw [beq_eq_false_iff_ne]; exact q3
              clear q3
              by_cases q4 : kind = 4
              · subst q4
                have HA := hide (kw_crash (kv := .slice ka kl kc) (keep := keep) K1.out (by have := HI2.out.1; omega) (by rw [HKN.out]; rw [← HKN.out]; exact HKK.out) HOK.out.k)
                go_wp2_with fail
                refine HA.out.mono ?_
                rintro e y2 ⟨rfl, j, hsj, m', hop⟩
                have HOP := hide hop
                have HSJ := hide hsj
                have H1 := hide (HOP.out y2 (Below.refl _ _))
                clear HA z0 z1 z2 z3 HX1 K1 hop hsj
                go_wp2_with fail
                refine H1.out.mono ?_
                rintro e y3 ⟨la, rfl, C3, b3⟩
                have H2 := hide (HOP.out y3 b3.out)
                clear H1 HOP b3
                go_wp2_with fail
                refine H2.out.mono ?_
                rintro e y4 ⟨lb, rfl, C4, b4⟩
                have CA := hide (C3.out.below b4.out)
                have hfew := CA.out.t.few
                have H3 := hide (lw_records CA.out.s.lw (by omega))
                clear H2 C3 b4
                have hnr := CA.out.n
                rw [hnr] at H3
                clear hnr
                go_wp2_with fail
                refine H3.out.mono ?_
                rintro e y5 ⟨ua, uc, rfl, N5, b5⟩
                have C5 := hide (CA.out.below b5.out)
                have D5 := hide (C4.out.below b5.out)
                have hpre := C5.out.s.pre j C5.out.le
                have hjl : j ≤ ln := by rw [← HI.out.2.2]; exact C5.out.le
                have H4 := hide (begins_true (x := y5) (ua := ua) (uc := uc) (va := va) (vn := ln) (vc := vc) (a := m'.recs) (R := l.map Prod.fst) (by rw [C5.out.n]; exact N5.out.isRs) (by rw [C5.out.n]; exact hpre.1) (by rw [C5.out.n]; exact hpre.2) (by rw [C5.out.n]; exact hjl) (by rw [C5.out.n]; exact C5.out.r) (by omega))
                have H4b := H4
                rw [C5.out.n] at H4b
                have NRS := hide (N5.out.isRs)
                have hjs : ¬ (j : Int) < (sure : Int) := by have := HSJ.out; omega
                clear H3 H4 CA C4 b5 hpre N5
                have hj1000 : j ≤ 1000 := by have h7 := C5.out.n; omega
                clear hfew
                go_wp2_with fail
                refine H4b.out.mono ?_
                rintro e y6 ⟨rfl, b6⟩
                have C6 := hide (C5.out.below b6)
                have D6 := hide (D5.out.below b6)
                have NR6 := hide (NRS.out.below b6)
                have H5 := hide (lw_records D6.out.s.lw (by have := D6.out.t.few; omega))
                have hn6 := D6.out.n
                rw [hn6] at H5
                clear H4b C5 D5 NRS b6 hn6
                go_wp2_with fail
                refine H5.out.mono ?_
                rintro e y7 ⟨ta, tc, rfl, N7, b7⟩
                have C7 := hide (C6.out.below b7.out)
                have HSA := hide (rsame17_any (P := fun _ => True) (Q := fun _ => True) (.slice ua j uc) (.slice ta j tc) m'.recs m'.recs y7 (NR6.out.below b7.out) N7.out.isRs (by have := C7.out.n; omega) (by have := C7.out.n; omega))
                rw [show sameW m'.recs m'.recs = true from decide_eq_true rfl] at HSA
                clear H5 C6 D6 NR6 N7 b7
                go_wp2_with fail
                refine HSA.out.mono ?_
                rintro e y8 ⟨rfl, b8⟩
                have C8 := hide (C7.out.below b8)
                have hcut := (C8.out.s.r.cut j C8.out.le).1
                have KF := hide C8.out.kw
                have hlt3 : (l.take j).length = j := by rw [List.length_take, HI.out.2.2]; omega
                have HLT := hide hlt3
                clear HSA C7 b8 C8 hlt3 hjs hjl hj1000 HSJ
                go_wp2_with fail
                go_quiet (fail)
                go_wp2
                go_roundw
                case rel => exact ⟨i + 1, j, ep, (crashD d keep), m', la, va, j, (l.take j), j, rfl, rfl, rfl, rfl, rfl, hide ⟨HI2.out.1, HI2.out.2, HLT.out⟩, (hide (KF.out.below (below_drewNK _ _)))⟩
                case measure => exact meas40 i HI2.out.1
              · have n4 : (kind == 4) = false := by rw [beq_eq_false_iff_ne]; exact q4
                clear q4
                by_cases q5 : kind = 5
                · subst q5
                  have HA := hide (kw_fuse (n := nn) K1.out HOK.out.n)
                  go_wp2_with fail
                  refine HA.out.mono ?_
                  rintro e y2 ⟨rfl, d', K2⟩
                  clear HA z0 z1 z2 z3 HX1 K1
                  go_wp2
                  go_roundw
                  case rel => exact ⟨i + 1, sure, ep, d', m, lp, va, vc, l, ln, rfl, rfl, rfl, rfl, rfl, hide ⟨HI2.out.1, HI2.out.2, HI.out.2.2⟩, K2⟩
                  case measure => exact meas40 i HI2.out.1
                · have n5 : (kind == 5) = false := by rw [beq_eq_false_iff_ne]; exact q5
                  clear q5
                  have K2 := hide K1.out.next
                  clear z1 z2 z3 HX1 K1
                  go_wp2
                  go_roundw
                  case rel => exact ⟨i + 1, sure, ep, d, m, lp, va, vc, l, ln, rfl, rfl, rfl, rfl, rfl, hide ⟨HI2.out.1, HI2.out.2, HI.out.2.2⟩, K2⟩
                  case measure => exact meas40 i HI2.out.1
      · rw [Bool.eq_false_iff.2 hsm] at HS
        clear hsm
        generalize b.length = bl at *
        generalize keep.length = kl at *
        have K0 := K
        go_wp2_with fail
        refine HS.out.mono ?_
        rintro e y1 ⟨rfl, c1⟩
        have K2 := hide ((K0.out.below (HAL2.out.trans (c1.out.mono HAL2.out.size))).next)
        clear HS c1 K0 K k0 k1 k2 k3 HBX HAL2
        go_wp2
        go_roundw
        case rel => exact ⟨i + 1, sure, ep, d, m, lp, va, vc, l, ln, rfl, rfl, rfl, rfl, rfl, hide ⟨HI2.out.1, HI2.out.2, HI.out.2.2⟩, K2⟩
        case measure => exact meas40 i HI2.out.1
    · have hend : (¬ (i : Int) < l0.length) ∨ ((i : Int) < l0.length ∧ ¬ (i : Int) < 40) := by omega
      have H1 := hide (HAL.out wr)
      clear HAC HSM hlt hL0 HAL
      rcases hend with g1 | ⟨g1, g2⟩
      all_goals
        go_wp2_with fail
        refine H1.out.mono ?_
        rintro e y1 ⟨rfl, c1⟩
        have K1 := hide (K.out.below c1)
        have hln := K1.out.len
        have H2 := hide (lw_records K1.out.s.lw (by omega))
        rw [← hln.1, HI.out.2.2] at H2
        have hr1 := K1.out.r
        have HLN := hide hln
        clear H1 K c1 hln
        go_wp2_with fail
        refine H2.out.mono ?_
        rintro e y2 ⟨ua, uc, rfl, N2, b2⟩
        have K2 := hide (K1.out.below b2.out)
        have hall := K2.out.s.isRs
        rw [hr1] at hall
        have H3 := hide (rsame17_any (P := fun _ => True) (Q := fun _ => True) (.slice ua ln uc) (.slice va ln vc) m.recs m.recs y2 N2.out.isRs hall (by have := HLN.out; omega) (by have := HLN.out; omega))
        rw [show sameW m.recs m.recs = true from decide_eq_true rfl] at H3
        clear H2 K1 N2 b2 hall hr1 HLN
        go_wp2_with fail
        refine H3.out.mono ?_
        rintro e y3 ⟨rfl, b3⟩
        have HB := hide (K2.out.s.b.trans (b3.mono K2.out.s.b.size))
        clear H3 K2 b3
        go_wp2
        go_ret
        exact ⟨rfl, HB.out⟩
end Go.Proofs.Ythpepkfodcgbcaa
