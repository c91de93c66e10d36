import Derived.Test.YthpepkfodcgbcaaWxA
/- WalFull's walk, whole. -/
set_option linter.unusedVariables false
set_option linter.unusedSimpArgs false
set_option maxRecDepth 40000
namespace Go.Proofs.Ythpepkfodcgbcaa
open Go.RowKit

set_option maxHeartbeats 16000000 in
theorem walFull_walk (n : Int) (v0 : Value) (l0 : List AW) (w : World) (hS0 : IsA w v0 l0) (hO0 : ∀ a ∈ l0, OkW a) (hL0 : l0.length ≤ 9223372036854775807) :
    Calls Try.prog 6 #[.int .i64 n, v0] w fun e w' => e = .returned (.bool true) ∧ Below w.heap.size w w' := by
  obtain ⟨q, hq⟩ : ∃ q : Nat, pickN n 8 = q := ⟨(pickN n 8).toNat, by have := (pick_bound n 8 (by omega)).1; unfold pickN; omega⟩
  have hq2 : q < 8 := by have := (pick_bound n 8 (by omega)).2; unfold pickN at hq; omega
  have HPK : Hid (∀ x, Calls Try.prog 8 #[.int .i64 n, .int .i64 8] x fun e w' => e = .returned (.int .i64 (q : Int)) ∧ w' = x) := hide (fun x => (pick17_any n 8 (by omega) (by omega) x).mono fun e w' h => by rw [hq] at h; exact h)
  have HN : Hid (∀ x, Below w.heap.size w x → Calls Try.prog 9 #[.int .i64 (1 + (q : Int))] x fun e y => ∃ a, e = .returned (.tuple #[.pointer (some a), .int .i64 0]) ∧ Hid (Liv w (.pointer (some a)) (newD (q + 1)) y)) := hide (fun x hb => (live_new (1 + (q : Int)) w x hb (by omega)).mono fun e y hh => by
    rw [show ((1 : Int) + q).toNat = q + 1 by omega] at hh
    exact hh)
  have HO : Hid (∀ (p : Addr) x, Liv w (.pointer (some p)) (newD (q + 1)) x → Calls Try.prog 11 #[.pointer (some p), .int .i64 0, .int .i64 (1 + (q : Int)), .int .u64 1] x fun e y => ∃ a, e = .returned (.tuple #[.pointer (some a), .int .i64 0]) ∧ ∃ d m, Hid (FullS w (.pointer (some p)) (.pointer (some a)) q 0 d m y)) := hide (fun p x h => by
    have h4 : (newD (q + 1)).safe.length = 4 * (q + 1) := by
      show (List.replicate ((q + 1) * 4) noughtB).length = _
      rw [List.length_replicate]; omega
    have h5 := open_fit (first := 0) (size := q + 1) (Fit.new (n := q + 1) (by omega)) (by omega) (by omega) (by rw [h4]; omega) (by decide) (open_new8 q hq2) 0 (Nat.zero_le _)
    have h6 := lw_open (first := ((0 : Nat) : Int)) (size := ((q + 1 : Nat) : Int)) (ep := 1) h (Fit.new (by omega)) (by rw [h4]; omega) (by decide) (by omega) (by decide) (open_new8 q hq2)
    rw [show ((q + 1 : Nat) : Int) = 1 + (q : Int) by omega] at h6
    exact h6.mono fun e y hh => by
      obtain ⟨a, rfl, hl⟩ := hh
      exact ⟨a, rfl, _, _, hide ⟨hl.out, h5.1, calm_new _, h4, h5.2.2.2.2, h5.2.1, h5.2.2.1⟩⟩)
  obtain ⟨a0, c0, rfl⟩ := hS0.form
  have HAC : Hid (∀ i (hi : i < l0.length), ∃ g o, a0 = some ⟨g, o, none⟩ ∧ ∃ a : AW, ∃ ba bc ka kc, a.bv = .slice ba a.b.length bc ∧ a.kv = .slice ka a.keep.length kc ∧ (∀ x, Below w.heap.size w x → x.cell? ⟨g, o + i * 4, none⟩ = some (.int .i64 a.kind) ∧ x.cell? ⟨g, o + i * 4 + 1, none⟩ = some (.int .i64 a.n) ∧ x.cell? ⟨g, o + i * 4 + 2, none⟩ = some (.slice ba a.b.length bc) ∧ x.cell? ⟨g, o + i * 4 + 3, none⟩ = some (.slice ka a.keep.length kc)) ∧ IsY w a.bv a.b ∧ IsF w a.kv a.keep ∧ OkW a) := hide (fun i hi => by
    obtain ⟨g, o, e, _, h1, h2, h3⟩ := hS0.at_ i hi
    obtain ⟨ba, bc, eb⟩ := h2.form
    obtain ⟨ka, kc, ek⟩ := h3.form
    rw [eb, ek] at h1
    exact ⟨g, o, e, l0[i], ba, bc, ka, kc, eb, ek, h1, h2, h3, hO0 _ (List.getElem_mem hi)⟩)
  have HSM : Hid (∀ x (a : AW), Below w.heap.size w x → IsY w a.bv a.b → IsF w a.kv a.keep → Calls Try.prog 13 #[awA a] x fun e y => e = .returned (.bool (smallW a)) ∧ Hid (Below x.heap.size x y)) := hide (fun x a hb hy hf => (small17_any a x (hy.below hb) (hf.below hb)).mono fun e y hh => ⟨hh.1, hide hh.2⟩)
  have HAL := hide alive17_any
  have hw1 : wrap64 (1 + (q : Int)) = 1 + (q : Int) := by unfold wrap64; omega
  clear hq hS0 hO0
  go_enter Try.func6, Try.ntmps6
  go_wp2_with fail
  refine (HPK.out _).mono ?_
  rintro e x1 ⟨rfl, rfl⟩
  have H1 := hide (HN.out x1 (Below.refl _ _))
  clear HPK HN
  go_wp2_with fail
  refine H1.out.mono ?_
  rintro e x2 ⟨p, rfl, L2⟩
  have H2 := hide (HO.out p x2 L2.out)
  clear H1 HO L2
  go_wp2_with fail
  refine H2.out.mono ?_
  rintro e x3 ⟨lp, rfl, d0, m0, F3⟩
  clear H2 hw1
  go_wp2
  go_loopw [10] (fun vi wr => ∃ (i : Nat) (d : DM) (m : LM), vi = .int .i64 (i : Int) ∧ i ≤ 40 ∧ i ≤ l0.length ∧ Hid (FullS x1 (.pointer (some p)) (.pointer (some lp)) q i d m wr)) (fun vi _ => 40 - (intOf vi).toNat)
  case atStart => exact ⟨0, d0, m0, rfl, by omega, Nat.zero_le _, F3⟩
  case round =>
    clear F3
    obtain ⟨i, d, m, rfl, hi, hil, F⟩ := hrel
    by_cases hlt : i < l0.length ∧ i < 40
    · have hlt1 : (i : Int) < l0.length := by omega
      have hlt2 : (i : Int) < 40 := by omega
      obtain ⟨g, o, rfl, a, ba, bc, ka, kc, eb, ek, hcell, hY, hK, hok⟩ := HAC.out i hlt.1
      obtain ⟨k0, k1, k2, k3⟩ := hcell wr F.out.l.b
      have HS := hide (HSM.out wr a F.out.l.b hY hK)
      have HYY := hide hY
      obtain ⟨kind, nn, b, keep, bv, kv⟩ := a
      simp only at eb ek k0 k1 k2 k3 HYY HS
      subst eb ek
      have hwi : wrap64 ((i : Int) + 1) = (i : Int) + 1 := by unfold wrap64; omega
      have hlt4 := hlt
      clear hcell hY hK hok HAC HSM
      by_cases hsm : smallW ⟨kind, nn, b, keep, .slice ba b.length bc, .slice ka keep.length kc⟩ = true ∧ 0 < b.length
      · rw [hsm.1] at HS
        have hbl : b.length ≤ 600 := by
          have h1 := hsm.1
          unfold smallW at h1
          rw [Bool.and_eq_true] at h1
          exact of_decide_eq_true h1.1
        have hb0 := hsm.2
        have hbne : ((b.length : Int) == 0) = false := by rw [beq_eq_false_iff_ne]; omega
        clear hsm hlt
        have HQ : Hid (q < 8) := hide hq2
        have HBL : Hid (b.length ≤ 6000 ∧ 0 < b.length) := hide ⟨by omega, hb0⟩
        have HI : Hid (i < l0.length ∧ i < 40) := hide hlt4
        clear hlt4 hq2
        generalize hbln : b.length = bl at *
        have HBN := hide hbln
        clear hbln
        go_wp2_with fail
        refine HS.out.mono ?_
        rintro e y1 ⟨rfl, c1⟩
        have F1 := hide (F.out.below c1.out)
        have HR := hide (lw_room F1.out.l F1.out.f.ok)
        clear HS c1 F k0 k1 k2 k3
        go_wp2_with fail
        refine HR.out.mono ?_
        rintro e y2 ⟨rfl, c2⟩
        have F2 := hide (F1.out.below c2.out)
        have HA := hide (full_append (i := i) (bv := .slice ba bl bc) (b := b) F2.out HQ.out (by have := HI.out; omega) (Below.refl _ _) (HYY.out.below F2.out.l.b) (fun hne k hk => .inl ((isY_old HYY.out).2 hne k hk)) (by rw [HBN.out]; exact HBL.out.1) (by rw [HBN.out]; exact HBL.out.2))
        rw [HBN.out] at HA
        clear HR c2 F1
        go_wp2_with fail
        refine HA.out.mono ?_
        rintro e y3 (⟨hle, rfl, d', m', F3, hrm⟩ | ⟨hgt, rfl, F3⟩)
        · have HR2 := hide (lw_room F3.out.l F3.out.f.ok)
          have hle2 : (bl : Int) ≤ (roomW m : Int) := by omega
          have hrm2 : ¬ (roomW m : Int) ≤ (roomW m' : Int) := by omega
          clear HA F2 hle hrm
          generalize roomW m = R1 at *
          generalize roomW m' = R2 at *
          go_wp2_with fail
          refine HR2.out.mono ?_
          rintro e y4 ⟨rfl, c4⟩
          have F4 := hide (F3.out.below c4.out)
          clear HR2 F3 c4
          go_wp2
          go_roundw
          case rel => exact ⟨i + 1, d', m', congrArg (Value.int IntKind.i64) (by first | rfl | omega), by have := HI.out; omega, by have := HI.out; omega, F4⟩
          case measure =>
            have := HI.out
            simp [intOf]
            omega
        · have hgt2 : ¬ (bl : Int) ≤ (roomW m : Int) := by omega
          clear HA F2 hgt
          generalize roomW m = R1 at *
          go_wp2
          go_roundw
          case rel => exact ⟨i + 1, d, m, congrArg (Value.int IntKind.i64) (by first | rfl | omega), by have := HI.out; omega, by have := HI.out; omega, F3⟩
          case measure =>
            have := HI.out
            simp [intOf]
            omega
      · have HI : Hid (i < l0.length ∧ i < 40) := hide hlt4
        by_cases hs2 : smallW ⟨kind, nn, b, keep, .slice ba b.length bc, .slice ka keep.length kc⟩ = true
        · have hb0 : b.length = 0 := by
            by_cases h0 : 0 < b.length
            · exact absurd ⟨hs2, h0⟩ hsm
            · omega
          rw [hs2] at HS
          have hbe : ((b.length : Int) == 0) = true := by rw [beq_iff_eq]; omega
          clear hsm hs2 hlt hlt4 hb0
          generalize b.length = bl at *
          go_wp2_with fail
          refine HS.out.mono ?_
          rintro e y1 ⟨rfl, c1⟩
          have F1 := hide ((F.out.below c1.out))
          clear HS c1 F k0 k1 k2 k3
          go_wp2
          go_roundw
          case rel => exact ⟨i + 1, d, m, congrArg (Value.int IntKind.i64) (by first | rfl | omega), by have := HI.out; omega, by have := HI.out; omega, hide ⟨F1.out.l, F1.out.f.mono (Nat.le_succ i), F1.out.c, F1.out.s, F1.out.m⟩⟩
          case measure =>
            have := HI.out
            simp [intOf]
            omega
        · rw [Bool.eq_false_iff.2 hs2] at HS
          clear hsm hs2 hlt hlt4
          generalize b.length = bl at *
          go_wp2_with fail
          refine HS.out.mono ?_
          rintro e y1 ⟨rfl, c1⟩
          have F1 := hide ((F.out.below c1.out))
          clear HS c1 F k0 k1 k2 k3
          go_wp2
          go_roundw
          case rel => exact ⟨i + 1, d, m, congrArg (Value.int IntKind.i64) (by first | rfl | omega), by have := HI.out; omega, by have := HI.out; omega, hide ⟨F1.out.l, F1.out.f.mono (Nat.le_succ i), F1.out.c, F1.out.s, F1.out.m⟩⟩
          case measure =>
            have := HI.out
            simp [intOf]
            omega
    · have HF := hide F.out
      have hend : (¬ (i : Int) < l0.length) ∨ ((i : Int) < l0.length ∧ ¬ (i : Int) < 40) := by omega
      have HQ : Hid (q < 8) := hide hq2
      have HI : Hid (i ≤ 40) := hide hi
      clear HAC HSM F hlt hi hil hq2 hL0
      rcases hend with g1 | ⟨g1, g2⟩
      · have HR := hide (lw_room HF.out.l HF.out.f.ok)
        go_wp2_with fail
        refine HR.out.mono ?_
        rintro e y1 ⟨rfl, c1⟩
        have F1 := hide (HF.out.below c1.out)
        have hrb := (F1.out.room HQ.out).2
        obtain ⟨w1, hmk, hYm, hbm⟩ := full_make (n := roomW m + 1) y1 (by omega)
        have HA := hide (full_append (i := i) (b := List.replicate (roomW m + 1) 0) F1.out HQ.out (by have := HI.out; omega) hbm hYm (fun _ k hk => by
          cases hk
          exact .inr (Nat.le_refl _)) (by rw [List.length_replicate]; omega) (by rw [List.length_replicate]; omega))
        rw [List.length_replicate] at HA
        have hw5 : wrap64 ((roomW m : Int) + 1) = ((roomW m + 1 : Nat) : Int) := by unfold wrap64; omega
        have hmk2 := hmk
        rw [show ((roomW m + 1 : Nat) : Int) = (roomW m : Int) + 1 by omega] at hmk2
        have HRB : Hid (roomW m ≤ 1248) := hide hrb
        clear HR HF c1 hYm hbm hrb
        obtain ⟨R1, hR1⟩ : ∃ R1, R1 = roomW m := ⟨_, rfl⟩
        have HR1 := hide hR1
        rw [← hR1] at HA hw5 hmk hmk2 ⊢
        clear hR1
        go_wp2_with fail
        refine HA.out.mono ?_
        rintro e y2 (⟨hle, _⟩ | ⟨_, rfl, F2⟩)
        · exact absurd hle (by omega)
        have HR2 := hide (lw_room F2.out.l F2.out.f.ok)
        rw [← HR1.out] at HR2
        clear HA hmk hmk2 hw5 F1
        go_wp2_with fail
        refine HR2.out.mono ?_
        rintro e y3 ⟨rfl, c3⟩
        have F3 := hide (F2.out.below c3.out)
        have HL := hide (HAL.out y3)
        clear HR2 F2 c3 HAL
        go_wp2_with fail
        refine HL.out.mono ?_
        rintro e y4 ⟨rfl, c4⟩
        have F4 := hide (F3.out.below c4)
        clear HL F3 c4
        by_cases hz : R1 = 0
        · have hzt : ((R1 : Int) == 0) = true := by rw [beq_iff_eq]; omega
          have HN := hide (full_none F4.out HQ.out (by have := HI.out; omega))
          clear hz F4
          go_wp2_with fail
          refine HN.out.mono ?_
          rintro e y5 ⟨rfl, c5⟩
          clear HN
          go_wp2
          go_ret
          exact ⟨rfl, c5.out⟩
        · have hzt : ((R1 : Int) == 0) = false := by rw [beq_eq_false_iff_ne]; omega
          obtain ⟨w2, hmk, hYm, hbm⟩ := full_make (n := R1) y4 (by have h1 := HRB.out; have h2 := HR1.out; omega)
          have HA := hide (full_append (i := i + 1) (b := List.replicate R1 0) F4.out HQ.out (by have := HI.out; omega) hbm hYm (fun _ k hk => by
            cases hk
            exact .inr (Nat.le_refl _)) (by rw [List.length_replicate]; have h1 := HRB.out; have h2 := HR1.out; omega) (by rw [List.length_replicate]; omega))
          rw [List.length_replicate] at HA
          clear hz F4 hYm hbm
          go_wp2_with fail
          refine HA.out.mono ?_
          rintro e y5 (⟨_, rfl, d', m', F5, _⟩ | ⟨hlt5, _⟩)
          · have HN := hide (full_none F5.out HQ.out (by have := HI.out; omega))
            clear HA F5 hmk
            go_wp2_with fail
            refine HN.out.mono ?_
            rintro e y6 ⟨rfl, c6⟩
            clear HN
            go_wp2
            go_ret
            exact ⟨rfl, c6.out⟩
          · exact absurd hlt5 (by have := HR1.out; omega)
      · have HR := hide (lw_room HF.out.l HF.out.f.ok)
        go_wp2_with fail
        refine HR.out.mono ?_
        rintro e y1 ⟨rfl, c1⟩
        have F1 := hide (HF.out.below c1.out)
        have hrb := (F1.out.room HQ.out).2
        obtain ⟨w1, hmk, hYm, hbm⟩ := full_make (n := roomW m + 1) y1 (by omega)
        have HA := hide (full_append (i := i) (b := List.replicate (roomW m + 1) 0) F1.out HQ.out (by have := HI.out; omega) hbm hYm (fun _ k hk => by
          cases hk
          exact .inr (Nat.le_refl _)) (by rw [List.length_replicate]; omega) (by rw [List.length_replicate]; omega))
        rw [List.length_replicate] at HA
        have hw5 : wrap64 ((roomW m : Int) + 1) = ((roomW m + 1 : Nat) : Int) := by unfold wrap64; omega
        have hmk2 := hmk
        rw [show ((roomW m + 1 : Nat) : Int) = (roomW m : Int) + 1 by omega] at hmk2
        have HRB : Hid (roomW m ≤ 1248) := hide hrb
        clear HR HF c1 hYm hbm hrb
        obtain ⟨R1, hR1⟩ : ∃ R1, R1 = roomW m := ⟨_, rfl⟩
        have HR1 := hide hR1
        rw [← hR1] at HA hw5 hmk hmk2 ⊢
        clear hR1
        go_wp2_with fail
        refine HA.out.mono ?_
        rintro e y2 (⟨hle, _⟩ | ⟨_, rfl, F2⟩)
        · exact absurd hle (by omega)
        have HR2 := hide (lw_room F2.out.l F2.out.f.ok)
        rw [← HR1.out] at HR2
        clear HA hmk hmk2 hw5 F1
        go_wp2_with fail
        refine HR2.out.mono ?_
        rintro e y3 ⟨rfl, c3⟩
        have F3 := hide (F2.out.below c3.out)
        have HL := hide (HAL.out y3)
        clear HR2 F2 c3 HAL
        go_wp2_with fail
        refine HL.out.mono ?_
        rintro e y4 ⟨rfl, c4⟩
        have F4 := hide (F3.out.below c4)
        clear HL F3 c4
        by_cases hz : R1 = 0
        · have hzt : ((R1 : Int) == 0) = true := by rw [beq_iff_eq]; omega
          have HN := hide (full_none F4.out HQ.out (by have := HI.out; omega))
          clear hz F4
          go_wp2_with fail
          refine HN.out.mono ?_
          rintro e y5 ⟨rfl, c5⟩
          clear HN
          go_wp2
          go_ret
          exact ⟨rfl, c5.out⟩
        · have hzt : ((R1 : Int) == 0) = false := by rw [beq_eq_false_iff_ne]; omega
          obtain ⟨w2, hmk, hYm, hbm⟩ := full_make (n := R1) y4 (by have h1 := HRB.out; have h2 := HR1.out; omega)
          have HA := hide (full_append (i := i + 1) (b := List.replicate R1 0) F4.out HQ.out (by have := HI.out; omega) hbm hYm (fun _ k hk => by
            cases hk
            exact .inr (Nat.le_refl _)) (by rw [List.length_replicate]; have h1 := HRB.out; have h2 := HR1.out; omega) (by rw [List.length_replicate]; omega))
          rw [List.length_replicate] at HA
          clear hz F4 hYm hbm
          go_wp2_with fail
          refine HA.out.mono ?_
          rintro e y5 (⟨_, rfl, d', m', F5, _⟩ | ⟨hlt5, _⟩)
          · have HN := hide (full_none F5.out HQ.out (by have := HI.out; omega))
            clear HA F5 hmk
            go_wp2_with fail
            refine HN.out.mono ?_
            rintro e y6 ⟨rfl, c6⟩
            clear HN
            go_wp2
            go_ret
            exact ⟨rfl, c6.out⟩
          · exact absurd hlt5 (by have := HR1.out; omega)
end Go.Proofs.Ythpepkfodcgbcaa
