/- ArenaBack's walk. -/
import Derived.Test.YtjgklemhlmgheaaRowS5
import Derived.Test.YtjgklemhlmgheaaPQ5
import Derived.Test.YtjgklemhlmgheaaWalkH5
import Derived.BigQuiet
import Derived.Deep.QuietTactic
import Derived.Test.YtjgklemhlmgheaaBkL5
import Derived.Test.YtjgklemhlmgheaaVT5
import Derived.Deep.RegionHeld2
set_option linter.unusedVariables false
set_option linter.unusedSimpArgs false
namespace Go.Proofs.Ytjgklemhlmgheaa
open Go.RowKit

set_option maxRecDepth 10000 in
set_option maxHeartbeats 8000000 in
theorem back_walk (v : Value) (xs : List AV) (n : Int) (w : World) (hS : IsS w v xs) : Calls Try.prog 6 #[v, .int .i64 n] w fun e w' => e = .returned (.bool true) ∧ Below w.heap.size w w' := by
  have HS := hide hS
  obtain ⟨a0, c0, rfl⟩ := isS_form hS
  clear hS
  have HNW := hide (liv_new w)
  go_enter Try.func6, Try.ntmps6
  go_wp2_with fail
  refine HNW.out.mono ?_
  rintro e x0 ⟨pb, rfl, hL⟩
  have L0 : Hid (GoodK 0 newL ∧ Liv w.heap.size w x0 pb newL) := hide ⟨goodk_new, hL⟩
  clear hL HNW
  go_wp2_with fail
  go_loopw [6] (fun vi wr => ∃ (i : Nat) (T : TR), vi = .int .i64 (i : Int) ∧ i ≤ 40 ∧ i ≤ xs.length ∧ Hid (GoodK i T ∧ Liv w.heap.size w wr pb T)) (fun vi _ => xs.length - (intOf vi).toNat)
  case atStart => exact ⟨0, newL, rfl, by omega, by omega, L0⟩
  case round =>
    clear L0
    obtain ⟨i, T, rfl, hi40, hil, HG⟩ := hrel
    by_cases hlt : i < xs.length ∧ i < 40
    · have hlt2 : (i : Int) < xs.length := by omega
      have h402 : (i : Int) < 40 := by omega
      obtain ⟨sb, so, rfl, hcs, hV⟩ := HS.out.get i hlt.1
      have hcs2 := act_cells hcs HG.out.2.bel
      obtain ⟨va, vc, hvf⟩ := isV_form hV
      generalize xs[i] = x at *
      obtain ⟨k, a, b2, sp, s, aa, av⟩ := x
      simp only at hvf hcs2
      subst hvf
      obtain ⟨y0, y1, y2, y3, y4, y5⟩ := hcs2
      have HSM : Hid (∀ W, Calls Try.prog 11 #[.agg #[.int .i64 k, .int .i64 a, .int .i64 b2, .int .i64 sp, .string s, .slice va aa.length vc]] W fun e w' => e = .returned (.bool (smallB ⟨k, a, b2, sp, s, aa, .slice va aa.length vc⟩)) ∧ Below W.heap.size W w') := hide fun W => small_p ⟨k, a, b2, sp, s, aa, .slice va aa.length vc⟩ ⟨va, vc, rfl⟩ W
      cases hsm : smallB ⟨k, a, b2, sp, s, aa, .slice va aa.length vc⟩ with
      | false =>
        rw [hsm] at HSM
        have HUP := hide HG.out.1.up
        clear hcs hV
        go_wp2_with fail
        refine (HSM.out _).mono ?_
        rintro e x1 ⟨rfl, b1⟩
        have HL := hide (HG.out.2.on b1)
        clear b1 y0 y1 y2 y3 y4 y5
        go_wp2
        go_roundw
        case rel => exact ⟨i + 1, T, by go_num, by omega, by omega, hide ⟨HUP.out, HL.out⟩⟩
        case measure => simp [intOf]; omega
      | true =>
        rw [hsm] at HSM
        have HUP := hide (goodk_act HG.out.1 ⟨k, a, b2, sp, s, aa, .slice va aa.length vc⟩ hsm)
        have HDO : Hid (∀ W rv, Both w.heap.size w W pb rv T newL → Calls Try.prog 12 #[.pointer (some ⟨pb, 0, none⟩), .agg #[rv], .agg #[.int .i64 k, .int .i64 a, .int .i64 b2, .int .i64 sp, .string s, .slice va aa.length vc]] W fun e w' => ∃ rv', e = .returned (.tuple #[.agg #[rv'], .bool (okB T newL ⟨k, a, b2, sp, s, aa, .slice va aa.length vc⟩)]) ∧ Both w.heap.size w w' pb rv' (actP T ⟨k, a, b2, sp, s, aa, .slice va aa.length vc⟩).1 (actD newL ⟨k, a, b2, sp, s, aa, .slice va aa.length vc⟩).1 ∧ ∃ a m c, rv' = .slice a m c) := hide fun W rv hb => do_p rfl ⟨k, a, b2, sp, s, aa, .slice va aa.length vc⟩ (good_fit HG.out.1.good good_new hi40 (by omega) _ hsm) hV hb
        have HCS := hide hcs
        clear hcs hV
        go_wp2_with fail
        refine (HSM.out _).mono ?_
        rintro e x1 ⟨rfl, b1⟩
        have HL := hide (HG.out.2.on (b1.trans (Below.refl x1.heap.size x1 |>.drew |>.mono (b1.size))))
        have HN := hide (new_any x1.drew)
        obtain ⟨z0, z1, z2, z3, z4, z5⟩ := act_cells HCS.out HL.out.bel
        clear b1 y0 y1 y2 y3 y4 y5
        generalize (actP T ⟨k, a, b2, sp, s, aa, .slice va aa.length vc⟩).1 = T2 at *
        generalize (actD newL ⟨k, a, b2, sp, s, aa, .slice va aa.length vc⟩).1 = U2 at *
        generalize okB T newL ⟨k, a, b2, sp, s, aa, .slice va aa.length vc⟩ = ob at *
        go_wp2_with fail
        go_region_with (first | (go_at_call 10; refine HN.out.mono ?_; rintro e x2 ⟨⟨rv, hT, ⟨ra, rm, rc, rfl⟩, rfl⟩, b2⟩; have HBO := hide (both_new HL.out b2 hT); have hcc := act_cells HCS.out (HL.out.on b2).bel; obtain ⟨u0, u1, u2, u3, u4, u5⟩ := hcc; clear hT b2) | (go_at_call 12; refine (HDO.out _ _ HBO.out).mono ?_; rintro e x3 ⟨rv', rfl, hbo, ⟨qa, qm, qc, rfl⟩⟩; have HLN := hide hbo.liv; clear hbo))
        all_goals
          go_wp2
          go_roundw
          case rel => exact ⟨i + 1, T2, by go_num, by omega, by omega, hide ⟨HUP.out, HLN.out⟩⟩
          case measure => simp [intOf]; omega
    · have hex : GoodK 40 T := by
        have : ∀ n, GoodK (i + n) T := fun n => by
          induction n with
          | zero => exact HG.out.1
          | succ n ih => exact ih.up
        have h2 := this (40 - i)
        rw [show i + (40 - i) = 40 by omega] at h2
        exact h2
      have HG2 : Hid (GoodK 40 T ∧ Liv w.heap.size w wr pb T) := hide ⟨hex, HG.out.2⟩
      clear hex HG HS
      replace HG := HG2
      clear HG2
      by_cases hxx : i < xs.length
      · have hlt2 : (i : Int) < xs.length := by omega
        have h402 : ¬ (i : Int) < 40 := by omega
        go_wp2_with fail
        have htl : T.length ≤ 41 := by have := HG.out.1.good.ll; omega
        have HWF := hide HG.out.1.good.wf
        have HHK := hide HG.out.1.hk
        have HAT := hide (fun i => (by have := (HG.out.1.good.at6 i).1; omega : (nodeAt T i).attrs.length ≤ 1000000))
        have HL := hide HG.out.2
        clear HG
        have HPA := hide (parent_q HWF.out (by omega) n HL.out.own)
        have HV0 := hide (valueZ_p HWF.out (by omega) HAT.out pb 0 HL.out.own)
        have HAL := hide alive_p
        rcases parentZ_cases HWF.out n with hpz | ⟨m, p, i0, rfl, hpz, hp, hm, hi0, he0⟩
        · rw [hpz] at HPA
          rcases remove_none hpz with hrn | hrn
          · clear hpz
            go_wp2_with fail
            refine HPA.out.mono ?_
            rintro e y1 ⟨rfl, rfl⟩
            go_wp2_with fail
            refine HV0.out.mono ?_
            rintro e y2 ⟨⟨vs, rfl, hN⟩, b2⟩
            obtain ⟨q1, q2, q3, q4, q5, q6, q7, q8, q9, q10, rfl⟩ := hN.form
            have HBX := hide (Box.new b2 hN 41)
            have HB0 := hide (Bk.startA HL.out b2 (.cells #[.int .i64 q1, .int .i64 q2, .string q3, .slice q4 q5 q6, .string q7, .slice q8 q9 q10] 41))
            have HRM := hide (bk_remove HWF.out (by omega) n HB0.out)
            rw [hrn] at HRM
            go_wp2_with fail
            clear hN b2 hrn
            rw [show ([.int .i64 q1, .int .i64 q2, .string q3, .slice q4 q5 q6, .string q7, .slice q8 q9 q10] : List Value).toArray = #[.int .i64 q1, .int .i64 q2, .string q3, .slice q4 q5 q6, .string q7, .slice q8 q9 q10] from rfl] at HBX
            generalize (y2.alloc (.cells #[.int .i64 q1, .int .i64 q2, .string q3, .slice q4 q5 q6, .string q7, .slice q8 q9 q10] 41)) = Y at *
            generalize y2.heap.size = qb at *
            have HC := hide (fun W (h : Bk w.heap.size y1.heap.size Y.heap.size w Y pb W T) => HBX.out.six h)
            have HV := hide (fun W (h : Bk w.heap.size y1.heap.size Y.heap.size w Y pb W T) => valueZ_p HWF.out (by omega) HAT.out pb 0 h.own)
            have HSM := hide (fun W va (B : Nat → Prop) (hB : ∀ k, B k → k < W.heap.size) (h : Bk w.heap.size y1.heap.size Y.heap.size w Y pb W T) (hA : IsN B W (valueZ T 0) va) => bk_same (okT_valueZ HWF.out (by omega) HAT.out 0) h hB hA HBX.out.node)
            refine HRM.out.mono ?_
            rintro e y3 ⟨rfl, hb3⟩
            have HBD := hide (hb3.on (Below.refl y3.heap.size y3 |>.drew))
            clear hb3
            go_wp2_with fail
            go_region_held2 (fun W' => W'.cell? ⟨qb, 0, none⟩ = some (.int .i64 q1) ∧ W'.cell? ⟨qb, 1, none⟩ = some (.int .i64 q2) ∧ W'.cell? ⟨qb, 2, none⟩ = some (.string q3) ∧ W'.cell? ⟨qb, 3, none⟩ = some (.slice q4 q5 q6) ∧ W'.cell? ⟨qb, 4, none⟩ = some (.string q7) ∧ W'.cell? ⟨qb, 5, none⟩ = some (.slice q8 q9 q10)) (first | with_reducible exact HC.out _ HBD.out | with_reducible exact HC.out _ HB1.out | with_reducible exact HC.out _ HB2.out | with_reducible exact HC.out _ HB3.out) (first | (go_at_call 22; refine (HAL.out _).mono ?_; rintro e z1 ⟨rfl, b1⟩; have HB1 := hide (HBD.out.on b1); clear b1) | (go_at_call 15; refine (HV.out _ HB1.out).mono ?_; rintro e z2 ⟨⟨vs, rfl, hN⟩, b2⟩; have HB2 := hide (HB1.out.on b2); have HS := hide (HSM.out _ vs _ (fun k hk => hk.2) HB2.out (IsN.tight _ _ hN)); obtain ⟨r1, r2, r3, r4, r5, r6, r7, r8, r9, r10, rfl⟩ := hN.form; clear b2 hN) | (go_at_call 14; refine HS.out.mono ?_; rintro e z3 ⟨rfl, b3⟩; have HB3 := hide (HB2.out.on b3); clear b3))
            all_goals
              go_wp2
              go_ret
              exact ⟨rfl, HB3.out.bel⟩
          · clear hpz
            go_wp2_with fail
            refine HPA.out.mono ?_
            rintro e y1 ⟨rfl, rfl⟩
            go_wp2_with fail
            refine HV0.out.mono ?_
            rintro e y2 ⟨⟨vs, rfl, hN⟩, b2⟩
            obtain ⟨q1, q2, q3, q4, q5, q6, q7, q8, q9, q10, rfl⟩ := hN.form
            have HBX := hide (Box.new b2 hN 41)
            have HB0 := hide (Bk.startA HL.out b2 (.cells #[.int .i64 q1, .int .i64 q2, .string q3, .slice q4 q5 q6, .string q7, .slice q8 q9 q10] 41))
            have HRM := hide (bk_remove HWF.out (by omega) n HB0.out)
            rw [hrn] at HRM
            go_wp2_with fail
            clear hN b2 hrn
            rw [show ([.int .i64 q1, .int .i64 q2, .string q3, .slice q4 q5 q6, .string q7, .slice q8 q9 q10] : List Value).toArray = #[.int .i64 q1, .int .i64 q2, .string q3, .slice q4 q5 q6, .string q7, .slice q8 q9 q10] from rfl] at HBX
            generalize (y2.alloc (.cells #[.int .i64 q1, .int .i64 q2, .string q3, .slice q4 q5 q6, .string q7, .slice q8 q9 q10] 41)) = Y at *
            generalize y2.heap.size = qb at *
            have HC := hide (fun W (h : Bk w.heap.size y1.heap.size Y.heap.size w Y pb W T) => HBX.out.six h)
            have HV := hide (fun W (h : Bk w.heap.size y1.heap.size Y.heap.size w Y pb W T) => valueZ_p HWF.out (by omega) HAT.out pb 0 h.own)
            have HSM := hide (fun W va (B : Nat → Prop) (hB : ∀ k, B k → k < W.heap.size) (h : Bk w.heap.size y1.heap.size Y.heap.size w Y pb W T) (hA : IsN B W (valueZ T 0) va) => bk_same (okT_valueZ HWF.out (by omega) HAT.out 0) h hB hA HBX.out.node)
            refine HRM.out.mono ?_
            rintro e y3 ⟨rfl, hb3⟩
            have HBD := hide (hb3.on (Below.refl y3.heap.size y3 |>.drew))
            clear hb3
            go_wp2_with fail
            go_region_held2 (fun W' => W'.cell? ⟨qb, 0, none⟩ = some (.int .i64 q1) ∧ W'.cell? ⟨qb, 1, none⟩ = some (.int .i64 q2) ∧ W'.cell? ⟨qb, 2, none⟩ = some (.string q3) ∧ W'.cell? ⟨qb, 3, none⟩ = some (.slice q4 q5 q6) ∧ W'.cell? ⟨qb, 4, none⟩ = some (.string q7) ∧ W'.cell? ⟨qb, 5, none⟩ = some (.slice q8 q9 q10)) (first | with_reducible exact HC.out _ HBD.out | with_reducible exact HC.out _ HB1.out | with_reducible exact HC.out _ HB2.out | with_reducible exact HC.out _ HB3.out) (first | (go_at_call 22; refine (HAL.out _).mono ?_; rintro e z1 ⟨rfl, b1⟩; have HB1 := hide (HBD.out.on b1); clear b1) | (go_at_call 15; refine (HV.out _ HB1.out).mono ?_; rintro e z2 ⟨⟨vs, rfl, hN⟩, b2⟩; have HB2 := hide (HB1.out.on b2); have HS := hide (HSM.out _ vs _ (fun k hk => hk.2) HB2.out (IsN.tight _ _ hN)); obtain ⟨r1, r2, r3, r4, r5, r6, r7, r8, r9, r10, rfl⟩ := hN.form; clear b2 hN) | (go_at_call 14; refine HS.out.mono ?_; rintro e z3 ⟨rfl, b3⟩; have HB3 := hide (HB2.out.on b3); clear b3))
            all_goals
              go_wp2
              go_ret
              exact ⟨rfl, HB3.out.bel⟩
        · rw [hpz] at HPA
          have hp0 : ¬ (p : Int) < 0 := by omega
          have HBA := hide (back_at HWF.out HHK.out hi0 he0)
          have HPQ := hide (fun W (h : Liv w.heap.size w W pb T) => parent_q HWF.out (by omega) (m : Int) h.own)
          have hkl : (kidsAt T p).length ≤ 41 := by have := HWF.out.kids_len p; omega
          go_wp2_with fail
          refine HPA.out.mono ?_
          rintro e y1 ⟨rfl, rfl⟩
          go_wp2_with fail
          refine HV0.out.mono ?_
          rintro e y2 ⟨⟨vs, rfl, hN⟩, b2⟩
          obtain ⟨q1, q2, q3, q4, q5, q6, q7, q8, q9, q10, rfl⟩ := hN.form
          have HBX := hide (Box.new b2 hN 41)
          have HW1 := hide (b2.trans ((below_alloc y2 (.cells #[.int .i64 q1, .int .i64 q2, .string q3, .slice q4 q5 q6, .string q7, .slice q8 q9 q10] 41)).mono b2.size))
          go_wp2_with fail
          clear hN b2
          rw [show ([.int .i64 q1, .int .i64 q2, .string q3, .slice q4 q5 q6, .string q7, .slice q8 q9 q10] : List Value).toArray = #[.int .i64 q1, .int .i64 q2, .string q3, .slice q4 q5 q6, .string q7, .slice q8 q9 q10] from rfl] at HBX
          generalize (y2.alloc (.cells #[.int .i64 q1, .int .i64 q2, .string q3, .slice q4 q5 q6, .string q7, .slice q8 q9 q10] 41)) = Y1 at *
          generalize y2.heap.size = qb at *
          have HL1 := hide (HL.out.on HW1.out)
          have HVP := hide (valueZ_p HWF.out (by omega) HAT.out pb (p : Int) HL1.out.own)
          refine HVP.out.mono ?_
          rintro e y3 ⟨⟨vs, rfl, hN⟩, b3⟩
          obtain ⟨s1, s2, s3, s4, s5, s6, s7, s8, s9, s10, rfl⟩ := hN.form
          have HBY := hide (Box.new b3 hN 41)
          have HW3 := hide (b3.trans ((below_alloc y3 (.cells #[.int .i64 s1, .int .i64 s2, .string s3, .slice s4 s5 s6, .string s7, .slice s8 s9 s10] 41)).mono b3.size))
          go_wp2_with fail
          clear hN b3
          rw [show ([.int .i64 s1, .int .i64 s2, .string s3, .slice s4 s5 s6, .string s7, .slice s8 s9 s10] : List Value).toArray = #[.int .i64 s1, .int .i64 s2, .string s3, .slice s4 s5 s6, .string s7, .slice s8 s9 s10] from rfl] at HBY
          generalize (y3.alloc (.cells #[.int .i64 s1, .int .i64 s2, .string s3, .slice s4 s5 s6, .string s7, .slice s8 s9 s10] 41)) = Y3 at *
          generalize y3.heap.size = qc at *
          have HL3 := hide (HL1.out.on HW3.out)
          have HKI := hide (kids_p HWF.out (by omega) (p : Int) HL3.out.own)
          rw [show kidsZ T (p : Int) = kidsAt T p by unfold kidsZ; rw [if_pos ⟨by omega, by omega⟩, Int.toNat_natCast]] at HKI
          refine HKI.out.mono ?_
          rintro e y4 ⟨⟨v', rfl, ho⟩, b4⟩
          obtain ⟨kb, ko, kc, rfl, hkb, hkb2, hkc⟩ := kids_row ho (by omega)
          have HW4 := hide (HW1.out.trans ((HW3.out.trans (b4.mono HW3.out.size)).mono HW1.out.size))
          have HB0 := hide (Bk.start HL.out HW4.out)
          have HBXX := hide (HBX.out.on (s1 := y1.heap.size) (s3 := y4.heap.size) (HW3.out.trans (b4.mono HW3.out.size)) (Nat.le_refl _) (Nat.le_refl _) (Nat.le_trans HW3.out.size b4.size))
          have HBYY := hide (HBY.out.on (s1 := y1.heap.size) (s3 := y4.heap.size) b4 (Nat.le_refl _) HW1.out.size b4.size)
          have HC := hide (fun W (h : Bk w.heap.size y1.heap.size y4.heap.size w y4 pb W T) => And.intro (HBYY.out.six h) (HBXX.out.six h))
          have HVZ := hide (fun W (h : Bk w.heap.size y1.heap.size y4.heap.size w y4 pb W T) => valueZ_p HWF.out (by omega) HAT.out pb 0 h.own)
          have HVQ := hide (fun W (h : Bk w.heap.size y1.heap.size y4.heap.size w y4 pb W T) => valueZ_p HWF.out (by omega) HAT.out pb (p : Int) h.own)
          have HSZ := hide (fun W va (B : Nat → Prop) (hB : ∀ k, B k → k < W.heap.size) (h : Bk w.heap.size y1.heap.size y4.heap.size w y4 pb W T) (hA : IsN B W (valueZ T 0) va) => bk_same (okT_valueZ HWF.out (by omega) HAT.out 0) h hB hA HBXX.out.node)
          have HSQ := hide (fun W va (B : Nat → Prop) (hB : ∀ k, B k → k < W.heap.size) (h : Bk w.heap.size y1.heap.size y4.heap.size w y4 pb W T) (hA : IsN B W (valueZ T (p : Int)) va) => bk_same (okT_valueZ HWF.out (by omega) HAT.out (p : Int)) h hB hA HBYY.out.node)
          have HRM := hide (fun W (h : Bk w.heap.size y1.heap.size y4.heap.size w y4 pb W T) => bk_remove HWF.out (by omega) (m : Int) h)
          rw [HBA.out.1] at HRM
          have HAP := hide (fun W (h : Bk w.heap.size y1.heap.size y4.heap.size w y4 pb W T) => bk_append HWF.out (by omega) (m : Int) 0 h)
          rw [HBA.out.2.1] at HAP
          have HBE := hide (fun x W (h : Bk w.heap.size y1.heap.size y4.heap.size w y4 pb W (outL T m)) => bk_before (HWF.out.out m) (by rw [out_len]; omega) x (m : Int) h)
          have HAE := hide (fun W (h : Bk w.heap.size y1.heap.size y4.heap.size w y4 pb W (outL T m)) => bk_append (HWF.out.out m) (by rw [out_len]; omega) (p : Int) (m : Int) h)
          replace HPQ := hide (fun W (h : Bk w.heap.size y1.heap.size y4.heap.size w y4 pb W T) => parent_q HWF.out (by omega) (m : Int) h.own)
          rw [hpz] at HPQ
          have hkb3 : y1.heap.size ≤ kb := Nat.le_trans (Nat.le_trans HW1.out.size HW3.out.size) hkb
          have HKC := hide (fun U W (h : Bk w.heap.size y1.heap.size y4.heap.size w y4 pb W U) j (hj : j < (kidsAt T p).length) => h.cell (hkc j hj) hkb3 hkb2)
          have HKN := hide (fun j (hj : j < (kidsAt T p).length) (hne : j < i0) => fun e : (kidsAt T p)[j] = m => by have := (List.getElem_inj (HWF.out.nodup p)).1 (e.trans he0.symm); omega)
          have HE0 := hide he0
          clear ho b4 hkc hkb hkb2 hkb3 he0 HBX HBY HW1 HW3 HW4 HL1 HL3 HKI HVP HV0 HPA HL HBXX HBYY hpz
          generalize kidsAt T p = ks at *
          go_wp2_with fail
          go_loopw [12] (fun v12 wr2 => ∃ j : Nat, v12 = .int .i64 (j : Int) ∧ j ≤ i0 ∧ Hid (Bk w.heap.size y1.heap.size y4.heap.size w y4 pb wr2 T)) (fun v12 _ => i0 - (intOf v12).toNat)
          case atStart => exact ⟨0, rfl, by omega, HB0⟩
          case round =>
            clear HB0
            obtain ⟨j, rfl, hj, HBR⟩ := hrel
            generalize wr = wr2 at *
            have hjl : j < ks.length := by omega
            have hjl2 : (j : Int) < ks.length := by omega
            have ck := HKC.out _ _ HBR.out j hjl
            by_cases hji : j < i0
            · have hne := HKN.out j hjl hji
              have hne2 : ¬ (ks[j] : Int) = (m : Int) := by omega
              have hne3 : ((ks[j] : Int) == (m : Int)) = false := beq_eq_false_iff_ne.2 hne2
              clear hne
              generalize ks[j] = z at *
              go_wp2
              go_roundw
              case rel => exact ⟨j + 1, by go_num, by omega, HBR⟩
              case measure => simp [intOf]; omega
            · have hje : j = i0 := by omega
              subst hje
              rw [HE0.out] at ck
              have hnl : ¬ (j : Int) = (ks.length : Int) := by omega
              have hnl2 : ((j : Int) == (ks.length : Int)) = false := beq_eq_false_iff_ne.2 hnl
              go_wp2_with fail
              refine (HRM.out _ HBR.out).mono ?_
              rintro e y5 ⟨rfl, hb5⟩
              have HB5 := hide hb5
              clear hb5 ck
              by_cases h1 : j + 1 < ks.length
              · have h12 : (j : Int) + 1 < ks.length := by omega
                have ck1 := HKC.out _ _ HB5.out (j + 1) h1
                have HBF := hide (HBE.out (ks[j + 1] : Int) _ HB5.out)
                rw [HBA.out.2.2.1 h1] at HBF
                generalize ks[j + 1] = z at *
                go_wp2_with fail
                refine HBF.out.mono ?_
                rintro e y7 ⟨rfl, hb7⟩
                have HBT := hide hb7
                clear hb7 ck1 HB5 HBF HBR
                go_wp2_with fail
                refine (HAP.out _ HBT.out).mono ?_
                rintro e y8 ⟨rfl, hb8⟩
                have HBD := hide (hb8.on (Below.refl y8.heap.size y8 |>.drew))
                clear hb8
                go_wp2_with fail
                go_region_held2 (fun W' => (W'.cell? ⟨qc, 0, none⟩ = some (.int .i64 s1) ∧ W'.cell? ⟨qc, 1, none⟩ = some (.int .i64 s2) ∧ W'.cell? ⟨qc, 2, none⟩ = some (.string s3) ∧ W'.cell? ⟨qc, 3, none⟩ = some (.slice s4 s5 s6) ∧ W'.cell? ⟨qc, 4, none⟩ = some (.string s7) ∧ W'.cell? ⟨qc, 5, none⟩ = some (.slice s8 s9 s10)) ∧ W'.cell? ⟨qb, 0, none⟩ = some (.int .i64 q1) ∧ W'.cell? ⟨qb, 1, none⟩ = some (.int .i64 q2) ∧ W'.cell? ⟨qb, 2, none⟩ = some (.string q3) ∧ W'.cell? ⟨qb, 3, none⟩ = some (.slice q4 q5 q6) ∧ W'.cell? ⟨qb, 4, none⟩ = some (.string q7) ∧ W'.cell? ⟨qb, 5, none⟩ = some (.slice q8 q9 q10)) (first | with_reducible exact HC.out _ HBD.out | with_reducible exact HC.out _ HB1.out | with_reducible exact HC.out _ HB2.out | with_reducible exact HC.out _ HB3.out | with_reducible exact HC.out _ HB4.out | with_reducible exact HC.out _ HB5.out) (first | (go_at_call 22; refine (HAL.out _).mono ?_; rintro e z1 ⟨rfl, b1⟩; have HB1 := hide (HBD.out.on b1); clear b1) | (go_at_call 15; refine (HVQ.out _ HB1.out).mono ?_; rintro e z2 ⟨⟨vs, rfl, hN⟩, b2⟩; have HB2 := hide (HB1.out.on b2); have HSA := hide (HSQ.out _ vs _ (fun k hk => hk.2) HB2.out (IsN.tight _ _ hN)); obtain ⟨r1, r2, r3, r4, r5, r6, r7, r8, r9, r10, rfl⟩ := hN.form; clear b2 hN HB1) | (go_at_call 14; refine HSA.out.mono ?_; rintro e z3 ⟨rfl, b3⟩; have HB3 := hide (HB2.out.on b3); clear b3 HSA HB2) | (go_at_call 15; refine (HVZ.out _ HB3.out).mono ?_; rintro e z4 ⟨⟨vs, rfl, hN⟩, b4⟩; have HB4 := hide (HB3.out.on b4); have HSB := hide (HSZ.out _ vs _ (fun k hk => hk.2) HB4.out (IsN.tight _ _ hN)); obtain ⟨t1, t2, t3, t4, t5, t6, t7, t8, t9, t10, rfl⟩ := hN.form; clear b4 hN HB3) | (go_at_call 14; refine HSB.out.mono ?_; rintro e z5 ⟨rfl, b5⟩; have HB5 := hide (HB4.out.on b5); clear b5) | (go_at_call 18; refine (HPQ.out _ HB5.out).mono ?_; rintro e z6 ⟨rfl, rfl⟩))
                all_goals
                  go_wp2
                  go_ret
                  exact ⟨by simp, HB5.out.bel⟩
              · have h12 : ¬ (j : Int) + 1 < ks.length := by omega
                have HBF := hide (HAE.out _ HB5.out)
                rw [HBA.out.2.2.2 h1] at HBF
                go_wp2_with fail
                refine HBF.out.mono ?_
                rintro e y7 ⟨rfl, hb7⟩
                have HBT := hide hb7
                clear hb7 HB5 HBF HBR
                go_wp2_with fail
                refine (HAP.out _ HBT.out).mono ?_
                rintro e y8 ⟨rfl, hb8⟩
                have HBD := hide (hb8.on (Below.refl y8.heap.size y8 |>.drew))
                clear hb8
                go_wp2_with fail
                go_region_held2 (fun W' => (W'.cell? ⟨qc, 0, none⟩ = some (.int .i64 s1) ∧ W'.cell? ⟨qc, 1, none⟩ = some (.int .i64 s2) ∧ W'.cell? ⟨qc, 2, none⟩ = some (.string s3) ∧ W'.cell? ⟨qc, 3, none⟩ = some (.slice s4 s5 s6) ∧ W'.cell? ⟨qc, 4, none⟩ = some (.string s7) ∧ W'.cell? ⟨qc, 5, none⟩ = some (.slice s8 s9 s10)) ∧ W'.cell? ⟨qb, 0, none⟩ = some (.int .i64 q1) ∧ W'.cell? ⟨qb, 1, none⟩ = some (.int .i64 q2) ∧ W'.cell? ⟨qb, 2, none⟩ = some (.string q3) ∧ W'.cell? ⟨qb, 3, none⟩ = some (.slice q4 q5 q6) ∧ W'.cell? ⟨qb, 4, none⟩ = some (.string q7) ∧ W'.cell? ⟨qb, 5, none⟩ = some (.slice q8 q9 q10)) (first | with_reducible exact HC.out _ HBD.out | with_reducible exact HC.out _ HB1.out | with_reducible exact HC.out _ HB2.out | with_reducible exact HC.out _ HB3.out | with_reducible exact HC.out _ HB4.out | with_reducible exact HC.out _ HB5.out) (first | (go_at_call 22; refine (HAL.out _).mono ?_; rintro e z1 ⟨rfl, b1⟩; have HB1 := hide (HBD.out.on b1); clear b1) | (go_at_call 15; refine (HVQ.out _ HB1.out).mono ?_; rintro e z2 ⟨⟨vs, rfl, hN⟩, b2⟩; have HB2 := hide (HB1.out.on b2); have HSA := hide (HSQ.out _ vs _ (fun k hk => hk.2) HB2.out (IsN.tight _ _ hN)); obtain ⟨r1, r2, r3, r4, r5, r6, r7, r8, r9, r10, rfl⟩ := hN.form; clear b2 hN HB1) | (go_at_call 14; refine HSA.out.mono ?_; rintro e z3 ⟨rfl, b3⟩; have HB3 := hide (HB2.out.on b3); clear b3 HSA HB2) | (go_at_call 15; refine (HVZ.out _ HB3.out).mono ?_; rintro e z4 ⟨⟨vs, rfl, hN⟩, b4⟩; have HB4 := hide (HB3.out.on b4); have HSB := hide (HSZ.out _ vs _ (fun k hk => hk.2) HB4.out (IsN.tight _ _ hN)); obtain ⟨t1, t2, t3, t4, t5, t6, t7, t8, t9, t10, rfl⟩ := hN.form; clear b4 hN HB3) | (go_at_call 14; refine HSB.out.mono ?_; rintro e z5 ⟨rfl, b5⟩; have HB5 := hide (HB4.out.on b5); clear b5) | (go_at_call 18; refine (HPQ.out _ HB5.out).mono ?_; rintro e z6 ⟨rfl, rfl⟩))
                all_goals
                  go_wp2
                  go_ret
                  exact ⟨by simp, HB5.out.bel⟩
      · have hlt2 : ¬ (i : Int) < xs.length := by omega
        go_wp2_with fail
        have htl : T.length ≤ 41 := by have := HG.out.1.good.ll; omega
        have HWF := hide HG.out.1.good.wf
        have HHK := hide HG.out.1.hk
        have HAT := hide (fun i => (by have := (HG.out.1.good.at6 i).1; omega : (nodeAt T i).attrs.length ≤ 1000000))
        have HL := hide HG.out.2
        clear HG
        have HPA := hide (parent_q HWF.out (by omega) n HL.out.own)
        have HV0 := hide (valueZ_p HWF.out (by omega) HAT.out pb 0 HL.out.own)
        have HAL := hide alive_p
        rcases parentZ_cases HWF.out n with hpz | ⟨m, p, i0, rfl, hpz, hp, hm, hi0, he0⟩
        · rw [hpz] at HPA
          rcases remove_none hpz with hrn | hrn
          · clear hpz
            go_wp2_with fail
            refine HPA.out.mono ?_
            rintro e y1 ⟨rfl, rfl⟩
            go_wp2_with fail
            refine HV0.out.mono ?_
            rintro e y2 ⟨⟨vs, rfl, hN⟩, b2⟩
            obtain ⟨q1, q2, q3, q4, q5, q6, q7, q8, q9, q10, rfl⟩ := hN.form
            have HBX := hide (Box.new b2 hN 41)
            have HB0 := hide (Bk.startA HL.out b2 (.cells #[.int .i64 q1, .int .i64 q2, .string q3, .slice q4 q5 q6, .string q7, .slice q8 q9 q10] 41))
            have HRM := hide (bk_remove HWF.out (by omega) n HB0.out)
            rw [hrn] at HRM
            go_wp2_with fail
            clear hN b2 hrn
            rw [show ([.int .i64 q1, .int .i64 q2, .string q3, .slice q4 q5 q6, .string q7, .slice q8 q9 q10] : List Value).toArray = #[.int .i64 q1, .int .i64 q2, .string q3, .slice q4 q5 q6, .string q7, .slice q8 q9 q10] from rfl] at HBX
            generalize (y2.alloc (.cells #[.int .i64 q1, .int .i64 q2, .string q3, .slice q4 q5 q6, .string q7, .slice q8 q9 q10] 41)) = Y at *
            generalize y2.heap.size = qb at *
            have HC := hide (fun W (h : Bk w.heap.size y1.heap.size Y.heap.size w Y pb W T) => HBX.out.six h)
            have HV := hide (fun W (h : Bk w.heap.size y1.heap.size Y.heap.size w Y pb W T) => valueZ_p HWF.out (by omega) HAT.out pb 0 h.own)
            have HSM := hide (fun W va (B : Nat → Prop) (hB : ∀ k, B k → k < W.heap.size) (h : Bk w.heap.size y1.heap.size Y.heap.size w Y pb W T) (hA : IsN B W (valueZ T 0) va) => bk_same (okT_valueZ HWF.out (by omega) HAT.out 0) h hB hA HBX.out.node)
            refine HRM.out.mono ?_
            rintro e y3 ⟨rfl, hb3⟩
            have HBD := hide (hb3.on (Below.refl y3.heap.size y3 |>.drew))
            clear hb3
            go_wp2_with fail
            go_region_held2 (fun W' => W'.cell? ⟨qb, 0, none⟩ = some (.int .i64 q1) ∧ W'.cell? ⟨qb, 1, none⟩ = some (.int .i64 q2) ∧ W'.cell? ⟨qb, 2, none⟩ = some (.string q3) ∧ W'.cell? ⟨qb, 3, none⟩ = some (.slice q4 q5 q6) ∧ W'.cell? ⟨qb, 4, none⟩ = some (.string q7) ∧ W'.cell? ⟨qb, 5, none⟩ = some (.slice q8 q9 q10)) (first | with_reducible exact HC.out _ HBD.out | with_reducible exact HC.out _ HB1.out | with_reducible exact HC.out _ HB2.out | with_reducible exact HC.out _ HB3.out) (first | (go_at_call 22; refine (HAL.out _).mono ?_; rintro e z1 ⟨rfl, b1⟩; have HB1 := hide (HBD.out.on b1); clear b1) | (go_at_call 15; refine (HV.out _ HB1.out).mono ?_; rintro e z2 ⟨⟨vs, rfl, hN⟩, b2⟩; have HB2 := hide (HB1.out.on b2); have HS := hide (HSM.out _ vs _ (fun k hk => hk.2) HB2.out (IsN.tight _ _ hN)); obtain ⟨r1, r2, r3, r4, r5, r6, r7, r8, r9, r10, rfl⟩ := hN.form; clear b2 hN) | (go_at_call 14; refine HS.out.mono ?_; rintro e z3 ⟨rfl, b3⟩; have HB3 := hide (HB2.out.on b3); clear b3))
            all_goals
              go_wp2
              go_ret
              exact ⟨rfl, HB3.out.bel⟩
          · clear hpz
            go_wp2_with fail
            refine HPA.out.mono ?_
            rintro e y1 ⟨rfl, rfl⟩
            go_wp2_with fail
            refine HV0.out.mono ?_
            rintro e y2 ⟨⟨vs, rfl, hN⟩, b2⟩
            obtain ⟨q1, q2, q3, q4, q5, q6, q7, q8, q9, q10, rfl⟩ := hN.form
            have HBX := hide (Box.new b2 hN 41)
            have HB0 := hide (Bk.startA HL.out b2 (.cells #[.int .i64 q1, .int .i64 q2, .string q3, .slice q4 q5 q6, .string q7, .slice q8 q9 q10] 41))
            have HRM := hide (bk_remove HWF.out (by omega) n HB0.out)
            rw [hrn] at HRM
            go_wp2_with fail
            clear hN b2 hrn
            rw [show ([.int .i64 q1, .int .i64 q2, .string q3, .slice q4 q5 q6, .string q7, .slice q8 q9 q10] : List Value).toArray = #[.int .i64 q1, .int .i64 q2, .string q3, .slice q4 q5 q6, .string q7, .slice q8 q9 q10] from rfl] at HBX
            generalize (y2.alloc (.cells #[.int .i64 q1, .int .i64 q2, .string q3, .slice q4 q5 q6, .string q7, .slice q8 q9 q10] 41)) = Y at *
            generalize y2.heap.size = qb at *
            have HC := hide (fun W (h : Bk w.heap.size y1.heap.size Y.heap.size w Y pb W T) => HBX.out.six h)
            have HV := hide (fun W (h : Bk w.heap.size y1.heap.size Y.heap.size w Y pb W T) => valueZ_p HWF.out (by omega) HAT.out pb 0 h.own)
            have HSM := hide (fun W va (B : Nat → Prop) (hB : ∀ k, B k → k < W.heap.size) (h : Bk w.heap.size y1.heap.size Y.heap.size w Y pb W T) (hA : IsN B W (valueZ T 0) va) => bk_same (okT_valueZ HWF.out (by omega) HAT.out 0) h hB hA HBX.out.node)
            refine HRM.out.mono ?_
            rintro e y3 ⟨rfl, hb3⟩
            have HBD := hide (hb3.on (Below.refl y3.heap.size y3 |>.drew))
            clear hb3
            go_wp2_with fail
            go_region_held2 (fun W' => W'.cell? ⟨qb, 0, none⟩ = some (.int .i64 q1) ∧ W'.cell? ⟨qb, 1, none⟩ = some (.int .i64 q2) ∧ W'.cell? ⟨qb, 2, none⟩ = some (.string q3) ∧ W'.cell? ⟨qb, 3, none⟩ = some (.slice q4 q5 q6) ∧ W'.cell? ⟨qb, 4, none⟩ = some (.string q7) ∧ W'.cell? ⟨qb, 5, none⟩ = some (.slice q8 q9 q10)) (first | with_reducible exact HC.out _ HBD.out | with_reducible exact HC.out _ HB1.out | with_reducible exact HC.out _ HB2.out | with_reducible exact HC.out _ HB3.out) (first | (go_at_call 22; refine (HAL.out _).mono ?_; rintro e z1 ⟨rfl, b1⟩; have HB1 := hide (HBD.out.on b1); clear b1) | (go_at_call 15; refine (HV.out _ HB1.out).mono ?_; rintro e z2 ⟨⟨vs, rfl, hN⟩, b2⟩; have HB2 := hide (HB1.out.on b2); have HS := hide (HSM.out _ vs _ (fun k hk => hk.2) HB2.out (IsN.tight _ _ hN)); obtain ⟨r1, r2, r3, r4, r5, r6, r7, r8, r9, r10, rfl⟩ := hN.form; clear b2 hN) | (go_at_call 14; refine HS.out.mono ?_; rintro e z3 ⟨rfl, b3⟩; have HB3 := hide (HB2.out.on b3); clear b3))
            all_goals
              go_wp2
              go_ret
              exact ⟨rfl, HB3.out.bel⟩
        · rw [hpz] at HPA
          have hp0 : ¬ (p : Int) < 0 := by omega
          have HBA := hide (back_at HWF.out HHK.out hi0 he0)
          have HPQ := hide (fun W (h : Liv w.heap.size w W pb T) => parent_q HWF.out (by omega) (m : Int) h.own)
          have hkl : (kidsAt T p).length ≤ 41 := by have := HWF.out.kids_len p; omega
          go_wp2_with fail
          refine HPA.out.mono ?_
          rintro e y1 ⟨rfl, rfl⟩
          go_wp2_with fail
          refine HV0.out.mono ?_
          rintro e y2 ⟨⟨vs, rfl, hN⟩, b2⟩
          obtain ⟨q1, q2, q3, q4, q5, q6, q7, q8, q9, q10, rfl⟩ := hN.form
          have HBX := hide (Box.new b2 hN 41)
          have HW1 := hide (b2.trans ((below_alloc y2 (.cells #[.int .i64 q1, .int .i64 q2, .string q3, .slice q4 q5 q6, .string q7, .slice q8 q9 q10] 41)).mono b2.size))
          go_wp2_with fail
          clear hN b2
          rw [show ([.int .i64 q1, .int .i64 q2, .string q3, .slice q4 q5 q6, .string q7, .slice q8 q9 q10] : List Value).toArray = #[.int .i64 q1, .int .i64 q2, .string q3, .slice q4 q5 q6, .string q7, .slice q8 q9 q10] from rfl] at HBX
          generalize (y2.alloc (.cells #[.int .i64 q1, .int .i64 q2, .string q3, .slice q4 q5 q6, .string q7, .slice q8 q9 q10] 41)) = Y1 at *
          generalize y2.heap.size = qb at *
          have HL1 := hide (HL.out.on HW1.out)
          have HVP := hide (valueZ_p HWF.out (by omega) HAT.out pb (p : Int) HL1.out.own)
          refine HVP.out.mono ?_
          rintro e y3 ⟨⟨vs, rfl, hN⟩, b3⟩
          obtain ⟨s1, s2, s3, s4, s5, s6, s7, s8, s9, s10, rfl⟩ := hN.form
          have HBY := hide (Box.new b3 hN 41)
          have HW3 := hide (b3.trans ((below_alloc y3 (.cells #[.int .i64 s1, .int .i64 s2, .string s3, .slice s4 s5 s6, .string s7, .slice s8 s9 s10] 41)).mono b3.size))
          go_wp2_with fail
          clear hN b3
          rw [show ([.int .i64 s1, .int .i64 s2, .string s3, .slice s4 s5 s6, .string s7, .slice s8 s9 s10] : List Value).toArray = #[.int .i64 s1, .int .i64 s2, .string s3, .slice s4 s5 s6, .string s7, .slice s8 s9 s10] from rfl] at HBY
          generalize (y3.alloc (.cells #[.int .i64 s1, .int .i64 s2, .string s3, .slice s4 s5 s6, .string s7, .slice s8 s9 s10] 41)) = Y3 at *
          generalize y3.heap.size = qc at *
          have HL3 := hide (HL1.out.on HW3.out)
          have HKI := hide (kids_p HWF.out (by omega) (p : Int) HL3.out.own)
          rw [show kidsZ T (p : Int) = kidsAt T p by unfold kidsZ; rw [if_pos ⟨by omega, by omega⟩, Int.toNat_natCast]] at HKI
          refine HKI.out.mono ?_
          rintro e y4 ⟨⟨v', rfl, ho⟩, b4⟩
          obtain ⟨kb, ko, kc, rfl, hkb, hkb2, hkc⟩ := kids_row ho (by omega)
          have HW4 := hide (HW1.out.trans ((HW3.out.trans (b4.mono HW3.out.size)).mono HW1.out.size))
          have HB0 := hide (Bk.start HL.out HW4.out)
          have HBXX := hide (HBX.out.on (s1 := y1.heap.size) (s3 := y4.heap.size) (HW3.out.trans (b4.mono HW3.out.size)) (Nat.le_refl _) (Nat.le_refl _) (Nat.le_trans HW3.out.size b4.size))
          have HBYY := hide (HBY.out.on (s1 := y1.heap.size) (s3 := y4.heap.size) b4 (Nat.le_refl _) HW1.out.size b4.size)
          have HC := hide (fun W (h : Bk w.heap.size y1.heap.size y4.heap.size w y4 pb W T) => And.intro (HBYY.out.six h) (HBXX.out.six h))
          have HVZ := hide (fun W (h : Bk w.heap.size y1.heap.size y4.heap.size w y4 pb W T) => valueZ_p HWF.out (by omega) HAT.out pb 0 h.own)
          have HVQ := hide (fun W (h : Bk w.heap.size y1.heap.size y4.heap.size w y4 pb W T) => valueZ_p HWF.out (by omega) HAT.out pb (p : Int) h.own)
          have HSZ := hide (fun W va (B : Nat → Prop) (hB : ∀ k, B k → k < W.heap.size) (h : Bk w.heap.size y1.heap.size y4.heap.size w y4 pb W T) (hA : IsN B W (valueZ T 0) va) => bk_same (okT_valueZ HWF.out (by omega) HAT.out 0) h hB hA HBXX.out.node)
          have HSQ := hide (fun W va (B : Nat → Prop) (hB : ∀ k, B k → k < W.heap.size) (h : Bk w.heap.size y1.heap.size y4.heap.size w y4 pb W T) (hA : IsN B W (valueZ T (p : Int)) va) => bk_same (okT_valueZ HWF.out (by omega) HAT.out (p : Int)) h hB hA HBYY.out.node)
          have HRM := hide (fun W (h : Bk w.heap.size y1.heap.size y4.heap.size w y4 pb W T) => bk_remove HWF.out (by omega) (m : Int) h)
          rw [HBA.out.1] at HRM
          have HAP := hide (fun W (h : Bk w.heap.size y1.heap.size y4.heap.size w y4 pb W T) => bk_append HWF.out (by omega) (m : Int) 0 h)
          rw [HBA.out.2.1] at HAP
          have HBE := hide (fun x W (h : Bk w.heap.size y1.heap.size y4.heap.size w y4 pb W (outL T m)) => bk_before (HWF.out.out m) (by rw [out_len]; omega) x (m : Int) h)
          have HAE := hide (fun W (h : Bk w.heap.size y1.heap.size y4.heap.size w y4 pb W (outL T m)) => bk_append (HWF.out.out m) (by rw [out_len]; omega) (p : Int) (m : Int) h)
          replace HPQ := hide (fun W (h : Bk w.heap.size y1.heap.size y4.heap.size w y4 pb W T) => parent_q HWF.out (by omega) (m : Int) h.own)
          rw [hpz] at HPQ
          have hkb3 : y1.heap.size ≤ kb := Nat.le_trans (Nat.le_trans HW1.out.size HW3.out.size) hkb
          have HKC := hide (fun U W (h : Bk w.heap.size y1.heap.size y4.heap.size w y4 pb W U) j (hj : j < (kidsAt T p).length) => h.cell (hkc j hj) hkb3 hkb2)
          have HKN := hide (fun j (hj : j < (kidsAt T p).length) (hne : j < i0) => fun e : (kidsAt T p)[j] = m => by have := (List.getElem_inj (HWF.out.nodup p)).1 (e.trans he0.symm); omega)
          have HE0 := hide he0
          clear ho b4 hkc hkb hkb2 hkb3 he0 HBX HBY HW1 HW3 HW4 HL1 HL3 HKI HVP HV0 HPA HL HBXX HBYY hpz
          generalize kidsAt T p = ks at *
          go_wp2_with fail
          go_loopw [12] (fun v12 wr2 => ∃ j : Nat, v12 = .int .i64 (j : Int) ∧ j ≤ i0 ∧ Hid (Bk w.heap.size y1.heap.size y4.heap.size w y4 pb wr2 T)) (fun v12 _ => i0 - (intOf v12).toNat)
          case atStart => exact ⟨0, rfl, by omega, HB0⟩
          case round =>
            clear HB0
            obtain ⟨j, rfl, hj, HBR⟩ := hrel
            generalize wr = wr2 at *
            have hjl : j < ks.length := by omega
            have hjl2 : (j : Int) < ks.length := by omega
            have ck := HKC.out _ _ HBR.out j hjl
            by_cases hji : j < i0
            · have hne := HKN.out j hjl hji
              have hne2 : ¬ (ks[j] : Int) = (m : Int) := by omega
              have hne3 : ((ks[j] : Int) == (m : Int)) = false := beq_eq_false_iff_ne.2 hne2
              clear hne
              generalize ks[j] = z at *
              go_wp2
              go_roundw
              case rel => exact ⟨j + 1, by go_num, by omega, HBR⟩
              case measure => simp [intOf]; omega
            · have hje : j = i0 := by omega
              subst hje
              rw [HE0.out] at ck
              have hnl : ¬ (j : Int) = (ks.length : Int) := by omega
              have hnl2 : ((j : Int) == (ks.length : Int)) = false := beq_eq_false_iff_ne.2 hnl
              go_wp2_with fail
              refine (HRM.out _ HBR.out).mono ?_
              rintro e y5 ⟨rfl, hb5⟩
              have HB5 := hide hb5
              clear hb5 ck
              by_cases h1 : j + 1 < ks.length
              · have h12 : (j : Int) + 1 < ks.length := by omega
                have ck1 := HKC.out _ _ HB5.out (j + 1) h1
                have HBF := hide (HBE.out (ks[j + 1] : Int) _ HB5.out)
                rw [HBA.out.2.2.1 h1] at HBF
                generalize ks[j + 1] = z at *
                go_wp2_with fail
                refine HBF.out.mono ?_
                rintro e y7 ⟨rfl, hb7⟩
                have HBT := hide hb7
                clear hb7 ck1 HB5 HBF HBR
                go_wp2_with fail
                refine (HAP.out _ HBT.out).mono ?_
                rintro e y8 ⟨rfl, hb8⟩
                have HBD := hide (hb8.on (Below.refl y8.heap.size y8 |>.drew))
                clear hb8
                go_wp2_with fail
                go_region_held2 (fun W' => (W'.cell? ⟨qc, 0, none⟩ = some (.int .i64 s1) ∧ W'.cell? ⟨qc, 1, none⟩ = some (.int .i64 s2) ∧ W'.cell? ⟨qc, 2, none⟩ = some (.string s3) ∧ W'.cell? ⟨qc, 3, none⟩ = some (.slice s4 s5 s6) ∧ W'.cell? ⟨qc, 4, none⟩ = some (.string s7) ∧ W'.cell? ⟨qc, 5, none⟩ = some (.slice s8 s9 s10)) ∧ W'.cell? ⟨qb, 0, none⟩ = some (.int .i64 q1) ∧ W'.cell? ⟨qb, 1, none⟩ = some (.int .i64 q2) ∧ W'.cell? ⟨qb, 2, none⟩ = some (.string q3) ∧ W'.cell? ⟨qb, 3, none⟩ = some (.slice q4 q5 q6) ∧ W'.cell? ⟨qb, 4, none⟩ = some (.string q7) ∧ W'.cell? ⟨qb, 5, none⟩ = some (.slice q8 q9 q10)) (first | with_reducible exact HC.out _ HBD.out | with_reducible exact HC.out _ HB1.out | with_reducible exact HC.out _ HB2.out | with_reducible exact HC.out _ HB3.out | with_reducible exact HC.out _ HB4.out | with_reducible exact HC.out _ HB5.out) (first | (go_at_call 22; refine (HAL.out _).mono ?_; rintro e z1 ⟨rfl, b1⟩; have HB1 := hide (HBD.out.on b1); clear b1) | (go_at_call 15; refine (HVQ.out _ HB1.out).mono ?_; rintro e z2 ⟨⟨vs, rfl, hN⟩, b2⟩; have HB2 := hide (HB1.out.on b2); have HSA := hide (HSQ.out _ vs _ (fun k hk => hk.2) HB2.out (IsN.tight _ _ hN)); obtain ⟨r1, r2, r3, r4, r5, r6, r7, r8, r9, r10, rfl⟩ := hN.form; clear b2 hN HB1) | (go_at_call 14; refine HSA.out.mono ?_; rintro e z3 ⟨rfl, b3⟩; have HB3 := hide (HB2.out.on b3); clear b3 HSA HB2) | (go_at_call 15; refine (HVZ.out _ HB3.out).mono ?_; rintro e z4 ⟨⟨vs, rfl, hN⟩, b4⟩; have HB4 := hide (HB3.out.on b4); have HSB := hide (HSZ.out _ vs _ (fun k hk => hk.2) HB4.out (IsN.tight _ _ hN)); obtain ⟨t1, t2, t3, t4, t5, t6, t7, t8, t9, t10, rfl⟩ := hN.form; clear b4 hN HB3) | (go_at_call 14; refine HSB.out.mono ?_; rintro e z5 ⟨rfl, b5⟩; have HB5 := hide (HB4.out.on b5); clear b5) | (go_at_call 18; refine (HPQ.out _ HB5.out).mono ?_; rintro e z6 ⟨rfl, rfl⟩))
                all_goals
                  go_wp2
                  go_ret
                  exact ⟨by simp, HB5.out.bel⟩
              · have h12 : ¬ (j : Int) + 1 < ks.length := by omega
                have HBF := hide (HAE.out _ HB5.out)
                rw [HBA.out.2.2.2 h1] at HBF
                go_wp2_with fail
                refine HBF.out.mono ?_
                rintro e y7 ⟨rfl, hb7⟩
                have HBT := hide hb7
                clear hb7 HB5 HBF HBR
                go_wp2_with fail
                refine (HAP.out _ HBT.out).mono ?_
                rintro e y8 ⟨rfl, hb8⟩
                have HBD := hide (hb8.on (Below.refl y8.heap.size y8 |>.drew))
                clear hb8
                go_wp2_with fail
                go_region_held2 (fun W' => (W'.cell? ⟨qc, 0, none⟩ = some (.int .i64 s1) ∧ W'.cell? ⟨qc, 1, none⟩ = some (.int .i64 s2) ∧ W'.cell? ⟨qc, 2, none⟩ = some (.string s3) ∧ W'.cell? ⟨qc, 3, none⟩ = some (.slice s4 s5 s6) ∧ W'.cell? ⟨qc, 4, none⟩ = some (.string s7) ∧ W'.cell? ⟨qc, 5, none⟩ = some (.slice s8 s9 s10)) ∧ W'.cell? ⟨qb, 0, none⟩ = some (.int .i64 q1) ∧ W'.cell? ⟨qb, 1, none⟩ = some (.int .i64 q2) ∧ W'.cell? ⟨qb, 2, none⟩ = some (.string q3) ∧ W'.cell? ⟨qb, 3, none⟩ = some (.slice q4 q5 q6) ∧ W'.cell? ⟨qb, 4, none⟩ = some (.string q7) ∧ W'.cell? ⟨qb, 5, none⟩ = some (.slice q8 q9 q10)) (first | with_reducible exact HC.out _ HBD.out | with_reducible exact HC.out _ HB1.out | with_reducible exact HC.out _ HB2.out | with_reducible exact HC.out _ HB3.out | with_reducible exact HC.out _ HB4.out | with_reducible exact HC.out _ HB5.out) (first | (go_at_call 22; refine (HAL.out _).mono ?_; rintro e z1 ⟨rfl, b1⟩; have HB1 := hide (HBD.out.on b1); clear b1) | (go_at_call 15; refine (HVQ.out _ HB1.out).mono ?_; rintro e z2 ⟨⟨vs, rfl, hN⟩, b2⟩; have HB2 := hide (HB1.out.on b2); have HSA := hide (HSQ.out _ vs _ (fun k hk => hk.2) HB2.out (IsN.tight _ _ hN)); obtain ⟨r1, r2, r3, r4, r5, r6, r7, r8, r9, r10, rfl⟩ := hN.form; clear b2 hN HB1) | (go_at_call 14; refine HSA.out.mono ?_; rintro e z3 ⟨rfl, b3⟩; have HB3 := hide (HB2.out.on b3); clear b3 HSA HB2) | (go_at_call 15; refine (HVZ.out _ HB3.out).mono ?_; rintro e z4 ⟨⟨vs, rfl, hN⟩, b4⟩; have HB4 := hide (HB3.out.on b4); have HSB := hide (HSZ.out _ vs _ (fun k hk => hk.2) HB4.out (IsN.tight _ _ hN)); obtain ⟨t1, t2, t3, t4, t5, t6, t7, t8, t9, t10, rfl⟩ := hN.form; clear b4 hN HB3) | (go_at_call 14; refine HSB.out.mono ?_; rintro e z5 ⟨rfl, b5⟩; have HB5 := hide (HB4.out.on b5); clear b5) | (go_at_call 18; refine (HPQ.out _ HB5.out).mono ?_; rintro e z6 ⟨rfl, rfl⟩))
                all_goals
                  go_wp2
                  go_ret
                  exact ⟨by simp, HB5.out.bel⟩
end Go.Proofs.Ytjgklemhlmgheaa
