/- ArenaLost's walk. -/
import Derived.Test.YtjgklemhlmgheaaRowS5
import Derived.Test.YtjgklemhlmgheaaPQ5
import Derived.Test.YtjgklemhlmgheaaWalkH5
import Derived.BigQuiet
import Derived.Deep.QuietTactic
import Derived.Test.YtjgklemhlmgheaaCnt5
set_option linter.unusedVariables false
set_option linter.unusedSimpArgs false
namespace Go.Proofs.Ytjgklemhlmgheaa
open Go.RowKit

def sz (T : TR) (n : Nat) : Nat := sumL ((List.range n).filter (fun m => (parentN T m).isNone)) (fun n => sizeW T n)
theorem sz_none {T : TR} {n : Nat} (h : parentN T n = none) : sz T (n + 1) = sz T n + sizeW T n := by
  unfold sz sumL
  rw [List.range_succ, List.filter_append, List.map_append, List.sum_append]
  simp [h]
theorem sz_some {T : TR} {n p : Nat} (h : parentN T n = some p) : sz T (n + 1) = sz T n := by
  unfold sz sumL
  rw [List.range_succ, List.filter_append, List.map_append, List.sum_append]
  simp [h]
theorem sz_le (T : TR) (n : Nat) : ∀ m, n ≤ m → sz T n ≤ sz T m
  | 0, h => by
    have : n = 0 := by omega
    subst this
    exact Nat.le_refl _
  | m + 1, h => by
    by_cases e : n = m + 1
    · subst e; exact Nat.le_refl _
    · have ih := sz_le T n m (by omega)
      cases hp : parentN T m with
      | none => rw [sz_none hp]; omega
      | some p => rw [sz_some hp]; exact ih
set_option maxRecDepth 10000 in
set_option maxHeartbeats 8000000 in
theorem lost_walk (v : Value) (xs : List AV) (w : World) (hS : IsS w v xs) : Calls Try.prog 5 #[v] w fun e w' => e = .returned (.bool true) ∧ Below w.heap.size w w' := by
  have HS := hide hS
  obtain ⟨a0, c0, rfl⟩ := isS_form hS
  clear hS
  have HNW := hide (liv_new w)
  go_enter Try.func5, Try.ntmps5
  go_wp2_with fail
  refine HNW.out.mono ?_
  rintro e x0 ⟨pb, rfl, hL⟩
  have L0 : Hid (Good 0 newL ∧ Liv w.heap.size w x0 pb newL) := hide ⟨good_new, hL⟩
  clear hL HNW
  go_wp2_with fail
  go_loopw [4] (fun vi wr => ∃ (i : Nat) (T : TR), vi = .int .i64 (i : Int) ∧ i ≤ 40 ∧ i ≤ xs.length ∧ Hid (Good i T ∧ Liv w.heap.size w wr pb T)) (fun vi _ => xs.length - (intOf vi).toNat)
  case atStart => exact ⟨0, newL, rfl, by omega, by omega, L0⟩
  case round =>
    clear L0
    obtain ⟨i, T, rfl, hi40, hil, HG⟩ := hrel
    by_cases hlt : i < xs.length ∧ i < 40
    · have hlt2 : (i : Int) < xs.length := by omega
      have h402 : (i : Int) < 40 := by omega
      obtain ⟨sb, so, rfl, hcs, hV⟩ := HS.out.get i hlt.1
      have hcs2 := act_cells hcs HG.out.2.bel
      obtain ⟨va, vc, hvf⟩ := isV_form hV
      generalize xs[i] = x at *
      obtain ⟨k, a, b2, sp, s, aa, av⟩ := x
      simp only at hvf hcs2
      subst hvf
      obtain ⟨y0, y1, y2, y3, y4, y5⟩ := hcs2
      have HSM : Hid (∀ W, Calls Try.prog 11 #[.agg #[.int .i64 k, .int .i64 a, .int .i64 b2, .int .i64 sp, .string s, .slice va aa.length vc]] W fun e w' => e = .returned (.bool (smallB ⟨k, a, b2, sp, s, aa, .slice va aa.length vc⟩)) ∧ Below W.heap.size W w') := hide fun W => small_p ⟨k, a, b2, sp, s, aa, .slice va aa.length vc⟩ ⟨va, vc, rfl⟩ W
      cases hsm : smallB ⟨k, a, b2, sp, s, aa, .slice va aa.length vc⟩ with
      | false =>
        rw [hsm] at HSM
        have HUP := hide HG.out.1.up
        clear hcs hV
        go_wp2_with fail
        refine (HSM.out _).mono ?_
        rintro e x1 ⟨rfl, b1⟩
        have HL := hide (HG.out.2.on b1)
        clear b1 y0 y1 y2 y3 y4 y5
        go_wp2
        go_roundw
        case rel => exact ⟨i + 1, T, by go_num, by omega, by omega, hide ⟨HUP.out, HL.out⟩⟩
        case measure => simp [intOf]; omega
      | true =>
        rw [hsm] at HSM
        have HUP := hide (good_act HG.out.1 ⟨k, a, b2, sp, s, aa, .slice va aa.length vc⟩ hsm)
        have HDO : Hid (∀ W rv, Both w.heap.size w W pb rv T newL → Calls Try.prog 12 #[.pointer (some ⟨pb, 0, none⟩), .agg #[rv], .agg #[.int .i64 k, .int .i64 a, .int .i64 b2, .int .i64 sp, .string s, .slice va aa.length vc]] W fun e w' => ∃ rv', e = .returned (.tuple #[.agg #[rv'], .bool (okB T newL ⟨k, a, b2, sp, s, aa, .slice va aa.length vc⟩)]) ∧ Both w.heap.size w w' pb rv' (actP T ⟨k, a, b2, sp, s, aa, .slice va aa.length vc⟩).1 (actD newL ⟨k, a, b2, sp, s, aa, .slice va aa.length vc⟩).1 ∧ ∃ a m c, rv' = .slice a m c) := hide fun W rv hb => do_p rfl ⟨k, a, b2, sp, s, aa, .slice va aa.length vc⟩ (good_fit HG.out.1 good_new hi40 (by omega) _ hsm) hV hb
        have HCS := hide hcs
        clear hcs hV
        go_wp2_with fail
        refine (HSM.out _).mono ?_
        rintro e x1 ⟨rfl, b1⟩
        have HL := hide (HG.out.2.on (b1.trans (Below.refl x1.heap.size x1 |>.drew |>.mono (b1.size))))
        have HN := hide (new_any x1.drew)
        obtain ⟨z0, z1, z2, z3, z4, z5⟩ := act_cells HCS.out HL.out.bel
        clear b1 y0 y1 y2 y3 y4 y5
        generalize (actP T ⟨k, a, b2, sp, s, aa, .slice va aa.length vc⟩).1 = T2 at *
        generalize (actD newL ⟨k, a, b2, sp, s, aa, .slice va aa.length vc⟩).1 = U2 at *
        generalize okB T newL ⟨k, a, b2, sp, s, aa, .slice va aa.length vc⟩ = ob at *
        go_wp2_with fail
        go_region_with (first | (go_at_call 10; refine HN.out.mono ?_; rintro e x2 ⟨⟨rv, hT, ⟨ra, rm, rc, rfl⟩, rfl⟩, b2⟩; have HBO := hide (both_new HL.out b2 hT); have hcc := act_cells HCS.out (HL.out.on b2).bel; obtain ⟨u0, u1, u2, u3, u4, u5⟩ := hcc; clear hT b2) | (go_at_call 12; refine (HDO.out _ _ HBO.out).mono ?_; rintro e x3 ⟨rv', rfl, hbo, ⟨qa, qm, qc, rfl⟩⟩; have HLN := hide hbo.liv; clear hbo))
        all_goals
          go_wp2
          go_roundw
          case rel => exact ⟨i + 1, T2, by go_num, by omega, by omega, hide ⟨HUP.out, HLN.out⟩⟩
          case measure => simp [intOf]; omega
    · have hex : Good 40 T := by
        have : ∀ n, Good (i + n) T := fun n => by
          induction n with
          | zero => exact HG.out.1
          | succ n ih => exact ih.up
        have h2 := this (40 - i)
        rw [show i + (40 - i) = 40 by omega] at h2
        exact h2
      have HG2 : Hid (Good 40 T ∧ Liv w.heap.size w wr pb T) := hide ⟨hex, HG.out.2⟩
      clear hex HG HS
      replace HG := HG2
      clear HG2
      by_cases hxx : i < xs.length
      · have hlt2 : (i : Int) < xs.length := by omega
        have h402 : ¬ (i : Int) < 40 := by omega
        go_wp2_with fail
        have htl : T.length ≤ 41 := by have := HG.out.1.ll; omega
        have HWF := hide HG.out.1.wf
        have HAT := hide (fun i => (by have := (HG.out.1.at6 i).1; omega : (nodeAt T i).attrs.length ≤ 1000000))
        have HL0 := hide HG.out.2
        have hl0 := HG.out.1.l0
        have HLST := hide HG.out.1.wf.lost
        have HCV := hide (fun n (hn : n < T.length) => HWF.out.count hn)
        clear HG
        go_loopw [5, 6] (fun v5 v6 wr => ∃ n : Nat, v6 = .int .i64 (n : Int) ∧ n ≤ T.length ∧ v5 = .int .i64 (sz T n : Int) ∧ Hid (Liv w.heap.size w wr pb T)) (fun _ v6 _ => T.length - (intOf v6).toNat)
        case atStart => exact ⟨0, rfl, by omega, rfl, HL0⟩
        case round =>
          clear HL0
          obtain ⟨n, rfl, hn, rfl, HL⟩ := hrel
          have HLEN := hide (len_q HL.out.own)
          have hsz : sz T n ≤ 41 := by
            have h1 := sz_le T n T.length hn
            have h2 : sz T T.length = T.length := HLST.out
            omega
          by_cases hlt : n < T.length
          · have hlt2 : (n : Int) < T.length := by omega
            have HPB := hide (parent_q HWF.out (by omega) (n : Int) HL.out.own)
            rw [show parentZ T (n : Int) = parZ (parentN T n) by unfold parentZ; rw [if_neg (by omega), Int.toNat_natCast]] at HPB
            cases hpp : parentN T n with
            | none =>
              rw [hpp, parZ_none] at HPB
              have HSZ := hide (sz_none hpp)
              have hcs : countT (valueL T n) = sizeW T n := HCV.out n hlt
              have hszn : sizeW T n ≤ 41 := by
                have h1 := sz_le T (n + 1) T.length (by omega)
                have h2 : sz T T.length = T.length := HLST.out
                have h3 := HSZ.out
                omega
              have HVAL := hide (value_all HWF.out (by omega) HAT.out pb n hlt _ wr HL.out.own)
              have HCN := hide (count_any (valueL T n) (okT_value HWF.out (by omega) HAT.out _ _))
              go_wp2_with fail
              refine HLEN.out.mono ?_
              rintro e y1 ⟨rfl, rfl⟩
              go_wp2_with fail
              refine HPB.out.mono ?_
              rintro e y2 ⟨rfl, rfl⟩
              go_wp2_with fail
              refine HVAL.out.mono ?_
              rintro e y3 ⟨⟨vs, rfl, hN⟩, b3⟩
              have HC := hide (HCN.out _ vs y3 (fun k hk => hk.2) (IsN.tight _ _ hN) (by omega))
              rw [hcs] at HC
              obtain ⟨q1, q2, q3, q4, q5, q6, q7, q8, q9, q10, rfl⟩ := hN.form
              have HL3 := hide (HL.out.on b3)
              clear hN b3
              go_wp2_with fail
              refine HC.out.mono ?_
              rintro e y4 ⟨rfl, b4⟩
              have HL4 := hide (HL3.out.on b4)
              clear b4
              go_wp2
              go_roundw
              case rel => exact ⟨n + 1, by go_num, by omega, by rw [HSZ.out]; go_num, HL4⟩
              case measure => simp [intOf]; omega
            | some p =>
              rw [hpp, show parZ (some p) = (p : Int) from rfl] at HPB
              have HSZ := hide (sz_some hpp)
              have hp0 : ¬ (p : Int) < 0 := by omega
              go_wp2_with fail
              refine HLEN.out.mono ?_
              rintro e y1 ⟨rfl, rfl⟩
              go_wp2_with fail
              refine HPB.out.mono ?_
              rintro e y2 ⟨rfl, rfl⟩
              go_wp2
              go_roundw
              case rel => exact ⟨n + 1, by go_num, by omega, by rw [HSZ.out], HL⟩
              case measure => simp [intOf]; omega
          · have hlt2 : ¬ (n : Int) < T.length := by omega
            have hne : n = T.length := by omega
            subst hne
            have hfin : (sz T T.length : Int) = (T.length : Int) := by have h2 : sz T T.length = T.length := HLST.out; omega
            rw [hfin]
            have HAL := hide alive_p
            have HLF := hide (fun W (h : Liv w.heap.size w W pb T) => len_q h.own)
            have hl1 : ¬ (T.length : Int) < 1 := by omega
            have hl2 : (1 : Int) ≤ (T.length : Int) := by omega
            go_wp2_with fail
            refine HLEN.out.mono ?_
            rintro e y1 ⟨rfl, rfl⟩
            go_wp2_with fail
            refine (HAL.out _).mono ?_
            rintro e y7 ⟨rfl, b7⟩
            have HL9 := hide (HL.out.on b7)
            clear b7
            go_wp2_with fail
            refine (HLF.out _ HL9.out).mono ?_
            rintro e y8 ⟨rfl, rfl⟩
            go_wp2_with fail
            refine (HLF.out _ HL9.out).mono ?_
            rintro e y9 ⟨rfl, rfl⟩
            have HBF := hide HL9.out.bel
            go_wp2
            go_ret
            exact ⟨by simp [hl2], HBF.out⟩
      · have hlt2 : ¬ (i : Int) < xs.length := by omega
        go_wp2_with fail
        have htl : T.length ≤ 41 := by have := HG.out.1.ll; omega
        have HWF := hide HG.out.1.wf
        have HAT := hide (fun i => (by have := (HG.out.1.at6 i).1; omega : (nodeAt T i).attrs.length ≤ 1000000))
        have HL0 := hide HG.out.2
        have hl0 := HG.out.1.l0
        have HLST := hide HG.out.1.wf.lost
        have HCV := hide (fun n (hn : n < T.length) => HWF.out.count hn)
        clear HG
        go_loopw [5, 6] (fun v5 v6 wr => ∃ n : Nat, v6 = .int .i64 (n : Int) ∧ n ≤ T.length ∧ v5 = .int .i64 (sz T n : Int) ∧ Hid (Liv w.heap.size w wr pb T)) (fun _ v6 _ => T.length - (intOf v6).toNat)
        case atStart => exact ⟨0, rfl, by omega, rfl, HL0⟩
        case round =>
          clear HL0
          obtain ⟨n, rfl, hn, rfl, HL⟩ := hrel
          have HLEN := hide (len_q HL.out.own)
          have hsz : sz T n ≤ 41 := by
            have h1 := sz_le T n T.length hn
            have h2 : sz T T.length = T.length := HLST.out
            omega
          by_cases hlt : n < T.length
          · have hlt2 : (n : Int) < T.length := by omega
            have HPB := hide (parent_q HWF.out (by omega) (n : Int) HL.out.own)
            rw [show parentZ T (n : Int) = parZ (parentN T n) by unfold parentZ; rw [if_neg (by omega), Int.toNat_natCast]] at HPB
            cases hpp : parentN T n with
            | none =>
              rw [hpp, parZ_none] at HPB
              have HSZ := hide (sz_none hpp)
              have hcs : countT (valueL T n) = sizeW T n := HCV.out n hlt
              have hszn : sizeW T n ≤ 41 := by
                have h1 := sz_le T (n + 1) T.length (by omega)
                have h2 : sz T T.length = T.length := HLST.out
                have h3 := HSZ.out
                omega
              have HVAL := hide (value_all HWF.out (by omega) HAT.out pb n hlt _ wr HL.out.own)
              have HCN := hide (count_any (valueL T n) (okT_value HWF.out (by omega) HAT.out _ _))
              go_wp2_with fail
              refine HLEN.out.mono ?_
              rintro e y1 ⟨rfl, rfl⟩
              go_wp2_with fail
              refine HPB.out.mono ?_
              rintro e y2 ⟨rfl, rfl⟩
              go_wp2_with fail
              refine HVAL.out.mono ?_
              rintro e y3 ⟨⟨vs, rfl, hN⟩, b3⟩
              have HC := hide (HCN.out _ vs y3 (fun k hk => hk.2) (IsN.tight _ _ hN) (by omega))
              rw [hcs] at HC
              obtain ⟨q1, q2, q3, q4, q5, q6, q7, q8, q9, q10, rfl⟩ := hN.form
              have HL3 := hide (HL.out.on b3)
              clear hN b3
              go_wp2_with fail
              refine HC.out.mono ?_
              rintro e y4 ⟨rfl, b4⟩
              have HL4 := hide (HL3.out.on b4)
              clear b4
              go_wp2
              go_roundw
              case rel => exact ⟨n + 1, by go_num, by omega, by rw [HSZ.out]; go_num, HL4⟩
              case measure => simp [intOf]; omega
            | some p =>
              rw [hpp, show parZ (some p) = (p : Int) from rfl] at HPB
              have HSZ := hide (sz_some hpp)
              have hp0 : ¬ (p : Int) < 0 := by omega
              go_wp2_with fail
              refine HLEN.out.mono ?_
              rintro e y1 ⟨rfl, rfl⟩
              go_wp2_with fail
              refine HPB.out.mono ?_
              rintro e y2 ⟨rfl, rfl⟩
              go_wp2
              go_roundw
              case rel => exact ⟨n + 1, by go_num, by omega, by rw [HSZ.out], HL⟩
              case measure => simp [intOf]; omega
          · have hlt2 : ¬ (n : Int) < T.length := by omega
            have hne : n = T.length := by omega
            subst hne
            have hfin : (sz T T.length : Int) = (T.length : Int) := by have h2 : sz T T.length = T.length := HLST.out; omega
            rw [hfin]
            have HAL := hide alive_p
            have HLF := hide (fun W (h : Liv w.heap.size w W pb T) => len_q h.own)
            have hl1 : ¬ (T.length : Int) < 1 := by omega
            have hl2 : (1 : Int) ≤ (T.length : Int) := by omega
            go_wp2_with fail
            refine HLEN.out.mono ?_
            rintro e y1 ⟨rfl, rfl⟩
            go_wp2_with fail
            refine (HAL.out _).mono ?_
            rintro e y7 ⟨rfl, b7⟩
            have HL9 := hide (HL.out.on b7)
            clear b7
            go_wp2_with fail
            refine (HLF.out _ HL9.out).mono ?_
            rintro e y8 ⟨rfl, rfl⟩
            go_wp2_with fail
            refine (HLF.out _ HL9.out).mono ?_
            rintro e y9 ⟨rfl, rfl⟩
            have HBF := hide HL9.out.bel
            go_wp2
            go_ret
            exact ⟨by simp [hl2], HBF.out⟩
end Go.Proofs.Ytjgklemhlmgheaa
