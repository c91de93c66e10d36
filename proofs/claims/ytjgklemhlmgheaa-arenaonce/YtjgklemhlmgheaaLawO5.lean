/- ArenaOnce's walk. -/
import Derived.Test.YtjgklemhlmgheaaRowS5
import Derived.Test.YtjgklemhlmgheaaPQ5
import Derived.Test.YtjgklemhlmgheaaWalkH5
import Derived.BigQuiet
import Derived.Deep.QuietTactic
set_option linter.unusedVariables false
set_option linter.unusedSimpArgs false
namespace Go.Proofs.Ytjgklemhlmgheaa
open Go.RowKit

def sk (T : TR) (n : Nat) : Nat := sumL (List.range n) (fun i => (kidsAt T i).length)
theorem sk_succ (T : TR) (n : Nat) : sk T (n + 1) = sk T n + (kidsAt T n).length := by
  unfold sk sumL
  rw [List.range_succ, List.map_append, List.sum_append]
  simp
theorem sk_le {T : TR} (h : WF T) : ∀ n, sk T n ≤ n * T.length
  | 0 => by simp [sk, sumL]
  | n + 1 => by
    have := sk_le h n
    have := h.kids_len n
    rw [sk_succ, Nat.add_mul]
    omega
def ap (T : TR) (n : Nat) : Nat := ((List.range n).filter (fun m => (parentN T m).isNone)).length
theorem ap_le (T : TR) (n : Nat) : ap T n ≤ n := by
  have h : ((List.range n).filter (fun m => (parentN T m).isNone)).length ≤ (List.range n).length := List.length_filter_le _ _
  simpa [ap] using h
theorem ap_none {T : TR} {n : Nat} (h : parentN T n = none) : ap T (n + 1) = ap T n + 1 := by
  unfold ap
  rw [List.range_succ, List.filter_append, List.length_append]
  simp [h]
theorem ap_some {T : TR} {n p : Nat} (h : parentN T n = some p) : ap T (n + 1) = ap T n := by
  unfold ap
  rw [List.range_succ, List.filter_append, List.length_append]
  simp [h]
set_option maxRecDepth 10000 in
set_option maxHeartbeats 8000000 in
theorem once_walk (v : Value) (xs : List AV) (w : World) (hS : IsS w v xs) : Calls Try.prog 4 #[v] w fun e w' => e = .returned (.bool true) ∧ Below w.heap.size w w' := by
  have HS := hide hS
  obtain ⟨a0, c0, rfl⟩ := isS_form hS
  clear hS
  have HNW := hide (liv_new w)
  go_enter Try.func4, Try.ntmps4
  go_wp2_with fail
  refine HNW.out.mono ?_
  rintro e x0 ⟨pb, rfl, hL⟩
  have L0 : Hid (Good 0 newL ∧ Liv w.heap.size w x0 pb newL) := hide ⟨good_new, hL⟩
  clear hL HNW
  go_wp2_with fail
  go_loopw [4] (fun vi wr => ∃ (i : Nat) (T : TR), vi = .int .i64 (i : Int) ∧ i ≤ 40 ∧ i ≤ xs.length ∧ Hid (Good i T ∧ Liv w.heap.size w wr pb T)) (fun vi _ => xs.length - (intOf vi).toNat)
  case atStart => exact ⟨0, newL, rfl, by omega, by omega, L0⟩
  case round =>
    clear L0
    obtain ⟨i, T, rfl, hi40, hil, HG⟩ := hrel
    by_cases hlt : i < xs.length ∧ i < 40
    · have hlt2 : (i : Int) < xs.length := by omega
      have h402 : (i : Int) < 40 := by omega
      obtain ⟨sb, so, rfl, hcs, hV⟩ := HS.out.get i hlt.1
      have hcs2 := act_cells hcs HG.out.2.bel
      obtain ⟨va, vc, hvf⟩ := isV_form hV
      generalize xs[i] = x at *
      obtain ⟨k, a, b2, sp, s, aa, av⟩ := x
      simp only at hvf hcs2
      subst hvf
      obtain ⟨y0, y1, y2, y3, y4, y5⟩ := hcs2
      have HSM : Hid (∀ W, Calls Try.prog 11 #[.agg #[.int .i64 k, .int .i64 a, .int .i64 b2, .int .i64 sp, .string s, .slice va aa.length vc]] W fun e w' => e = .returned (.bool (smallB ⟨k, a, b2, sp, s, aa, .slice va aa.length vc⟩)) ∧ Below W.heap.size W w') := hide fun W => small_p ⟨k, a, b2, sp, s, aa, .slice va aa.length vc⟩ ⟨va, vc, rfl⟩ W
      cases hsm : smallB ⟨k, a, b2, sp, s, aa, .slice va aa.length vc⟩ with
      | false =>
        rw [hsm] at HSM
        have HUP := hide HG.out.1.up
        clear hcs hV
        go_wp2_with fail
        refine (HSM.out _).mono ?_
        rintro e x1 ⟨rfl, b1⟩
        have HL := hide (HG.out.2.on b1)
        clear b1 y0 y1 y2 y3 y4 y5
        go_wp2
        go_roundw
        case rel => exact ⟨i + 1, T, by go_num, by omega, by omega, hide ⟨HUP.out, HL.out⟩⟩
        case measure => simp [intOf]; omega
      | true =>
        rw [hsm] at HSM
        have HUP := hide (good_act HG.out.1 ⟨k, a, b2, sp, s, aa, .slice va aa.length vc⟩ hsm)
        have HDO : Hid (∀ W rv, Both w.heap.size w W pb rv T newL → Calls Try.prog 12 #[.pointer (some ⟨pb, 0, none⟩), .agg #[rv], .agg #[.int .i64 k, .int .i64 a, .int .i64 b2, .int .i64 sp, .string s, .slice va aa.length vc]] W fun e w' => ∃ rv', e = .returned (.tuple #[.agg #[rv'], .bool (okB T newL ⟨k, a, b2, sp, s, aa, .slice va aa.length vc⟩)]) ∧ Both w.heap.size w w' pb rv' (actP T ⟨k, a, b2, sp, s, aa, .slice va aa.length vc⟩).1 (actD newL ⟨k, a, b2, sp, s, aa, .slice va aa.length vc⟩).1 ∧ ∃ a m c, rv' = .slice a m c) := hide fun W rv hb => do_p rfl ⟨k, a, b2, sp, s, aa, .slice va aa.length vc⟩ (good_fit HG.out.1 good_new hi40 (by omega) _ hsm) hV hb
        have HCS := hide hcs
        clear hcs hV
        go_wp2_with fail
        refine (HSM.out _).mono ?_
        rintro e x1 ⟨rfl, b1⟩
        have HL := hide (HG.out.2.on (b1.trans (Below.refl x1.heap.size x1 |>.drew |>.mono (b1.size))))
        have HN := hide (new_any x1.drew)
        obtain ⟨z0, z1, z2, z3, z4, z5⟩ := act_cells HCS.out HL.out.bel
        clear b1 y0 y1 y2 y3 y4 y5
        generalize (actP T ⟨k, a, b2, sp, s, aa, .slice va aa.length vc⟩).1 = T2 at *
        generalize (actD newL ⟨k, a, b2, sp, s, aa, .slice va aa.length vc⟩).1 = U2 at *
        generalize okB T newL ⟨k, a, b2, sp, s, aa, .slice va aa.length vc⟩ = ob at *
        go_wp2_with fail
        go_region_with (first | (go_at_call 10; refine HN.out.mono ?_; rintro e x2 ⟨⟨rv, hT, ⟨ra, rm, rc, rfl⟩, rfl⟩, b2⟩; have HBO := hide (both_new HL.out b2 hT); have hcc := act_cells HCS.out (HL.out.on b2).bel; obtain ⟨u0, u1, u2, u3, u4, u5⟩ := hcc; clear hT b2) | (go_at_call 12; refine (HDO.out _ _ HBO.out).mono ?_; rintro e x3 ⟨rv', rfl, hbo, ⟨qa, qm, qc, rfl⟩⟩; have HLN := hide hbo.liv; clear hbo))
        all_goals
          go_wp2
          go_roundw
          case rel => exact ⟨i + 1, T2, by go_num, by omega, by omega, hide ⟨HUP.out, HLN.out⟩⟩
          case measure => simp [intOf]; omega
    · have hex : Good 40 T := by
        have : ∀ n, Good (i + n) T := fun n => by
          induction n with
          | zero => exact HG.out.1
          | succ n ih => exact ih.up
        have h2 := this (40 - i)
        rw [show i + (40 - i) = 40 by omega] at h2
        exact h2
      have HG2 : Hid (Good 40 T ∧ Liv w.heap.size w wr pb T) := hide ⟨hex, HG.out.2⟩
      clear hex HG HS
      replace HG := HG2
      clear HG2
      by_cases hxx : i < xs.length
      · have hlt2 : (i : Int) < xs.length := by omega
        have h402 : ¬ (i : Int) < 40 := by omega
        go_wp2_with fail
        have HTL := hide (by have := HG.out.1.ll; omega : T.length ≤ 41)
        have htl : T.length ≤ 41 := HTL.out
        have HWF := hide HG.out.1.wf
        have HL0 := hide HG.out.2
        clear HG
        go_loopw [5, 6, 7, 8, 9, 10, 11] (fun v5 v6 v7 v8 v9 v10 v11 wr => ∃ n : Nat, v6 = .int .i64 (n : Int) ∧ n ≤ T.length ∧ v5 = .int .i64 (sk T n : Int) ∧ Hid (Liv w.heap.size w wr pb T)) (fun _ v6 _ _ _ _ _ _ => T.length - (intOf v6).toNat)
        case atStart => exact ⟨0, rfl, by omega, rfl, HL0⟩
        case round =>
          clear HL0
          obtain ⟨n, rfl, hn, rfl, HL⟩ := hrel
          have HLEN := hide (len_q HL.out.own)
          by_cases hlt : n < T.length
          · have hlt2 : (n : Int) < T.length := by omega
            have HKI := hide (kids_p HWF.out (by omega) (n : Int) HL.out.own)
            rw [show kidsZ T (n : Int) = kidsAt T n by unfold kidsZ; rw [if_pos ⟨by omega, hlt2⟩, Int.toNat_natCast]] at HKI
            have hkl : (kidsAt T n).length ≤ 41 := by have := HWF.out.kids_len n; omega
            have hsk : sk T n ≤ 2000 := by have := sk_le HWF.out n; have : n * T.length ≤ 41 * 41 := Nat.mul_le_mul (by omega) (by omega); omega
            have HSK := hide (sk_succ T n)
            have HKP := hide (fun x (hx : x ∈ kidsAt T n) => HWF.out.parent hx)
            have HKB := hide (fun x (hx : x ∈ kidsAt T n) => HWF.out.inb n x hx)
            have HND := hide (HWF.out.nodup n)
            have HUE := hide (HWF.out.up_end hlt)
            generalize kidsAt T n = ks at *
            go_wp2_with fail
            refine HLEN.out.mono ?_
            rintro e y1 ⟨rfl, rfl⟩
            go_wp2_with fail
            refine HKI.out.mono ?_
            rintro e y2 ⟨⟨v', rfl, ho⟩, b2⟩
            obtain ⟨ka, kc, rfl⟩ := owns_form ho
            have HL2 := hide (And.intro (HL.out.on b2) (owns_isI ho))
            clear ho b2
            go_wp2_with fail
            go_loopw [8, 9] (fun v8 v9 wr2 => ∃ i : Nat, v8 = .int .i64 (i : Int) ∧ i ≤ ks.length ∧ Hid (Liv w.heap.size w wr2 pb T ∧ IsI wr2 (.slice ka ks.length kc) ks)) (fun v8 _ _ => ks.length - (intOf v8).toNat)
            case atStart => exact ⟨0, rfl, by omega, HL2⟩
            case round =>
              clear HL2
              obtain ⟨i, rfl, hi, HL3⟩ := hrel
              generalize wr = wr2 at *
              by_cases hil : i < ks.length
              · have hil2 : (i : Int) < ks.length := by omega
                obtain ⟨kb, ko, rfl, hkc⟩ := HL3.out.2.at (by omega)
                have ck := hkc i hil
                have hpar := HKP.out ks[i] (List.getElem_mem hil)
                have hbd := HKB.out ks[i] (List.getElem_mem hil)
                have HPAR : Hid (∀ m, Calls Try.prog 18 #[.pointer (some ⟨pb, 0, none⟩), .int .i64 (ks[i] : Int)] (wr2.drewN m) fun e w' => e = .returned (.int .i64 (n : Int)) ∧ w' = wr2.drewN m) := hide fun m => by
                  have := parent_q HWF.out (by omega) (ks[i] : Int) ((HL3.out.1.on (below_drewN wr2 m)).own)
                  rw [show parentZ T (ks[i] : Int) = (n : Int) by unfold parentZ; rw [if_neg (by omega), Int.toNat_natCast, hpar]; rfl] at this
                  exact this
                have HLE : Hid (∀ m, Calls Try.prog 13 #[.pointer (some ⟨pb, 0, none⟩)] (wr2.drewN m) fun e w' => e = .returned (.int .i64 (T.length : Int)) ∧ w' = wr2.drewN m) := hide fun m => len_q ((HL3.out.1.on (below_drewN wr2 m)).own)
                have g1 : ¬ (ks[i] : Int) < 1 := by omega
                have g2 : ¬ (T.length : Int) ≤ (ks[i] : Int) := by omega
                have HNE := hide (fun j (hj : j < ks.length) (hne : j < i) => fun e : ks[j] = ks[i] => by have := (List.getElem_inj HND.out).1 e; omega)
                have HCK := hide hkc
                clear hpar hkc
                obtain ⟨x, hx⟩ : ∃ x, x = ks[i] := ⟨_, rfl⟩
                rw [← hx] at ck HPAR g1 g2 hbd
                have HX := hide hx
                clear hx
                go_wp2_with fail
                go_quiet (first | (go_at_call 18; exact Calls.quiet_of_same (HPAR.out _)) | (go_at_call 13; exact Calls.quiet_of_same (HLE.out _)))
                go_wp2_with fail
                go_loopw [9] (fun v9 wr3 => ∃ j : Nat, v9 = .int .i64 (j : Int) ∧ j ≤ i ∧ Hid (Below wr2.heap.size wr2 wr3)) (fun v9 _ => i - (intOf v9).toNat)
                case atStart => exact ⟨0, rfl, by omega, hide (by first | exact below_drewN _ _ | exact Below.refl _ _)⟩
                case round =>
                  obtain ⟨j, rfl, hj, HB3⟩ := hrel
                  generalize wr = wr3 at *
                  by_cases hji : j < i
                  · have hji2 : (j : Int) < (i : Int) := by omega
                    have hjl2 : (j : Int) < ks.length := by omega
                    have hne := HNE.out j (by omega) hji
                    have cj := HCK.out j (by omega)
                    have ci := HCK.out i hil
                    rw [← HX.out] at hne ci
                    have cj2 : wr3.cell? ⟨kb, ko + j, none⟩ = some (.int .i64 (ks[j] : Int)) := (HB3.out.cell (cell_lt cj)).trans cj
                    have ci2 : wr3.cell? ⟨kb, ko + i, none⟩ = some (.int .i64 (x : Int)) := (HB3.out.cell (cell_lt ci)).trans ci
                    have hne2 : ¬ (ks[j] : Int) = (x : Int) := by omega
                    have hne3 : ((ks[j] : Int) == (x : Int)) = false := beq_eq_false_iff_ne.2 hne2
                    clear hne cj ci
                    generalize ks[j] = z at *
                    go_wp2_with fail
                    go_quiet (fail)
                    go_wp2
                    go_roundw
                    case rel => exact ⟨j + 1, by go_num, by omega, hide (HB3.out.trans (by first | exact (below_drewN _ _).mono HB3.out.size | exact (Below.refl _ _).mono HB3.out.size))⟩
                    case measure => simp [intOf]; omega
                  · have hji2 : ¬ (j : Int) < (i : Int) := by omega
                    have HL4 : Hid (Liv w.heap.size w wr3 pb T ∧ IsI wr3 (.slice (some ⟨kb, ko, none⟩) ks.length kc) ks) := hide ⟨HL3.out.1.on HB3.out, HL3.out.2.below HB3.out⟩
                    go_wp2
                    go_roundw
                    case rel => exact ⟨i + 1, by go_num, by omega, HL4⟩
                    case measure => simp [intOf]; omega
              · have hil2 : ¬ (i : Int) < ks.length := by omega
                have HL5 := hide HL3.out.1
                clear HL3
                go_wp2_with fail
                go_loopw [10, 11] (fun v10 v11 wr4 => ∃ (k : Nat) (q : Option Nat), v11 = .int .i64 (k : Int) ∧ v10 = .int .i64 (parZ q) ∧ k ≤ T.length ∧ Hid (Liv w.heap.size w wr4 pb T ∧ upO T (T.length - k) q = none)) (fun _ v11 _ => T.length - (intOf v11).toNat)
                case atStart => exact ⟨0, some n, rfl, rfl, by omega, hide ⟨HL5.out, HUE.out⟩⟩
                case round =>
                  clear HL5
                  obtain ⟨k, q, rfl, rfl, hk, HL6⟩ := hrel
                  have HLE2 := hide (len_q HL6.out.1.own)
                  cases hq : q with
                  | none =>
                    subst hq
                    rw [parZ_none]
                    have HL7 := hide HL6.out.1
                    clear HL6
                    go_wp2
                    go_roundw
                    case rel => exact ⟨n + 1, by go_num, by omega, by rw [HSK.out]; go_num, HL7⟩
                    case measure => simp [intOf]; omega
                  | some p =>
                    subst hq
                    rw [show parZ (some p) = (p : Int) from rfl]
                    by_cases hkl2 : k < T.length
                    · have hkl3 : (k : Int) < T.length := by omega
                      have HPA := hide (parent_q HWF.out (by omega) (p : Int) HL6.out.1.own)
                      rw [show parentZ T (p : Int) = parZ (parentN T p) by unfold parentZ; rw [if_neg (by omega), Int.toNat_natCast]] at HPA
                      have HUN : Hid (upO T (T.length - (k + 1)) (parentN T p) = none) := hide (by
                        have h := HL6.out.2
                        rw [show T.length - k = (T.length - (k + 1)) + 1 by omega] at h
                        exact h)
                      have HL7 := hide HL6.out.1
                      clear HL6
                      go_wp2_with fail
                      refine HLE2.out.mono ?_
                      rintro e y4 ⟨rfl, rfl⟩
                      go_wp2_with fail
                      refine HPA.out.mono ?_
                      rintro e y5 ⟨rfl, rfl⟩
                      go_wp2
                      go_roundw
                      case rel => exact ⟨k + 1, parentN T p, by go_num, rfl, by omega, hide ⟨HL7.out, HUN.out⟩⟩
                      case measure => simp [intOf]; omega
                    · exfalso
                      have h := HL6.out.2
                      rw [show T.length - k = 0 by omega] at h
                      cases h
          · have hlt2 : ¬ (n : Int) < T.length := by omega
            have hne : n = T.length := by omega
            subst hne
            have HAT := hide HWF.out.all_told
            go_wp2_with fail
            refine HLEN.out.mono ?_
            rintro e y1 ⟨rfl, rfl⟩
            go_wp2_with fail
            go_loopw [12, 13] (fun v12 v13 wr5 => ∃ m : Nat, v13 = .int .i64 (m : Int) ∧ m ≤ T.length ∧ v12 = .int .i64 (ap T m : Int) ∧ Hid (Liv w.heap.size w wr5 pb T)) (fun _ v13 _ => T.length - (intOf v13).toNat)
            case atStart => exact ⟨0, rfl, by omega, rfl, HL⟩
            case round =>
              clear HL HLEN
              obtain ⟨m, rfl, hm, rfl, HL8⟩ := hrel
              have HLE3 := hide (len_q HL8.out.own)
              by_cases hmt : m < T.length
              · have hmt2 : (m : Int) < T.length := by omega
                have HPB := hide (parent_q HWF.out (by omega) (m : Int) HL8.out.own)
                rw [show parentZ T (m : Int) = parZ (parentN T m) by unfold parentZ; rw [if_neg (by omega), Int.toNat_natCast]] at HPB
                have hap : ap T m ≤ 41 := by have := ap_le T m; omega
                cases hpp : parentN T m with
                | none =>
                  rw [hpp, parZ_none] at HPB
                  have HAP := hide (ap_none hpp)
                  go_wp2_with fail
                  refine HLE3.out.mono ?_
                  rintro e y6 ⟨rfl, rfl⟩
                  go_wp2_with fail
                  refine HPB.out.mono ?_
                  rintro e y7 ⟨rfl, rfl⟩
                  go_wp2
                  go_roundw
                  case rel => exact ⟨m + 1, by go_num, by omega, by rw [HAP.out]; go_num, HL8⟩
                  case measure => simp [intOf]; omega
                | some p =>
                  rw [hpp, show parZ (some p) = (p : Int) from rfl] at HPB
                  have HAP := hide (ap_some hpp)
                  have hp0 : ¬ (p : Int) < 0 := by omega
                  go_wp2_with fail
                  refine HLE3.out.mono ?_
                  rintro e y6 ⟨rfl, rfl⟩
                  go_wp2_with fail
                  refine HPB.out.mono ?_
                  rintro e y7 ⟨rfl, rfl⟩
                  go_wp2
                  go_roundw
                  case rel => exact ⟨m + 1, by go_num, by omega, by rw [HAP.out], HL8⟩
                  case measure => simp [intOf]; omega
              · have hmt2 : ¬ (m : Int) < T.length := by omega
                have hme : m = T.length := by omega
                subst hme
                have HAL := hide alive_p
                have HP0 := hide (fun W (h : Liv w.heap.size w W pb T) => parent_q HWF.out (by omega) 0 h.own)
                rw [show parentZ T 0 = -1 by unfold parentZ; rw [if_neg (by omega)]; show parZ (parentN T 0) = -1; rw [HWF.out.root]; rfl] at HP0
                have HLF := hide (fun W (h : Liv w.heap.size w W pb T) => len_q h.own)
                have hsum : (sk T T.length : Int) + (ap T T.length : Int) = (T.length : Int) := by
                  have h := HAT.out
                  have h1 : sk T T.length = sumL (List.range T.length) (fun i => (kidsAt T i).length) := rfl
                  have h2 : ap T T.length = (apartL T).length := rfl
                  omega
                have hb1 : sk T T.length ≤ 41 := by omega
                have hb2 : ap T T.length ≤ 41 := by omega
                generalize sk T T.length = S at *
                generalize ap T T.length = Q at *
                go_wp2_with fail
                refine HLE3.out.mono ?_
                rintro e y6 ⟨rfl, rfl⟩
                go_wp2_with fail
                refine (HAL.out _).mono ?_
                rintro e y7 ⟨rfl, b7⟩
                have HL9 := hide (HL8.out.on b7)
                clear b7
                go_wp2_with fail
                refine (HP0.out _ HL9.out).mono ?_
                rintro e y8 ⟨rfl, rfl⟩
                go_wp2_with fail
                refine (HLF.out _ HL9.out).mono ?_
                rintro e y9 ⟨rfl, rfl⟩
                have HBF := hide HL9.out.bel
                go_wp2
                go_ret
                exact ⟨by simp [hsum], HBF.out⟩
      · have hlt2 : ¬ (i : Int) < xs.length := by omega
        go_wp2_with fail
        have HTL := hide (by have := HG.out.1.ll; omega : T.length ≤ 41)
        have htl : T.length ≤ 41 := HTL.out
        have HWF := hide HG.out.1.wf
        have HL0 := hide HG.out.2
        clear HG
        go_loopw [5, 6, 7, 8, 9, 10, 11] (fun v5 v6 v7 v8 v9 v10 v11 wr => ∃ n : Nat, v6 = .int .i64 (n : Int) ∧ n ≤ T.length ∧ v5 = .int .i64 (sk T n : Int) ∧ Hid (Liv w.heap.size w wr pb T)) (fun _ v6 _ _ _ _ _ _ => T.length - (intOf v6).toNat)
        case atStart => exact ⟨0, rfl, by omega, rfl, HL0⟩
        case round =>
          clear HL0
          obtain ⟨n, rfl, hn, rfl, HL⟩ := hrel
          have HLEN := hide (len_q HL.out.own)
          by_cases hlt : n < T.length
          · have hlt2 : (n : Int) < T.length := by omega
            have HKI := hide (kids_p HWF.out (by omega) (n : Int) HL.out.own)
            rw [show kidsZ T (n : Int) = kidsAt T n by unfold kidsZ; rw [if_pos ⟨by omega, hlt2⟩, Int.toNat_natCast]] at HKI
            have hkl : (kidsAt T n).length ≤ 41 := by have := HWF.out.kids_len n; omega
            have hsk : sk T n ≤ 2000 := by have := sk_le HWF.out n; have : n * T.length ≤ 41 * 41 := Nat.mul_le_mul (by omega) (by omega); omega
            have HSK := hide (sk_succ T n)
            have HKP := hide (fun x (hx : x ∈ kidsAt T n) => HWF.out.parent hx)
            have HKB := hide (fun x (hx : x ∈ kidsAt T n) => HWF.out.inb n x hx)
            have HND := hide (HWF.out.nodup n)
            have HUE := hide (HWF.out.up_end hlt)
            generalize kidsAt T n = ks at *
            go_wp2_with fail
            refine HLEN.out.mono ?_
            rintro e y1 ⟨rfl, rfl⟩
            go_wp2_with fail
            refine HKI.out.mono ?_
            rintro e y2 ⟨⟨v', rfl, ho⟩, b2⟩
            obtain ⟨ka, kc, rfl⟩ := owns_form ho
            have HL2 := hide (And.intro (HL.out.on b2) (owns_isI ho))
            clear ho b2
            go_wp2_with fail
            go_loopw [8, 9] (fun v8 v9 wr2 => ∃ i : Nat, v8 = .int .i64 (i : Int) ∧ i ≤ ks.length ∧ Hid (Liv w.heap.size w wr2 pb T ∧ IsI wr2 (.slice ka ks.length kc) ks)) (fun v8 _ _ => ks.length - (intOf v8).toNat)
            case atStart => exact ⟨0, rfl, by omega, HL2⟩
            case round =>
              clear HL2
              obtain ⟨i, rfl, hi, HL3⟩ := hrel
              generalize wr = wr2 at *
              by_cases hil : i < ks.length
              · have hil2 : (i : Int) < ks.length := by omega
                obtain ⟨kb, ko, rfl, hkc⟩ := HL3.out.2.at (by omega)
                have ck := hkc i hil
                have hpar := HKP.out ks[i] (List.getElem_mem hil)
                have hbd := HKB.out ks[i] (List.getElem_mem hil)
                have HPAR : Hid (∀ m, Calls Try.prog 18 #[.pointer (some ⟨pb, 0, none⟩), .int .i64 (ks[i] : Int)] (wr2.drewN m) fun e w' => e = .returned (.int .i64 (n : Int)) ∧ w' = wr2.drewN m) := hide fun m => by
                  have := parent_q HWF.out (by omega) (ks[i] : Int) ((HL3.out.1.on (below_drewN wr2 m)).own)
                  rw [show parentZ T (ks[i] : Int) = (n : Int) by unfold parentZ; rw [if_neg (by omega), Int.toNat_natCast, hpar]; rfl] at this
                  exact this
                have HLE : Hid (∀ m, Calls Try.prog 13 #[.pointer (some ⟨pb, 0, none⟩)] (wr2.drewN m) fun e w' => e = .returned (.int .i64 (T.length : Int)) ∧ w' = wr2.drewN m) := hide fun m => len_q ((HL3.out.1.on (below_drewN wr2 m)).own)
                have g1 : ¬ (ks[i] : Int) < 1 := by omega
                have g2 : ¬ (T.length : Int) ≤ (ks[i] : Int) := by omega
                have HNE := hide (fun j (hj : j < ks.length) (hne : j < i) => fun e : ks[j] = ks[i] => by have := (List.getElem_inj HND.out).1 e; omega)
                have HCK := hide hkc
                clear hpar hkc
                obtain ⟨x, hx⟩ : ∃ x, x = ks[i] := ⟨_, rfl⟩
                rw [← hx] at ck HPAR g1 g2 hbd
                have HX := hide hx
                clear hx
                go_wp2_with fail
                go_quiet (first | (go_at_call 18; exact Calls.quiet_of_same (HPAR.out _)) | (go_at_call 13; exact Calls.quiet_of_same (HLE.out _)))
                go_wp2_with fail
                go_loopw [9] (fun v9 wr3 => ∃ j : Nat, v9 = .int .i64 (j : Int) ∧ j ≤ i ∧ Hid (Below wr2.heap.size wr2 wr3)) (fun v9 _ => i - (intOf v9).toNat)
                case atStart => exact ⟨0, rfl, by omega, hide (by first | exact below_drewN _ _ | exact Below.refl _ _)⟩
                case round =>
                  obtain ⟨j, rfl, hj, HB3⟩ := hrel
                  generalize wr = wr3 at *
                  by_cases hji : j < i
                  · have hji2 : (j : Int) < (i : Int) := by omega
                    have hjl2 : (j : Int) < ks.length := by omega
                    have hne := HNE.out j (by omega) hji
                    have cj := HCK.out j (by omega)
                    have ci := HCK.out i hil
                    rw [← HX.out] at hne ci
                    have cj2 : wr3.cell? ⟨kb, ko + j, none⟩ = some (.int .i64 (ks[j] : Int)) := (HB3.out.cell (cell_lt cj)).trans cj
                    have ci2 : wr3.cell? ⟨kb, ko + i, none⟩ = some (.int .i64 (x : Int)) := (HB3.out.cell (cell_lt ci)).trans ci
                    have hne2 : ¬ (ks[j] : Int) = (x : Int) := by omega
                    have hne3 : ((ks[j] : Int) == (x : Int)) = false := beq_eq_false_iff_ne.2 hne2
                    clear hne cj ci
                    generalize ks[j] = z at *
                    go_wp2_with fail
                    go_quiet (fail)
                    go_wp2
                    go_roundw
                    case rel => exact ⟨j + 1, by go_num, by omega, hide (HB3.out.trans (by first | exact (below_drewN _ _).mono HB3.out.size | exact (Below.refl _ _).mono HB3.out.size))⟩
                    case measure => simp [intOf]; omega
                  · have hji2 : ¬ (j : Int) < (i : Int) := by omega
                    have HL4 : Hid (Liv w.heap.size w wr3 pb T ∧ IsI wr3 (.slice (some ⟨kb, ko, none⟩) ks.length kc) ks) := hide ⟨HL3.out.1.on HB3.out, HL3.out.2.below HB3.out⟩
                    go_wp2
                    go_roundw
                    case rel => exact ⟨i + 1, by go_num, by omega, HL4⟩
                    case measure => simp [intOf]; omega
              · have hil2 : ¬ (i : Int) < ks.length := by omega
                have HL5 := hide HL3.out.1
                clear HL3
                go_wp2_with fail
                go_loopw [10, 11] (fun v10 v11 wr4 => ∃ (k : Nat) (q : Option Nat), v11 = .int .i64 (k : Int) ∧ v10 = .int .i64 (parZ q) ∧ k ≤ T.length ∧ Hid (Liv w.heap.size w wr4 pb T ∧ upO T (T.length - k) q = none)) (fun _ v11 _ => T.length - (intOf v11).toNat)
                case atStart => exact ⟨0, some n, rfl, rfl, by omega, hide ⟨HL5.out, HUE.out⟩⟩
                case round =>
                  clear HL5
                  obtain ⟨k, q, rfl, rfl, hk, HL6⟩ := hrel
                  have HLE2 := hide (len_q HL6.out.1.own)
                  cases hq : q with
                  | none =>
                    subst hq
                    rw [parZ_none]
                    have HL7 := hide HL6.out.1
                    clear HL6
                    go_wp2
                    go_roundw
                    case rel => exact ⟨n + 1, by go_num, by omega, by rw [HSK.out]; go_num, HL7⟩
                    case measure => simp [intOf]; omega
                  | some p =>
                    subst hq
                    rw [show parZ (some p) = (p : Int) from rfl]
                    by_cases hkl2 : k < T.length
                    · have hkl3 : (k : Int) < T.length := by omega
                      have HPA := hide (parent_q HWF.out (by omega) (p : Int) HL6.out.1.own)
                      rw [show parentZ T (p : Int) = parZ (parentN T p) by unfold parentZ; rw [if_neg (by omega), Int.toNat_natCast]] at HPA
                      have HUN : Hid (upO T (T.length - (k + 1)) (parentN T p) = none) := hide (by
                        have h := HL6.out.2
                        rw [show T.length - k = (T.length - (k + 1)) + 1 by omega] at h
                        exact h)
                      have HL7 := hide HL6.out.1
                      clear HL6
                      go_wp2_with fail
                      refine HLE2.out.mono ?_
                      rintro e y4 ⟨rfl, rfl⟩
                      go_wp2_with fail
                      refine HPA.out.mono ?_
                      rintro e y5 ⟨rfl, rfl⟩
                      go_wp2
                      go_roundw
                      case rel => exact ⟨k + 1, parentN T p, by go_num, rfl, by omega, hide ⟨HL7.out, HUN.out⟩⟩
                      case measure => simp [intOf]; omega
                    · exfalso
                      have h := HL6.out.2
                      rw [show T.length - k = 0 by omega] at h
                      cases h
          · have hlt2 : ¬ (n : Int) < T.length := by omega
            have hne : n = T.length := by omega
            subst hne
            have HAT := hide HWF.out.all_told
            go_wp2_with fail
            refine HLEN.out.mono ?_
            rintro e y1 ⟨rfl, rfl⟩
            go_wp2_with fail
            go_loopw [12, 13] (fun v12 v13 wr5 => ∃ m : Nat, v13 = .int .i64 (m : Int) ∧ m ≤ T.length ∧ v12 = .int .i64 (ap T m : Int) ∧ Hid (Liv w.heap.size w wr5 pb T)) (fun _ v13 _ => T.length - (intOf v13).toNat)
            case atStart => exact ⟨0, rfl, by omega, rfl, HL⟩
            case round =>
              clear HL HLEN
              obtain ⟨m, rfl, hm, rfl, HL8⟩ := hrel
              have HLE3 := hide (len_q HL8.out.own)
              by_cases hmt : m < T.length
              · have hmt2 : (m : Int) < T.length := by omega
                have HPB := hide (parent_q HWF.out (by omega) (m : Int) HL8.out.own)
                rw [show parentZ T (m : Int) = parZ (parentN T m) by unfold parentZ; rw [if_neg (by omega), Int.toNat_natCast]] at HPB
                have hap : ap T m ≤ 41 := by have := ap_le T m; omega
                cases hpp : parentN T m with
                | none =>
                  rw [hpp, parZ_none] at HPB
                  have HAP := hide (ap_none hpp)
                  go_wp2_with fail
                  refine HLE3.out.mono ?_
                  rintro e y6 ⟨rfl, rfl⟩
                  go_wp2_with fail
                  refine HPB.out.mono ?_
                  rintro e y7 ⟨rfl, rfl⟩
                  go_wp2
                  go_roundw
                  case rel => exact ⟨m + 1, by go_num, by omega, by rw [HAP.out]; go_num, HL8⟩
                  case measure => simp [intOf]; omega
                | some p =>
                  rw [hpp, show parZ (some p) = (p : Int) from rfl] at HPB
                  have HAP := hide (ap_some hpp)
                  have hp0 : ¬ (p : Int) < 0 := by omega
                  go_wp2_with fail
                  refine HLE3.out.mono ?_
                  rintro e y6 ⟨rfl, rfl⟩
                  go_wp2_with fail
                  refine HPB.out.mono ?_
                  rintro e y7 ⟨rfl, rfl⟩
                  go_wp2
                  go_roundw
                  case rel => exact ⟨m + 1, by go_num, by omega, by rw [HAP.out], HL8⟩
                  case measure => simp [intOf]; omega
              · have hmt2 : ¬ (m : Int) < T.length := by omega
                have hme : m = T.length := by omega
                subst hme
                have HAL := hide alive_p
                have HP0 := hide (fun W (h : Liv w.heap.size w W pb T) => parent_q HWF.out (by omega) 0 h.own)
                rw [show parentZ T 0 = -1 by unfold parentZ; rw [if_neg (by omega)]; show parZ (parentN T 0) = -1; rw [HWF.out.root]; rfl] at HP0
                have HLF := hide (fun W (h : Liv w.heap.size w W pb T) => len_q h.own)
                have hsum : (sk T T.length : Int) + (ap T T.length : Int) = (T.length : Int) := by
                  have h := HAT.out
                  have h1 : sk T T.length = sumL (List.range T.length) (fun i => (kidsAt T i).length) := rfl
                  have h2 : ap T T.length = (apartL T).length := rfl
                  omega
                have hb1 : sk T T.length ≤ 41 := by omega
                have hb2 : ap T T.length ≤ 41 := by omega
                generalize sk T T.length = S at *
                generalize ap T T.length = Q at *
                go_wp2_with fail
                refine HLE3.out.mono ?_
                rintro e y6 ⟨rfl, rfl⟩
                go_wp2_with fail
                refine (HAL.out _).mono ?_
                rintro e y7 ⟨rfl, b7⟩
                have HL9 := hide (HL8.out.on b7)
                clear b7
                go_wp2_with fail
                refine (HP0.out _ HL9.out).mono ?_
                rintro e y8 ⟨rfl, rfl⟩
                go_wp2_with fail
                refine (HLF.out _ HL9.out).mono ?_
                rintro e y9 ⟨rfl, rfl⟩
                have HBF := hide HL9.out.bel
                go_wp2
                go_ret
                exact ⟨by simp [hsum], HBF.out⟩
end Go.Proofs.Ytjgklemhlmgheaa
