/- What TokenBack answers: true; nothing that was there is written. -/
import Derived.Test.YtlfjmgniflkapaaDoorLawB1
import Derived.Deep.RegionWith
import Derived.BigQuiet
import Derived.Deep.QuietTactic
set_option linter.unusedVariables false
set_option linter.unusedSimpArgs false
namespace Go.Proofs.YtlfjmgniflkapaaDoor
open Go.RowKit

set_option maxRecDepth 10000 in
set_option maxHeartbeats 4000000 in
theorem back_walk (kd : Int) (nm : ByteArray) (v : Value) (aa : AttrL) (cl : Bool) (tx r : ByteArray) (w : World) (he : Env w) (hb : IsZ w v aa) (hsz : ∀ p ∈ aa, p.1.length ≤ 9223372036854775807) (hnm : nm.size ≤ 9223372036854775807) :
    Calls Tryd.prog 5 #[.agg #[.int .i64 kd, .string nm, v, .bool cl, .string tx], .string r] w fun e w' => e = .returned (.bool true) ∧ Below w.heap.size w w' := by
  have HZ := hide hb
  obtain ⟨va, vc, rfl⟩ := isZ_form hb
  clear hb
  have H1 := hide alive_any
  have HE := hide (he.alloc (.cells #[.int .i64 kd, .string nm, .slice va aa.length vc, .bool cl, .string tx] 32))
  have HB := hide (below_alloc w (.cells #[.int .i64 kd, .string nm, .slice va aa.length vc, .bool cl, .string tx] 32))
  have KO := hide (Kept.new w [.int .i64 kd, .string nm, .slice va aa.length vc, .bool cl, .string tx] 32)
  clear he
  by_cases hl6 : 6 < aa.length
  · have hl62 : (6 : Int) < aa.length := by omega
    go_enter Tryd.func5, Tryd.ntmps5
    go_wp2_with fail
    refine (H1.out _ HE.out).mono ?_
    rintro e w1 ⟨rfl, b1⟩
    go_wp2
    go_ret
    exact ⟨rfl, HB.out.trans (b1.mono HB.out.size)⟩
  have hl62 : ¬ (6 : Int) < aa.length := by omega
  by_cases hr : 200 < r.size
  · have hr2 : (200 : Int) < r.size := by omega
    go_enter Tryd.func5, Tryd.ntmps5
    go_wp2_with fail
    refine (H1.out _ HE.out).mono ?_
    rintro e w1 ⟨rfl, b1⟩
    go_wp2
    go_ret
    exact ⟨rfl, HB.out.trans (b1.mono HB.out.size)⟩
  have hr2 : ¬ (200 : Int) < r.size := by omega
  have HSM := hide (small_any nm hnm)
  cases hsm : smallL nm.data.toList with
  | false =>
    rw [hsm] at HSM
    clear hsm
    go_enter Tryd.func5, Tryd.ntmps5
    go_wp2_with fail
    refine (HSM.out _).mono ?_
    rintro e w1 ⟨rfl, rfl⟩
    go_wp2_with fail
    refine (H1.out _ HE.out).mono ?_
    rintro e w1 ⟨rfl, b1⟩
    go_wp2
    go_ret
    exact ⟨rfl, HB.out.trans (b1.mono HB.out.size)⟩
  | true =>
    rw [hsm] at HSM
    obtain ⟨hne, hal, hnl⟩ := small_len _ hsm
    rw [← size_list] at hnl
    have HSMN := hide hsm
    have HST : Hid (((⟨#[60]⟩ : ByteArray) ++ nm).data.toList = 60 :: (nm.data.toList ++ wroteA (aa.take 0))) := hide (by
      rw [str_app _ _ _ _ (rfl : (⟨#[60]⟩ : ByteArray).data.toList = [60]) rfl, List.take_zero]
      simp [wroteA])
    have hstz : ((⟨#[60]⟩ : ByteArray) ++ nm).size ≤ 30 := by
      rw [ByteArray.size_append]
      show 1 + nm.size ≤ 30
      omega
    have HSMA : Hid (∀ k (h : k < aa.length) W, Calls Tryd.prog 11 #[.string ⟨aa[k].1.toArray⟩] W fun e w' => e = .returned (.bool (smallL aa[k].1)) ∧ w' = W) := hide fun k h W => by
      have h1 := small_any ⟨aa[k].1.toArray⟩ (by rw [size_list]; exact hsz _ (List.getElem_mem h)) W
      exact h1
    clear hsm hne hal hsz
    go_enter Tryd.func5, Tryd.ntmps5
    go_wp2_with fail
    refine (HSM.out _).mono ?_
    rintro e w1 ⟨rfl, rfl⟩
    go_wp2_with fail
    clear HSM
    generalize hW0 : w.alloc (.cells #[.int .i64 kd, .string nm, .slice va aa.length vc, .bool cl, .string tx] 32) = W0 at *
    have HZ0 := hide (HZ.out.below HB.out)
    have hg0 : w.heap.size < W0.heap.size := KO.out.lt
    clear HZ hW0
    generalize hG : w.heap.size = g at *
    go_loopw [5, 6] (fun vs vi wr => ∃ (k : Nat) (S : ByteArray), vs = .string S ∧ vi = .int .i64 (k : Int) ∧ k ≤ aa.length ∧ Below W0.heap.size W0 wr ∧ S.size ≤ 30 + 400 * k ∧ Hid (S.data.toList = 60 :: (nm.data.toList ++ wroteA (aa.take k))) ∧ Hid (okA (aa.take k)) ∧ Hid ((namesA (aa.take k)).Nodup)) (fun _ vi _ => aa.length - (intOf vi).toNat)
    case atStart => exact ⟨0, _, rfl, rfl, by omega, Below.refl _ _, by omega, HST, hide (fun a ha => by simp at ha), hide (by simp [namesA])⟩
    case round =>
      clear HST hstz
      obtain ⟨k, S, rfl, rfl, hk, bw, hSz, HS, HOK, HND⟩ := hrel
      have q1 : wr.cell? ⟨g, 1, none⟩ = some (.string nm) := (KO.out.below bw).1 1
      have q2 : wr.cell? ⟨g, 2, none⟩ = some (.slice va aa.length vc) := (KO.out.below bw).1 2
      have q3 : wr.cell? ⟨g, 3, none⟩ = some (.bool cl) := (KO.out.below bw).1 3
      have KW := hide (KO.out.below bw)
      have EW := hide (HE.out.below bw)
      have BW := hide bw
      have BT := hide (HB.out.trans (bw.mono (by omega)))
      have ZW := hide (HZ0.out.below bw)
      have hgw : g < wr.heap.size := KW.out.lt
      clear bw
      by_cases hlt : k < aa.length
      · have hlt2 : (k : Int) < aa.length := by omega
        obtain ⟨b, o, rfl, hcs⟩ : ∃ b o, va = some ⟨b, o, none⟩ ∧ ∀ j (hj : j < aa.length), wr.cell? ⟨b, o + j * 2, none⟩ = some (.string ⟨aa[j].1.toArray⟩) ∧ wr.cell? ⟨b, o + j * 2 + 1, none⟩ = some (.string ⟨aa[j].2.toArray⟩) := by
          rcases ZW.out with (⟨_, h0⟩ | ⟨b, o, cap, hv, hcap, hcs⟩) | ⟨h0, _⟩
          · rw [h0] at hlt; exact absurd hlt (by simp)
          · injection hv with e1 e2 e3
            exact ⟨b, o, e1, hcs⟩
          · rw [h0] at hlt; exact absurd hlt (by simp)
        obtain ⟨c0, c1⟩ := hcs k hlt
        have HCS := hide hcs
        have HCS0 := hide hcs
        clear hcs
        have HSK := hide (HSMA.out k hlt)
        have HQ := hide (quoted_is ⟨aa[k].2.toArray⟩)
        rw [show (⟨aa[k].2.toArray⟩ : ByteArray).data.toList = aa[k].2 from rfl] at HQ
        have hnk : (⟨aa[k].1.toArray⟩ : ByteArray).data.toList = aa[k].1 := rfl
        generalize (⟨aa[k].1.toArray⟩ : ByteArray) = nk at *
        generalize (⟨aa[k].2.toArray⟩ : ByteArray) = vk at *
        have HK := hide (Kept.new wr [.string nk, .string vk] 36)
        have bQ := below_alloc wr (.cells #[.string nk, .string vk] 36)
        have EQ := hide (EW.out.below bQ)
        have KQ := hide (KW.out.below bQ)
        have ZQ := hide (ZW.out.below bQ)
        have HCQ : Hid (∀ j (hj : j < aa.length), (wr.alloc (.cells #[.string nk, .string vk] 36)).cell? ⟨b, o + j * 2, none⟩ = some (.string ⟨aa[j].1.toArray⟩)) := hide fun j hj => by
          have h1 := (HCS0.out j hj).1
          rw [bQ.cell (cell_lt h1)]
          exact h1
        have BQ := hide (BT.out.trans (bQ.mono (by omega)))
        have BQW := hide (BW.out.trans (bQ.mono BW.out.size))
        have hzq : wr.heap.size < (wr.alloc (.cells #[.string nk, .string vk] 36)).heap.size := HK.out.lt
        clear bQ HCS0
        go_wp2_with fail
        clear c0 c1 q1 q2 q3
        refine (HSK.out _).mono ?_
        rintro e w1 ⟨rfl, rfl⟩
        clear HSK
        generalize wr.alloc (.cells #[.string nk, .string vk] 36) = WQ at *
        have p0 : WQ.cell? ⟨wr.heap.size, 0, none⟩ = some (.string nk) := HK.out.1 0
        have p1 : WQ.cell? ⟨wr.heap.size, 1, none⟩ = some (.string vk) := HK.out.1 1
        cases hsk : smallL aa[k].1 with
        | false =>
          go_wp2_with fail
          refine (H1.out _ EQ.out).mono ?_
          rintro e w1 ⟨rfl, b1⟩
          have B1 := hide (BQ.out.trans (b1.mono (by omega)))
          clear b1
          go_wp2
          go_ret
          exact ⟨rfl, by rw [hG]; exact B1.out⟩
        | true =>
          by_cases hv : 60 < vk.size
          · have hv2 : (60 : Int) < vk.size := by omega
            go_wp2_with fail
            refine (H1.out _ EQ.out).mono ?_
            rintro e w1 ⟨rfl, b1⟩
            have B1 := hide (BQ.out.trans (b1.mono (by omega)))
            clear b1
            go_wp2
            go_ret
            exact ⟨rfl, by rw [hG]; exact B1.out⟩
          · have hv2 : ¬ (60 : Int) < vk.size := by omega
            go_wp2_with fail
            clear p0 p1
            obtain ⟨q, hq, hqz, hqc⟩ := HQ.out (by omega)
            have HQ2 := hide hqc
            have hnkz : nk.size ≤ 20 := by
              rw [size_list, hnk]
              exact (small_len _ hsk).2.2
            have HOK2 := hide (ok_one aa k hlt HOK.out hsk)
            have HND2 := hide (names_one aa k hlt HND.out)
            have HL := hide (wrote_more S nk q nm aa k hlt HS.out hnk hq)
            have hz5 := wrote_size S nk q k hSz hnkz hqz
            clear HQ HOK HND KW EW BW BT ZW HS hq hqc
            generalize hGA : wr.heap.size = ga at *
            go_loopw [8] (fun vj wi => ∃ j : Nat, vj = .int .i64 (j : Int) ∧ j ≤ k ∧ Below WQ.heap.size WQ wi ∧ Hid (∀ i (hi : i < aa.length), i < j → ¬ aa[i].1 = aa[k].1)) (fun vj _ => k - (intOf vj).toNat)
            case atStart => exact ⟨0, rfl, by omega, Below.refl _ _, hide (fun i hi h => absurd h (by omega))⟩
            case round =>
              obtain ⟨j, rfl, hj, bi, HD⟩ := hrel
              have p0 : wr.cell? ⟨ga, 0, none⟩ = some (.string nk) := (HK.out.below bi).1 0
              have p1 : wr.cell? ⟨ga, 1, none⟩ = some (.string vk) := (HK.out.below bi).1 1
              have q2 : wr.cell? ⟨g, 2, none⟩ = some (.slice (some ⟨b, o, none⟩) aa.length vc) := (KQ.out.below bi).1 2
              have BI := hide bi
              by_cases hjk : j < k
              · have hjk2 : (j : Int) < k := by omega
                have hja : j < aa.length := by omega
                have hja2 : (j : Int) < aa.length := by omega
                have cj : wr.cell? ⟨b, o + j * 2, none⟩ = some (.string ⟨aa[j].1.toArray⟩) := by
                  have h1 := HCQ.out j hja
                  rw [bi.cell (cell_lt h1)]
                  exact h1
                clear bi
                by_cases hd : aa[j].1 = aa[k].1
                · have g1 : ((⟨aa[j].1.toArray⟩ : ByteArray).toList == nk.toList) = true := beq_iff_eq.2 (by rw [Lib.toList_data, Lib.toList_data, hnk, ← hd])
                  generalize (⟨aa[j].1.toArray⟩ : ByteArray) = nj at *
                  go_wp2_with fail
                  go_quiet (fail)
                  have BI2 := hide (BI.out.trans (below_drawsB _ wr nq))
                  go_wp2_with fail
                  refine (H1.out _ (EQ.out.below BI2.out)).mono ?_
                  rintro e w1 ⟨rfl, b1⟩
                  have B1 := hide ((BQ.out.trans (BI2.out.mono (by omega))).trans (b1.mono (by have := BI2.out.size; omega)))
                  clear b1
                  go_wp2
                  go_ret
                  exact ⟨rfl, by rw [hG]; exact B1.out⟩
                · have g1 : ((⟨aa[j].1.toArray⟩ : ByteArray).toList == nk.toList) = false := beq_eq_false_iff_ne.2 (fun h => hd (by rw [Lib.toList_data, Lib.toList_data, hnk] at h; exact h))
                  have HD2 : Hid (∀ i (hi : i < aa.length), i < j + 1 → ¬ aa[i].1 = aa[k].1) := hide fun i hi h => by
                    by_cases e : i = j
                    · subst e; exact hd
                    · exact HD.out i hi (by omega)
                  generalize (⟨aa[j].1.toArray⟩ : ByteArray) = nj at *
                  clear HD
                  go_wp2_with fail
                  go_quiet (fail)
                  have BI2 := hide (BI.out.trans (below_drawsB _ wr nq))
                  go_wp2
                  go_roundw
                  case rel => exact ⟨j + 1, by go_num, by omega, BI2.out, HD2⟩
                  case measure => simp [intOf]; omega
              · have hjk2 : ¬ (j : Int) < k := by omega
                have hje : j = k := by omega
                subst hje
                have HND3 := hide (HND2.out HD.out)
                have hSz2 : S.size ≤ 2430 := by omega
                clear bi HND2 HD
                go_wp2_with fail
                go_quiet ((go_at_call 12; refine Calls.quiet_of_same (HQ2.out _)))
                have BIW := hide (BQW.out.trans ((BI.out.trans (below_drawsB _ wr nq)).mono BQW.out.size))
                go_wp2
                go_roundw
                case rel => exact ⟨j + 1, _, rfl, by go_num, by omega, BIW.out, hz5, HL, HOK2, HND3⟩
                case measure => simp [intOf]; omega
      · have hlt2 : ¬ (k : Int) < aa.length := by omega
        have hke : k = aa.length := by omega
        have HS2 : Hid (S.data.toList = 60 :: (nm.data.toList ++ wroteA aa)) := hide (by have := HS.out; rw [hke, List.take_length] at this; exact this)
        have HOKA : Hid (okA aa) := hide (by have := HOK.out; rw [hke, List.take_length] at this; exact this)
        have HNDA : Hid ((namesA aa).Nodup) := hide (by have := HND.out; rw [hke, List.take_length] at this; exact this)
        clear HS HOK HND
        have hSz2 : S.size ≤ 2430 := by omega
        -- ENDS
        cases cl with
        | false =>
          have HL : Hid (S.data.toList = 60 :: (nm.data.toList ++ (wroteA aa ++ strokeL false))) := hide (by
            rw [HS2.out]
            simp [strokeL])
          have hSz3 : S.size ≤ 5000 := by omega
          have HN1 := hide (next_tag S nm r aa false (by omega) (by omega) HL.out HSMN.out HOKA.out HNDA.out)
          have HN2 := hide (next_stop nm r (by omega) HSMN.out)
          have HN3 := hide (next_cut S nm aa false (by omega) HL.out HSMN.out HOKA.out HNDA.out)
          have HSS1 : Hid (∀ ua ub W, IsZ W ua aa → IsZ W ub aa → Calls Tryd.prog 13 #[.agg #[.int .i64 2, .string nm, ua, .bool false, .string ⟨#[]⟩], .agg #[.int .i64 2, .string nm, ub, .bool false, .string ⟨#[]⟩]] W fun e w' => e = .returned (.bool true) ∧ Below W.heap.size W w') := hide (fun ua ub W h1 h2 => same_z 2 nm ⟨#[]⟩ false aa ua ub (by omega) W h1 h2)
          have HSS2 : Hid (∀ ua ub W, IsZ W ua [] → IsZ W ub [] → Calls Tryd.prog 13 #[.agg #[.int .i64 3, .string nm, ua, .bool false, .string ⟨#[]⟩], .agg #[.int .i64 3, .string nm, ub, .bool false, .string ⟨#[]⟩]] W fun e w' => e = .returned (.bool true) ∧ Below W.heap.size W w') := hide (fun ua ub W h1 h2 => same_z 3 nm ⟨#[]⟩ false [] ua ub (by decide) W h1 h2)
          have bW := below_alloc wr (.cells #[.int .i64 2, .string nm, .slice va aa.length vc, .bool false, .string ⟨#[]⟩] 32)
          have KWt := hide (Kept.new wr [.int .i64 2, .string nm, .slice va aa.length vc, .bool false, .string ⟨#[]⟩] 32)
          replace KW := hide (KW.out.below bW)
          replace EW := hide (EW.out.below bW)
          replace ZW := hide (ZW.out.below bW)
          replace BT := hide (BT.out.trans (bW.mono (by omega)))
          clear bW HL HS2 HOKA HNDA HSMN
          go_wp2_with fail
          clear q1 q2 q3
          refine (HN1.out _ EW.out).mono ?_
          rintro e w2 ⟨⟨sv, hA, rfl⟩, b1⟩
          obtain ⟨sa1, sc1, rfl⟩ := isA_form hA
          have bA := below_alloc w2 (.cells #[.int .i64 2, .string nm, .slice sa1 aa.length sc1, .bool false, .string ⟨#[]⟩] 32)
          have KA := hide (Kept.new w2 [.int .i64 2, .string nm, .slice sa1 aa.length sc1, .bool false, .string ⟨#[]⟩] 32)
          have A1 := hide (hA.below bA)
          have z1 : g < w2.heap.size := (KW.out.below b1).lt
          have z2 : wr.heap.size < w2.heap.size := (KWt.out.below b1).lt
          have q1 : w2.cell? ⟨g, 1, none⟩ = some (.string nm) := (KW.out.below b1).1 1
          replace KW := hide ((KW.out.below b1).below bA)
          replace KWt := hide ((KWt.out.below b1).below bA)
          replace EW := hide ((EW.out.below b1).below bA)
          replace ZW := hide ((ZW.out.below b1).below bA)
          replace BT := hide (BT.out.trans (b1.mono (by rw [← hG]; exact BT.out.size)))
          replace BT := hide (BT.out.trans (bA.mono (by rw [← hG]; exact BT.out.size)))
          clear hA b1 bA HN1
          go_wp2_with fail
          clear q1
          refine (HN2.out _ EW.out).mono ?_
          rintro e w3 ⟨⟨sv, hA, rfl⟩, b1⟩
          obtain ⟨sa2, sc2, rfl⟩ := isA_form hA
          simp only [List.length_nil] at hA ⊢
          have bA := below_alloc w3 (.cells #[.int .i64 3, .string nm, .slice sa2 0 sc2, .bool false, .string ⟨#[]⟩] 32)
          have KB := hide (Kept.new w3 [.int .i64 3, .string nm, .slice sa2 0 sc2, .bool false, .string ⟨#[]⟩] 32)
          have A2 := hide (hA.below bA)
          have z3 : w2.heap.size < w3.heap.size := (KA.out.below b1).lt
          replace KW := hide ((KW.out.below b1).below bA)
          replace KWt := hide ((KWt.out.below b1).below bA)
          replace KA := hide ((KA.out.below b1).below bA)
          replace EW := hide ((EW.out.below b1).below bA)
          replace ZW := hide ((ZW.out.below b1).below bA)
          replace A1 := hide ((A1.out.below b1).below bA)
          replace BT := hide (BT.out.trans (b1.mono (by rw [← hG]; exact BT.out.size)))
          replace BT := hide (BT.out.trans (bA.mono (by rw [← hG]; exact BT.out.size)))
          clear hA b1 bA HN2
          go_wp2_with fail
          refine (HN3.out _ EW.out).mono ?_
          rintro e w4 ⟨⟨sv, hA, rfl⟩, b1⟩
          obtain ⟨sa3, sc3, rfl⟩ := isA_form hA
          simp only [List.length_nil] at hA ⊢
          have bA := below_alloc w4 (.cells #[.int .i64 0, .string ⟨#[]⟩, .slice sa3 0 sc3, .bool false, .string ⟨#[]⟩] 32)
          have KN := hide (Kept.new w4 [.int .i64 0, .string ⟨#[]⟩, .slice sa3 0 sc3, .bool false, .string ⟨#[]⟩] 32)
          have z4 : w3.heap.size < w4.heap.size := (KB.out.below b1).lt
          replace KW := hide ((KW.out.below b1).below bA)
          replace KWt := hide ((KWt.out.below b1).below bA)
          replace KA := hide ((KA.out.below b1).below bA)
          replace KB := hide ((KB.out.below b1).below bA)
          replace EW := hide ((EW.out.below b1).below bA)
          replace ZW := hide ((ZW.out.below b1).below bA)
          replace A1 := hide ((A1.out.below b1).below bA)
          replace A2 := hide ((A2.out.below b1).below bA)
          replace BT := hide (BT.out.trans (b1.mono (by rw [← hG]; exact BT.out.size)))
          replace BT := hide (BT.out.trans (bA.mono (by rw [← hG]; exact BT.out.size)))
          clear hA b1 bA HN3
          go_wp2_with fail
          refine (H1.out _ EW.out).mono ?_
          rintro e w5 ⟨rfl, b1⟩
          replace KW := hide (KW.out.below b1)
          replace KWt := hide (KWt.out.below b1)
          replace KA := hide (KA.out.below b1)
          replace KB := hide (KB.out.below b1)
          replace KN := hide (KN.out.below b1)
          replace EW := hide (EW.out.below b1)
          replace ZW := hide (ZW.out.below b1)
          replace A1 := hide (A1.out.below b1)
          replace A2 := hide (A2.out.below b1)
          replace BT := hide (BT.out.trans (b1.mono (by rw [← hG]; exact BT.out.size)))
          clear b1 H1
          generalize wr.heap.size = G1 at *
          generalize w2.heap.size = G2 at *
          generalize w3.heap.size = G3 at *
          generalize w4.heap.size = G4 at *
          have t0 : w5.cell? ⟨G1, 0, none⟩ = some (.int .i64 2) := KWt.out.1 0
          have t1 : w5.cell? ⟨G1, 1, none⟩ = some (.string nm) := KWt.out.1 1
          have t2 : w5.cell? ⟨G1, 2, none⟩ = some (.slice va aa.length vc) := KWt.out.1 2
          have t3 : w5.cell? ⟨G1, 3, none⟩ = some (.bool false) := KWt.out.1 3
          have t4 : w5.cell? ⟨G1, 4, none⟩ = some (.string ⟨#[]⟩) := KWt.out.1 4
          have u0 : w5.cell? ⟨G2, 0, none⟩ = some (.int .i64 2) := KA.out.1 0
          have u1 : w5.cell? ⟨G2, 1, none⟩ = some (.string nm) := KA.out.1 1
          have u2 : w5.cell? ⟨G2, 2, none⟩ = some (.slice sa1 aa.length sc1) := KA.out.1 2
          have u3 : w5.cell? ⟨G2, 3, none⟩ = some (.bool false) := KA.out.1 3
          have u4 : w5.cell? ⟨G2, 4, none⟩ = some (.string ⟨#[]⟩) := KA.out.1 4
          go_wp2_with fail
          refine (HSS1.out _ _ _ (.inl A1.out) ZW.out).mono ?_
          rintro e w6 ⟨rfl, b1⟩
          clear t0 t1 t2 t3 t4 u0 u1 u2 u3 u4 KWt KA ZW
          replace KW := hide (KW.out.below b1)
          replace KB := hide (KB.out.below b1)
          replace KN := hide (KN.out.below b1)
          replace A2 := hide (A2.out.below b1)
          replace BT := hide (BT.out.trans (b1.mono (by rw [← hG]; exact BT.out.size)))
          clear b1 HSS1
          have t0 : w6.cell? ⟨G3, 0, none⟩ = some (.int .i64 3) := KB.out.1 0
          have t1 : w6.cell? ⟨G3, 1, none⟩ = some (.string nm) := KB.out.1 1
          have t2 : w6.cell? ⟨G3, 2, none⟩ = some (.slice sa2 0 sc2) := KB.out.1 2
          have t3 : w6.cell? ⟨G3, 3, none⟩ = some (.bool false) := KB.out.1 3
          have t4 : w6.cell? ⟨G3, 4, none⟩ = some (.string ⟨#[]⟩) := KB.out.1 4
          have q1 : w6.cell? ⟨g, 1, none⟩ = some (.string nm) := KW.out.1 1
          go_wp2_with fail
          refine (HSS2.out _ _ _ (.inl A2.out) (.inr ⟨rfl, _, _, rfl⟩)).mono ?_
          rintro e w7 ⟨rfl, b1⟩
          clear t0 t1 t2 t3 t4 q1 KB
          replace KW := hide (KW.out.below b1)
          replace KN := hide (KN.out.below b1)
          replace BT := hide (BT.out.trans (b1.mono (by rw [← hG]; exact BT.out.size)))
          clear b1 HSS2 A2
          have q1 : w7.cell? ⟨g, 1, none⟩ = some (.string nm) := KW.out.1 1
          have t0 : w7.cell? ⟨G4, 0, none⟩ = some (.int .i64 0) := KN.out.1 0
          go_wp2
          go_ret
          exact ⟨rfl, by rw [hG]; exact BT.out⟩
        | true =>
          have HL : Hid ((S ++ (⟨#[47]⟩ : ByteArray)).data.toList = 60 :: (nm.data.toList ++ (wroteA aa ++ strokeL true))) := hide (by
            rw [str_app _ _ _ _ HS2.out (rfl : (⟨#[47]⟩ : ByteArray).data.toList = [47])]
            simp [strokeL])
          have hSz3 : (S ++ (⟨#[47]⟩ : ByteArray)).size ≤ 5000 := by rw [ByteArray.size_append]; show S.size + 1 ≤ 5000; omega
          have HN1 := hide (next_tag (S ++ (⟨#[47]⟩ : ByteArray)) nm r aa true (by omega) (by omega) HL.out HSMN.out HOKA.out HNDA.out)
          have HN2 := hide (next_stop nm r (by omega) HSMN.out)
          have HN3 := hide (next_cut (S ++ (⟨#[47]⟩ : ByteArray)) nm aa true (by omega) HL.out HSMN.out HOKA.out HNDA.out)
          have HSS1 : Hid (∀ ua ub W, IsZ W ua aa → IsZ W ub aa → Calls Tryd.prog 13 #[.agg #[.int .i64 2, .string nm, ua, .bool true, .string ⟨#[]⟩], .agg #[.int .i64 2, .string nm, ub, .bool true, .string ⟨#[]⟩]] W fun e w' => e = .returned (.bool true) ∧ Below W.heap.size W w') := hide (fun ua ub W h1 h2 => same_z 2 nm ⟨#[]⟩ true aa ua ub (by omega) W h1 h2)
          have HSS2 : Hid (∀ ua ub W, IsZ W ua [] → IsZ W ub [] → Calls Tryd.prog 13 #[.agg #[.int .i64 3, .string nm, ua, .bool false, .string ⟨#[]⟩], .agg #[.int .i64 3, .string nm, ub, .bool false, .string ⟨#[]⟩]] W fun e w' => e = .returned (.bool true) ∧ Below W.heap.size W w') := hide (fun ua ub W h1 h2 => same_z 3 nm ⟨#[]⟩ false [] ua ub (by decide) W h1 h2)
          have bW := below_alloc wr (.cells #[.int .i64 2, .string nm, .slice va aa.length vc, .bool true, .string ⟨#[]⟩] 32)
          have KWt := hide (Kept.new wr [.int .i64 2, .string nm, .slice va aa.length vc, .bool true, .string ⟨#[]⟩] 32)
          replace KW := hide (KW.out.below bW)
          replace EW := hide (EW.out.below bW)
          replace ZW := hide (ZW.out.below bW)
          replace BT := hide (BT.out.trans (bW.mono (by omega)))
          clear bW HL HS2 HOKA HNDA HSMN
          go_wp2_with fail
          generalize S ++ (⟨#[47]⟩ : ByteArray) = S2 at *
          clear q1 q2 q3
          refine (HN1.out _ EW.out).mono ?_
          rintro e w2 ⟨⟨sv, hA, rfl⟩, b1⟩
          obtain ⟨sa1, sc1, rfl⟩ := isA_form hA
          have bA := below_alloc w2 (.cells #[.int .i64 2, .string nm, .slice sa1 aa.length sc1, .bool true, .string ⟨#[]⟩] 32)
          have KA := hide (Kept.new w2 [.int .i64 2, .string nm, .slice sa1 aa.length sc1, .bool true, .string ⟨#[]⟩] 32)
          have A1 := hide (hA.below bA)
          have z1 : g < w2.heap.size := (KW.out.below b1).lt
          have z2 : wr.heap.size < w2.heap.size := (KWt.out.below b1).lt
          have q1 : w2.cell? ⟨g, 1, none⟩ = some (.string nm) := (KW.out.below b1).1 1
          replace KW := hide ((KW.out.below b1).below bA)
          replace KWt := hide ((KWt.out.below b1).below bA)
          replace EW := hide ((EW.out.below b1).below bA)
          replace ZW := hide ((ZW.out.below b1).below bA)
          replace BT := hide (BT.out.trans (b1.mono (by rw [← hG]; exact BT.out.size)))
          replace BT := hide (BT.out.trans (bA.mono (by rw [← hG]; exact BT.out.size)))
          clear hA b1 bA HN1
          go_wp2_with fail
          clear q1
          refine (HN2.out _ EW.out).mono ?_
          rintro e w3 ⟨⟨sv, hA, rfl⟩, b1⟩
          obtain ⟨sa2, sc2, rfl⟩ := isA_form hA
          simp only [List.length_nil] at hA ⊢
          have bA := below_alloc w3 (.cells #[.int .i64 3, .string nm, .slice sa2 0 sc2, .bool false, .string ⟨#[]⟩] 32)
          have KB := hide (Kept.new w3 [.int .i64 3, .string nm, .slice sa2 0 sc2, .bool false, .string ⟨#[]⟩] 32)
          have A2 := hide (hA.below bA)
          have z3 : w2.heap.size < w3.heap.size := (KA.out.below b1).lt
          replace KW := hide ((KW.out.below b1).below bA)
          replace KWt := hide ((KWt.out.below b1).below bA)
          replace KA := hide ((KA.out.below b1).below bA)
          replace EW := hide ((EW.out.below b1).below bA)
          replace ZW := hide ((ZW.out.below b1).below bA)
          replace A1 := hide ((A1.out.below b1).below bA)
          replace BT := hide (BT.out.trans (b1.mono (by rw [← hG]; exact BT.out.size)))
          replace BT := hide (BT.out.trans (bA.mono (by rw [← hG]; exact BT.out.size)))
          clear hA b1 bA HN2
          go_wp2_with fail
          refine (HN3.out _ EW.out).mono ?_
          rintro e w4 ⟨⟨sv, hA, rfl⟩, b1⟩
          obtain ⟨sa3, sc3, rfl⟩ := isA_form hA
          simp only [List.length_nil] at hA ⊢
          have bA := below_alloc w4 (.cells #[.int .i64 0, .string ⟨#[]⟩, .slice sa3 0 sc3, .bool false, .string ⟨#[]⟩] 32)
          have KN := hide (Kept.new w4 [.int .i64 0, .string ⟨#[]⟩, .slice sa3 0 sc3, .bool false, .string ⟨#[]⟩] 32)
          have z4 : w3.heap.size < w4.heap.size := (KB.out.below b1).lt
          replace KW := hide ((KW.out.below b1).below bA)
          replace KWt := hide ((KWt.out.below b1).below bA)
          replace KA := hide ((KA.out.below b1).below bA)
          replace KB := hide ((KB.out.below b1).below bA)
          replace EW := hide ((EW.out.below b1).below bA)
          replace ZW := hide ((ZW.out.below b1).below bA)
          replace A1 := hide ((A1.out.below b1).below bA)
          replace A2 := hide ((A2.out.below b1).below bA)
          replace BT := hide (BT.out.trans (b1.mono (by rw [← hG]; exact BT.out.size)))
          replace BT := hide (BT.out.trans (bA.mono (by rw [← hG]; exact BT.out.size)))
          clear hA b1 bA HN3
          go_wp2_with fail
          refine (H1.out _ EW.out).mono ?_
          rintro e w5 ⟨rfl, b1⟩
          replace KW := hide (KW.out.below b1)
          replace KWt := hide (KWt.out.below b1)
          replace KA := hide (KA.out.below b1)
          replace KB := hide (KB.out.below b1)
          replace KN := hide (KN.out.below b1)
          replace EW := hide (EW.out.below b1)
          replace ZW := hide (ZW.out.below b1)
          replace A1 := hide (A1.out.below b1)
          replace A2 := hide (A2.out.below b1)
          replace BT := hide (BT.out.trans (b1.mono (by rw [← hG]; exact BT.out.size)))
          clear b1 H1
          generalize wr.heap.size = G1 at *
          generalize w2.heap.size = G2 at *
          generalize w3.heap.size = G3 at *
          generalize w4.heap.size = G4 at *
          have t0 : w5.cell? ⟨G1, 0, none⟩ = some (.int .i64 2) := KWt.out.1 0
          have t1 : w5.cell? ⟨G1, 1, none⟩ = some (.string nm) := KWt.out.1 1
          have t2 : w5.cell? ⟨G1, 2, none⟩ = some (.slice va aa.length vc) := KWt.out.1 2
          have t3 : w5.cell? ⟨G1, 3, none⟩ = some (.bool true) := KWt.out.1 3
          have t4 : w5.cell? ⟨G1, 4, none⟩ = some (.string ⟨#[]⟩) := KWt.out.1 4
          have u0 : w5.cell? ⟨G2, 0, none⟩ = some (.int .i64 2) := KA.out.1 0
          have u1 : w5.cell? ⟨G2, 1, none⟩ = some (.string nm) := KA.out.1 1
          have u2 : w5.cell? ⟨G2, 2, none⟩ = some (.slice sa1 aa.length sc1) := KA.out.1 2
          have u3 : w5.cell? ⟨G2, 3, none⟩ = some (.bool true) := KA.out.1 3
          have u4 : w5.cell? ⟨G2, 4, none⟩ = some (.string ⟨#[]⟩) := KA.out.1 4
          go_wp2_with fail
          refine (HSS1.out _ _ _ (.inl A1.out) ZW.out).mono ?_
          rintro e w6 ⟨rfl, b1⟩
          clear t0 t1 t2 t3 t4 u0 u1 u2 u3 u4 KWt KA ZW
          replace KW := hide (KW.out.below b1)
          replace KB := hide (KB.out.below b1)
          replace KN := hide (KN.out.below b1)
          replace A2 := hide (A2.out.below b1)
          replace BT := hide (BT.out.trans (b1.mono (by rw [← hG]; exact BT.out.size)))
          clear b1 HSS1
          have t0 : w6.cell? ⟨G3, 0, none⟩ = some (.int .i64 3) := KB.out.1 0
          have t1 : w6.cell? ⟨G3, 1, none⟩ = some (.string nm) := KB.out.1 1
          have t2 : w6.cell? ⟨G3, 2, none⟩ = some (.slice sa2 0 sc2) := KB.out.1 2
          have t3 : w6.cell? ⟨G3, 3, none⟩ = some (.bool false) := KB.out.1 3
          have t4 : w6.cell? ⟨G3, 4, none⟩ = some (.string ⟨#[]⟩) := KB.out.1 4
          have q1 : w6.cell? ⟨g, 1, none⟩ = some (.string nm) := KW.out.1 1
          go_wp2_with fail
          refine (HSS2.out _ _ _ (.inl A2.out) (.inr ⟨rfl, _, _, rfl⟩)).mono ?_
          rintro e w7 ⟨rfl, b1⟩
          clear t0 t1 t2 t3 t4 q1 KB
          replace KW := hide (KW.out.below b1)
          replace KN := hide (KN.out.below b1)
          replace BT := hide (BT.out.trans (b1.mono (by rw [← hG]; exact BT.out.size)))
          clear b1 HSS2 A2
          have q1 : w7.cell? ⟨g, 1, none⟩ = some (.string nm) := KW.out.1 1
          have t0 : w7.cell? ⟨G4, 0, none⟩ = some (.int .i64 0) := KN.out.1 0
          go_wp2
          go_ret
          exact ⟨rfl, by rw [hG]; exact BT.out⟩
end Go.Proofs.YtlfjmgniflkapaaDoor
