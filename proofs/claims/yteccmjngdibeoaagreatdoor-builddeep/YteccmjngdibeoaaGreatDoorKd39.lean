import Derived.Test.YteccmjngdibeoaaGreatDoorKd38
set_option linter.unusedVariables false
set_option linter.unusedSimpArgs false
set_option maxRecDepth 4000
namespace Go.Proofs.YteccmjngdibeoaaGreatDoor.S4
open Go.RowKit
def rawL (n r : List UInt8) : Tok × List UInt8 := if stopB n r then endedL (r.drop 2) true else ({ kind := 1, text := (spanS n r).1 }, (spanS n r).2)
theorem stop_two (n r : List UInt8) (h : stopB n r = true) : ([60, 47] : List UInt8).isPrefixOf r = true := by
  unfold stopB at h
  cases hb : ([60, 47] : List UInt8).isPrefixOf r with
  | true => rfl
  | false => rw [hb] at h; simp at h
set_option maxHeartbeats 4000000 in
theorem raw_any (s : ByteArray) (hs : s.size ≤ 20000) (b : Nat) (h2 : 2 ≤ b) (n r : List UInt8) (hn : n.length ≤ 20000) (hr : r ≠ []) (w : World) (he : Env w) (hR : RdL w b s r) :
    Calls Tryz.prog 109 #[.pointer (some ⟨b, 0, none⟩), .string ⟨(lowerL n).toArray⟩] w fun e w' => TokE w w' b s (rawL n r) e := by
  have hlt := hR.lt
  have KR0 := hide (Kept.new w tok0 64)
  have B0 := hide ((But.refl b w).alloc (.cells tok0.toArray 64))
  have E0 := hide (he.alloc (.cells tok0.toArray 64))
  have hlen := hR.len
  obtain ⟨p, hp, hd, hPw⟩ := hR
  have HP := hide (hPw.below (below_alloc w (.cells tok0.toArray 64)))
  have hap := spanS_app n r
  have c0 := hPw.c0
  have c1 := hPw.c1
  have HT := hide (fun q hq hpq w h => take_to s (by omega) b p q hq hpq w h)
  have hET := fun k (hk : k ≤ s.size) => endTag_any ⟨(s.data.toList.drop k).toArray⟩ (by rw [size_list, str_data, List.length_drop, ← size_list]; omega) n
  have HET : Hid (∀ k, k ≤ s.size → ∀ w, Calls Tryz.prog 167 #[.string (s.extract k s.size), .string ⟨(lowerL n).toArray⟩] w fun e w' => e = .returned (.bool (stopB n (s.data.toList.drop k))) ∧ Below w.heap.size w w') := by
    refine hide fun k hk w => ?_
    rw [rest_is s k hk]
    exact hET k hk w
  have HSK := hide (fun h w hR => skip_yes s (by omega) b r ⟨#[60, 47]⟩ h w hR)
  have HST := hide (fun w he (h : RdL w b s (r.drop 2)) => stop_pany s hs b h2 (r.drop 2) w he h)
  have HTT := hide textToken_any
  have HNE := hide (spanS_ne n r hr)
  have HTWO := hide (stop_two n r)
  have HB : Hid (stopB n r = true → (spanS n r).2 = r) := by
    refine hide fun h => ?_
    cases r with
    | nil => exact absurd rfl hr
    | cons c q => simp only [spanS]; rw [if_pos h]
  have HV : Hid ((spanS n (s.data.toList.drop p)).2 = (spanS n r).2) := hide (by rw [hd])
  have HD := hide hd
  have HAP := hide hap
  have HRAW := hide (show rawL n r = if stopB n r then endedL (r.drop 2) true else ({ kind := 1, text := (spanS n r).1 }, (spanS n r).2) from rfl)
  generalize rawL n r = RW at *
  generalize (spanS n r).2 = V at *
  generalize (spanS n r).1 = T at *
  have HCUT : Hid (∀ k, p ≤ k → k ≤ s.size → s.data.toList.drop k = V → s.extract p k = ⟨T.toArray⟩) := hide fun k h1 h2 h3 => cutP s p k h1 h2 T V (by rw [hd]; exact hap.symm) h3
  clear hET hap hd he hPw
  generalize (⟨(lowerL n).toArray⟩ : ByteArray) = nl at *
  go_enter Tryz.func109, Tryz.ntmps109
  go_wp2
  go_loopw [5] (fun i wr => ∃ k : Nat, p ≤ k ∧ k ≤ s.size ∧ i = .int .i64 k ∧ Below (w.alloc (.cells tok0.toArray 64)).heap.size (w.alloc (.cells tok0.toArray 64)) wr ∧ Hid ((spanS n (s.data.toList.drop k)).2 = V)) (fun i _ => s.size - (intOf i).toNat)
  case atStart => exact ⟨p, Nat.le_refl _, hp, rfl, Below.refl _ _, HV⟩
  case round =>
    obtain ⟨k, hpk, hk, rfl, bw, HR⟩ := hrel
    have hP := HP.out.below bw
    have hK := KR0.out.below bw
    have hE := E0.out.below bw
    have hB := B0.out.trans (.of bw)
    have HPr := hide hP
    have KRr := hide hK
    have Er := hide hE
    have Br := hide hB
    have HBW := hide bw
    have c0r := hP.c0
    have c1r := hP.c1
    clear hP hK hE hB bw c0 c1
    by_cases hlt2 : k < s.size
    · have hlt3 : (k : Int) < s.size := by omega
      have hst := spanS_step n s k hlt2
      have HQ := hide (HET.out k hk)
      cases hBs : stopB n (s.data.toList.drop k) with
      | false =>
        rw [hBs] at HQ hst
        have HR2 : Hid ((spanS n (s.data.toList.drop (k + 1))).2 = V) := hide (by rw [← HR.out, hst]; rfl)
        clear hBs hst HR
        go_wp2_with fail
        refine (HQ.out _).mono ?_
        rintro e w1 ⟨rfl, b1⟩
        have b2 := HBW.out.trans (b1.mono HBW.out.size)
        clear HBW b1
        go_wp2
        go_roundw
        case rel => exact ⟨k + 1, by omega, by omega, by go_num, b2, HR2⟩
        case measure => simp [intOf]; omega
      | true =>
        rw [hBs] at HQ hst
        have HR2 : Hid (s.data.toList.drop k = V) := hide (by rw [← HR.out, hst]; rfl)
        clear hst HR
        by_cases hkp : p < k
        · have hkp2 : (p : Int) < k := by omega
          have HC2 := hide (HCUT.out k hpk hk HR2.out)
          have HRW2 : Hid (RW = ({ kind := 1, text := T }, V)) := by
            refine hide ?_
            cases hb : stopB n r with
            | false => rw [HRAW.out, hb]; rfl
            | true =>
              have e1 := congrArg List.length (HB.out hb)
              have e2 := congrArg List.length HR2.out
              have e3 := congrArg List.length HD.out
              rw [List.length_drop, ← size_list] at e2 e3
              omega
          clear hBs HB HRAW HTWO HNE HST HSK HAP HD HCUT HET
          go_wp2_with fail
          refine (HQ.out _).mono ?_
          rintro e w1 ⟨rfl, b1⟩
          have hP1 := HPr.out.below b1
          have HP1 := hide hP1
          have KR1 := hide (Kept.below KRr.out b1)
          have B1 := hide (Br.out.trans (.of b1))
          have c01 := hP1.c0
          have c11 := hP1.c1
          clear b1 hP1 HPr KRr Br Er HBW c0r c1r HQ
          go_wp2_with fail
          refine (HT.out k hk hpk _ HP1.out).mono ?_
          rintro e w3 ⟨rfl, h3, h4⟩
          have R3 : Hid (RdL w3 b s V) := hide ⟨k, hk, HR2.out, h3⟩
          have KR3 := hide (Kept.but KR1.out h4 (by omega))
          have B3 := hide (But.trans B1.out h4)
          clear h3 h4
          rw [HC2.out]
          generalize hxx : (⟨T.toArray⟩ : ByteArray) = x at *
          have HX := hide hxx
          clear hxx HC2
          go_wp2_with fail
          refine (HTT.out x _).mono ?_
          rintro e w4 ⟨rfl, h4⟩
          have R4 := hide (R3.out.below h4)
          have KR4 := hide (Kept.below KR3.out h4)
          have B4 := hide (B3.out.trans (.of h4))
          clear h4 R3 KR3 B3
          obtain ⟨q0, q1, q2, q3, q4, qf⟩ := KR4.out.tok
          go_wp2
          refine bodyPost_ret (v := tokV { kind := 1, text := T } (.slice none 0 0)) ?_ rfl ?_
          · rw [results_cell_one rfl]
            go_simp
            rw [← HX.out]
            rfl
          · rw [HRW2.out, ← HX.out]
            exact tokE_end { kind := 1, text := T } B4.out R4.out hlt rfl
        · obtain rfl : k = p := by omega
          have hbr : stopB n r = true := by rw [← HD.out]; exact hBs
          have HRW2 : Hid (RW = endedL (r.drop 2) true) := hide (by rw [HRAW.out, if_pos hbr])
          have HSK2 : Hid (∀ w, RdL w b s r → Calls Tryz.prog 168 #[.pointer (some ⟨b, 0, none⟩), .string ⟨#[60, 47]⟩] w fun e w' => e = .returned (.bool true) ∧ RdL w' b s (r.drop 2) ∧ But b w w') := hide (fun w h => HSK.out (HTWO.out hbr) w h)
          have HRL : Hid (∀ w, RdP w b s k → RdL w b s r) := hide (fun w h => ⟨k, hk, HD.out, h⟩)
          clear hBs HB HRAW HTWO HNE HSK HAP HD HCUT HET hbr HT HTT
          generalize r.drop 2 = r2 at *
          go_wp2_with fail
          refine (HQ.out _).mono ?_
          rintro e w1 ⟨rfl, b1⟩
          have hP1 := HPr.out.below b1
          have HP1 := hide hP1
          have KR1 := hide (Kept.below KRr.out b1)
          have E1 := hide (Er.out.below b1)
          have B1 := hide (Br.out.trans (.of b1))
          have c01 := hP1.c0
          have c11 := hP1.c1
          clear b1 hP1 HPr KRr Br Er HBW c0r c1r HQ
          go_wp2_with fail
          refine (HSK2.out _ (HRL.out _ HP1.out)).mono ?_
          rintro e w2 ⟨rfl, h3, h4⟩
          have R2 := hide h3
          have KR2 := hide (Kept.but KR1.out h4 (by omega))
          have E2 := hide (E1.out.but h4 h2)
          have B2 := hide (B1.out.trans h4)
          clear h3 h4 KR1 E1 B1 HP1 HSK2 HRL c01 c11
          go_wp2_with fail
          refine (HST.out _ E2.out R2.out).mono ?_
          rintro e w3 ⟨h4, h3, sv, hA, hob, rfl⟩
          have hz2 := KR2.out.lt
          have R3 := hide h3
          have KR3 := hide (Kept.but KR2.out h4 (by omega))
          have B3 := hide (B2.out.trans h4)
          have HA := hide hA
          have HOB : Hid (∀ k, sv.ownBlock = some k → w.heap.size < k) := hide fun k hk => Nat.lt_of_lt_of_le hz2 (hob k hk)
          obtain ⟨sa, sc, rfl⟩ := isA_form hA
          clear h3 h4 KR2 E2 B2 R2 hA hob HST
          obtain ⟨q0, q1, q2, q3, q4, qf⟩ := KR3.out.tok
          generalize endedL r2 true = ED at *
          obtain ⟨t, V3⟩ := ED
          simp only [tokV] at *
          generalize hn1 : (⟨t.name.toArray⟩ : ByteArray) = n1 at *
          generalize hn2 : (⟨t.text.toArray⟩ : ByteArray) = n2 at *
          have HN1 := hide hn1
          have HN2 := hide hn2
          clear hn1 hn2
          go_wp2
          refine bodyPost_ret (v := tokV t (.slice sa t.attrs.length sc)) ?_ rfl ?_
          · rw [results_cell_one rfl]
            go_simp
            unfold tokV
            rw [HN1.out, HN2.out]
          · rw [HRW2.out]
            have := tokE_end2 t (.slice sa t.attrs.length sc) B3.out R3.out hlt HA.out HOB.out
            unfold put5 at this
            rw [HN1.out, HN2.out] at this
            exact this
    · have hlt3 : ¬ (k : Int) < s.size := by omega
      have hps : p < s.size := by
        rcases Nat.lt_or_ge p s.size with h | h
        · exact h
        · exact absurd (by rw [← HD.out, drop_end s p h]) hr
      have HR2 : Hid (s.data.toList.drop k = V) := hide (by rw [← HR.out, drop_end s k (by omega)]; rfl)
      have hkp2 : (p : Int) < k := by omega
      have HC2 := hide (HCUT.out k hpk hk HR2.out)
      have HRW2 : Hid (RW = ({ kind := 1, text := T }, V)) := by
        refine hide ?_
        cases hb : stopB n r with
        | false => rw [HRAW.out, hb]; rfl
        | true =>
          have e1 := congrArg List.length (HB.out hb)
          have e2 := congrArg List.length HR2.out
          have e3 := congrArg List.length HD.out
          rw [List.length_drop, ← size_list] at e2 e3
          omega
      clear HR HB HRAW HTWO HNE HST HSK HAP HD HCUT HET
      go_wp2_with fail
      refine (HT.out k hk hpk _ HPr.out).mono ?_
      rintro e w3 ⟨rfl, h3, h4⟩
      have R3 : Hid (RdL w3 b s V) := hide ⟨k, hk, HR2.out, h3⟩
      have KR3 := hide (Kept.but KRr.out h4 (by omega))
      have B3 := hide (But.trans Br.out h4)
      clear h3 h4
      rw [HC2.out]
      generalize hxx : (⟨T.toArray⟩ : ByteArray) = x at *
      have HX := hide hxx
      clear hxx HC2
      go_wp2_with fail
      refine (HTT.out x _).mono ?_
      rintro e w4 ⟨rfl, h4⟩
      have R4 := hide (R3.out.below h4)
      have KR4 := hide (Kept.below KR3.out h4)
      have B4 := hide (B3.out.trans (.of h4))
      clear h4 R3 KR3 B3
      obtain ⟨q0, q1, q2, q3, q4, qf⟩ := KR4.out.tok
      go_wp2
      refine bodyPost_ret (v := tokV { kind := 1, text := T } (.slice none 0 0)) ?_ rfl ?_
      · rw [results_cell_one rfl]
        go_simp
        rw [← HX.out]
        rfl
      · rw [HRW2.out, ← HX.out]
        exact tokE_end { kind := 1, text := T } B4.out R4.out hlt rfl
end Go.Proofs.YteccmjngdibeoaaGreatDoor.S4
