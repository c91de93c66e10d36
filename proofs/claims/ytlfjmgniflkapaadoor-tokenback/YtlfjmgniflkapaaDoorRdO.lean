/- The program's next, in ModeRcdata, in ModeData and modes that are none; in all modes. -/
import Derived.Test.YtlfjmgniflkapaaDoorRdN
set_option linter.unusedVariables false
set_option linter.unusedSimpArgs false
namespace Go.Proofs.YtlfjmgniflkapaaDoor
open Go.RowKit

set_option maxHeartbeats 2000000 in
theorem next_p1 (s : ByteArray) (hs : s.size ≤ 20000) (b : Nat) (h2 : 2 ≤ b) (n r : List UInt8) (hn : n.length ≤ 20000) (hr : r ≠ []) (f : Bool) (w : World) (he : Env w) (hR : RdL w b s r) :
    Calls Tryd.prog 16 #[.pointer (some ⟨b, 0, none⟩), .int .i64 1, .string ⟨(lowerL n).toArray⟩, .bool f] w fun e w' => TokE w w' b s (nextR 1 n f r) e := by
  rw [rawL_next1 n r f hr]
  have hlt := hR.lt
  have hlen := hR.len
  have KR1 := hide (Kept.new w tok0 32)
  have B1 := hide ((But.refl b w).alloc (.cells tok0.toArray 32))
  have E1 := hide (he.alloc (.cells tok0.toArray 32))
  have HRW := hide (raw_any s hs b h2 n r hn hr _ (he.alloc (.cells tok0.toArray 32)) (hR.below (below_alloc w (.cells tok0.toArray 32))))
  have hat := rawL_attrs n r
  clear hR he
  generalize rawL n r = EE at *
  obtain ⟨⟨kd, nm, aa, cl, tx⟩, V⟩ := EE
  obtain ⟨hat1, hat2⟩ := hat
  simp only at hat1 hat2
  subst hat1
  have hD := fun w ho => decode_any ⟨tx.toArray⟩ (by rw [size_list, str_data]; omega) false w ho
  rw [str_data] at hD
  have HD := hide hD
  clear hD hat2
  simp only
  generalize decL false tx = D at *
  generalize (⟨(lowerL n).toArray⟩ : ByteArray) = nl at *
  go_enter Tryd.func16, Tryd.ntmps16
  go_wp2_with fail
  refine HRW.out.mono ?_
  rintro e w2 ⟨h4, h3, sv, hA, hob, rfl⟩
  obtain ⟨sa, sc, rfl⟩ := isA_form hA
  have hz2 := KR1.out.lt
  have hKR := Kept.but KR1.out h4 (by omega)
  have hz3 := hKR.lt
  have bA := below_alloc w2 (.cells #[.int .i64 (kd : Int), .string ⟨nm.toArray⟩, .slice sa ([] : AttrL).length sc, .bool cl, .string ⟨tx.toArray⟩] 32)
  have R2 := hide (RdL.below h3 bA)
  have KR2 := hide (hKR.below bA)
  have KG2 := hide (Kept.new w2 [.int .i64 (kd : Int), .string ⟨nm.toArray⟩, .slice sa ([] : AttrL).length sc, .bool cl, .string ⟨tx.toArray⟩] 32)
  have B2 := hide ((B1.out.trans h4).trans (.of bA))
  have E2 := hide ((E1.out.but h4 h2).below bA)
  have HA := hide (IsA.below hA bA)
  have HOB : Hid (∀ k, (Value.slice sa ([] : AttrL).length sc).ownBlock = some k → w.heap.size < k) := hide fun k hk => Nat.lt_of_lt_of_le hz2 (hob k hk)
  clear h3 h4 KR1 B1 hA hob HRW hKR bA E1
  unfold tokV
  simp only
  generalize hn1 : (⟨nm.toArray⟩ : ByteArray) = n1 at *
  generalize hn2 : (⟨tx.toArray⟩ : ByteArray) = n2 at *
  have HN1 := hide hn1
  clear hn1 hn2
  go_wp2_with fail
  refine (HD.out _ E2.out.1).mono ?_
  rintro e w3 ⟨rfl, h4⟩
  have R3 := hide (R2.out.below h4)
  have KR3 := hide (Kept.below KR2.out h4)
  have KG3 := hide (Kept.below KG2.out h4)
  have B3 := hide (B2.out.trans (.of h4))
  have HA3 := hide (HA.out.below h4)
  clear h4 KR2 KG2 B2 E2 R2 HA HD
  generalize hn3 : (⟨D.toArray⟩ : ByteArray) = n3 at *
  have HN3 := hide hn3
  clear hn3
  generalize w2.heap.size = G at *
  obtain ⟨q0, q1, q2, q3, q4, qf⟩ := KR3.out.tok
  have g0 : w3.cell? ⟨G, 0, none⟩ = some (.int .i64 (kd : Int)) := KG3.out.1 0
  have g1 : w3.cell? ⟨G, 1, none⟩ = some (.string n1) := KG3.out.1 1
  have g2 : w3.cell? ⟨G, 2, none⟩ = some (.slice sa 0 sc) := KG3.out.1 2
  have g3 : w3.cell? ⟨G, 3, none⟩ = some (.bool cl) := KG3.out.1 3
  have g4 : w3.cell? ⟨G, 4, none⟩ = some (.string n2) := KG3.out.1 4
  have gf : ∀ o, w3.frozen? ⟨G, o, none⟩ = false := KG3.out.2
  have hGR : w.heap.size ≠ G := Nat.ne_of_lt hz3
  go_wp2
  refine bodyPost_ret (v := tokV { kind := kd, name := nm, closed := cl, text := D } (.slice sa 0 sc)) ?_ rfl ?_
  · rw [results_cell_one rfl]
    go_simp
    unfold tokV
    rw [HN1.out, HN3.out]
  · have := tokE_end2 (V := V) { kind := kd, name := nm, closed := cl, text := D } (.slice sa 0 sc) (B3.out.setNew ⟨G, 4, none⟩ (by simp only; omega) (.string n3)) (R3.out.other ⟨G, 4, none⟩ (by simp only; omega) (.string n3)) hlt (isA_nil _ HA3.out) HOB.out
    unfold put5 at this
    rw [HN1.out, HN3.out] at this
    exact this

set_option maxHeartbeats 4000000 in
theorem next_pd (s : ByteArray) (hs : s.size ≤ 20000) (b : Nat) (h2 : 2 ≤ b) (r : List UInt8) (nl : ByteArray) (mode : Int) (hm3 : mode ≠ 3) (hm2 : mode ≠ 2) (hm1 : mode ≠ 1) (f : Bool) (w : World) (he : Env w) (hR : RdL w b s r) :
    Calls Tryd.prog 16 #[.pointer (some ⟨b, 0, none⟩), .int .i64 mode, .string nl, .bool f] w fun e w' => TokE w w' b s (dataL f r) e := by
  have hlt := hR.lt
  have KR1 := hide (Kept.new w tok0 32)
  have B1 := hide ((But.refl b w).alloc (.cells tok0.toArray 32))
  have E1 := hide (he.alloc (.cells tok0.toArray 32))
  have R1 := hide (hR.below (below_alloc w (.cells tok0.toArray 32)))
  have e3 : (mode == 3) = false := beq_eq_false_iff_ne.2 hm3
  have e2 : (mode == 2) = false := beq_eq_false_iff_ne.2 hm2
  have e1 : (mode == 1) = false := beq_eq_false_iff_ne.2 hm1
  clear hR he hm3 hm2 hm1
  generalize hRR : dataL f r = RR at *
  have HRR := hide hRR
  clear hRR
  go_enter Tryd.func16, Tryd.ntmps16
  go_wp2
  go_loopg [] r.length (fun g wr => ∃ r' : List UInt8, g = r'.length ∧ RdL wr b s r' ∧ But b w wr ∧ Kept wr w.heap.size tok0 ∧ Env wr ∧ Hid (dataL f r' = RR))
  case atStart => exact ⟨r, rfl, R1.out, B1.out, KR1.out, E1.out, HRR⟩
  case round =>
    obtain ⟨r', rfl, hRr, hBr, hKr, hEr, HRr⟩ := hrel
    have HDN := hide (done_any s (by omega) b r' wr hRr)
    have Rr := hide hRr
    have Br := hide hBr
    have Kr := hide hKr
    have Er := hide hEr
    clear hRr hBr hKr hEr KR1 B1 E1 R1
    by_cases hr0 : r' = []
    · subst hr0
      have HE : Hid (RR = ({ kind := 0 }, [])) := hide (by rw [← HRr.out]; rfl)
      clear HRr
      go_wp2_with fail
      refine HDN.out.mono ?_
      rintro e w2 ⟨rfl, n, rfl⟩
      have R2 := hide (Rr.out.drewN n)
      have KR2 := hide (Kr.out.drewN n)
      have B2 := hide (Br.out.drewN n)
      clear Rr Br Kr Er
      obtain ⟨q0, q1, q2, q3, q4, qf⟩ := KR2.out.tok
      go_wp2
      refine bodyPost_ret (v := tokV { kind := 0 } (.slice none 0 0)) ?_ rfl ?_
      · rw [results_cell_one rfl]
        go_simp
        rfl
      · rw [HE.out]
        exact tokE_end { kind := 0 } B2.out R2.out hlt rfl
    · have hem : r'.isEmpty = false := by
        cases r' with
        | nil => exact absurd rfl hr0
        | cons c q => rfl
      rw [hem] at HDN
      have hstep := dataL_P f r' hr0
      have hsh := dataP_short f r' hr0
      rw [HRr.out] at hstep
      have HST := hide hstep
      have HDT := hide (fun w he (h : RdL w b s r') => data_pany s hs b h2 r' f w he h)
      clear hstep HRr hem hr0
      generalize dataP f r' = EE at *
      go_wp2_with fail
      refine HDN.out.mono ?_
      rintro e w2 ⟨rfl, n, rfl⟩
      have R2 := hide (Rr.out.drewN n)
      have KR2 := hide (Kr.out.drewN n)
      have B2 := hide (Br.out.drewN n)
      have E2 := hide (Er.out.drewN n)
      clear Rr Br Kr Er
      go_wp2_with fail
      refine (HDT.out _ E2.out R2.out).mono ?_
      rintro e w3 ⟨h4, h3, sv, hA, hob, rfl⟩
      obtain ⟨sa, sc, rfl⟩ := isA_form hA
      have hz2 := KR2.out.lt
      have hKR := Kept.but KR2.out h4 (by omega)
      have hz3 := hKR.lt
      unfold tokV
      generalize hn1 : (⟨EE.1.name.toArray⟩ : ByteArray) = n1 at *
      generalize hn2 : (⟨EE.1.text.toArray⟩ : ByteArray) = n2 at *
      have HN1 := hide hn1
      have HN2 := hide hn2
      clear hn1 hn2
      have bA := below_alloc w3 (.cells #[.int .i64 (EE.1.kind : Int), .string n1, .slice sa EE.1.attrs.length sc, .bool EE.1.closed, .string n2] 32)
      by_cases hk : EE.1.kind = 0
      · have hk0 : ((EE.1.kind : Int) == 0) = true := by rw [hk]; rfl
        have HR2 : Hid (dataL f EE.2 = RR) := hide (by rw [HST.out, if_pos hk])
        have R3 := hide (RdL.below h3 bA)
        have KR3 := hide (hKR.below bA)
        have B3 := hide ((B2.out.trans h4).trans (.of bA))
        have E3 := hide ((E2.out.but h4 h2).below bA)
        clear h3 h4 hA hob hKR bA KR2 B2 E2 R2 HST hk
        generalize EE.1.kind = kd at *
        go_wp2
        go_roundg EE.2.length
        case rel => exact ⟨EE.2, rfl, R3.out, B3.out, KR3.out, E3.out, HR2⟩
        case measure => omega
      · have hk0 : ((EE.1.kind : Int) == 0) = false := ne_lit _ 0 (by omega)
        have HR2 : Hid (RR = EE) := hide (by rw [HST.out, if_neg hk])
        have R3 := hide h3
        have KR3 := hide hKR
        have B3 := hide (B2.out.trans h4)
        have HA := hide hA
        have HOB : Hid (∀ k, (Value.slice sa EE.1.attrs.length sc).ownBlock = some k → w.heap.size < k) := hide fun k hk => Nat.lt_of_lt_of_le hz2 (hob k hk)
        obtain ⟨q0, q1, q2, q3, q4, qf⟩ := hKR.tok
        clear h3 h4 hA hob hKR bA KR2 B2 E2 R2 HST hk
        go_wp2
        refine bodyPost_ret (v := tokV EE.1 (.slice sa EE.1.attrs.length sc)) ?_ rfl ?_
        · rw [results_cell_one rfl]
          go_simp
          unfold tokV
          rw [HN1.out, HN2.out]
        · have := (tokE_end2 EE.1 (.slice sa EE.1.attrs.length sc) B3.out R3.out hlt HA.out HOB.out).alloc (.cells #[.int .i64 (EE.1.kind : Int), .string n1, .slice sa EE.1.attrs.length sc, .bool EE.1.closed, .string n2] 32)
          unfold put5 at this
          rw [HN1.out, HN2.out] at this
          rw [HR2.out]
          exact this
theorem next_rany (s : ByteArray) (hs : s.size ≤ 20000) (b : Nat) (h2 : 2 ≤ b) (n r : List UInt8) (hn : n.length ≤ 20000) (hr : r ≠ []) (mode : Int) (f : Bool) (w : World) (he : Env w) (hR : RdL w b s r) :
    Calls Tryd.prog 16 #[.pointer (some ⟨b, 0, none⟩), .int .i64 mode, .string ⟨(lowerL n).toArray⟩, .bool f] w fun e w' => TokE w w' b s (nextR mode n f r) e := by
  by_cases h3 : mode = 3
  · subst h3; exact next_p3 s hs b h2 n r hr f w he hR
  · by_cases hm2 : mode = 2
    · subst hm2; exact next_p2 s hs b h2 n r hn hr f w he hR
    · by_cases hm1 : mode = 1
      · subst hm1; exact next_p1 s hs b h2 n r hn hr f w he hR
      · have hE : nextR mode n f r = dataL f r := by
          unfold nextR
          rw [if_neg hr, if_neg h3, if_pos ⟨hm2, hm1⟩]
        rw [hE]
        exact next_pd s hs b h2 r _ mode h3 hm2 hm1 f w he hR
end Go.Proofs.YtlfjmgniflkapaaDoor
