import Derived.Test.YtfohijnkeefcfaaGreatDoorKn35
set_option linter.unusedVariables false
set_option linter.unusedSimpArgs false
set_option maxRecDepth 100000
set_option maxHeartbeats 8000000
namespace Go.Proofs.YtfohijnkeefcfaaGreatDoor.S4
open Go.RowKit
theorem getD_at (r : List UInt8) (i : Nat) (h : i < (⟨r.toArray⟩ : ByteArray).size) : (⟨r.toArray⟩ : ByteArray)[i] = r.getD i 0 := by
  have h2 : i < r.length := by rw [size_list, str_data] at h; exact h
  rw [List.getD_eq_getElem?_getD, List.getElem?_eq_getElem h2]
  rfl
structure DataS (w : World) (b : Nat) (s : ByteArray) (r : List UInt8) : Prop where
  lt : b < w.heap.size
  kr : Kept (w.alloc (.cells tok0.toArray 79)) w.heap.size tok0
  bu : But b w (w.alloc (.cells tok0.toArray 79))
  rd : RdL (w.alloc (.cells tok0.toArray 79)) b s r
  en : Env (w.alloc (.cells tok0.toArray 79))
theorem dataS_of {w : World} {b : Nat} {s : ByteArray} {r : List UInt8} (he : Env w) (hR : RdL w b s r) : DataS w b s r :=
  ⟨hR.lt, Kept.new w tok0 _, (But.refl b w).alloc _, hR.below (below_alloc w _), he.alloc _⟩
theorem data_p1 (s : ByteArray) (hs : s.size <= 20000) (b : Nat) (h2 : 2 <= b) (r : List UInt8) (f : Bool) (hb : beginsB r = false) (w : World) (he : Env w) (hR : RdL w b s r) :
    Calls Tryz.prog 69 #[.pointer (some ⟨b, 0, none⟩), .bool f] w fun e w' => TokE w w' b s (({ kind := 1, text := decL false (spanT r).1 }, (spanT r).2)) e := by
  have hD := dataS_of he hR
  have hlt := hD.lt
  have KR0 := hide hD.kr
  have B0 := hide hD.bu
  have R0 := hide hD.rd
  have E0 := hide hD.en
  have hlen := hR.len
  have HRS := hide (rest_any s (by omega) b r _ hD.rd)
  have hMK := markup_any ⟨r.toArray⟩ (by rw [size_list, str_data]; omega)
  have HMK : Hid (∀ w, Calls Tryz.prog 96 #[.string ⟨r.toArray⟩] w fun e w' => e = .returned (.bool (beginsB r)) /\ w' = w) := hide hMK
  clear hMK hD
  rw [hb] at HMK
  have HPT := hide (fun w he (h : RdL w b s r) => plainText_any s hs b h2 r w he h)
  clear hR he hb
  generalize hED : (({ kind := 1, text := decL false (spanT r).1 }, (spanT r).2) : Tok × List UInt8) = EE at *
  clear hED
  generalize (⟨r.toArray⟩ : ByteArray) = y at *
  go_enter Tryz.func69, Tryz.ntmps69
  go_wp2_with fail
  refine HRS.out.mono ?_
  rintro e w1 ⟨rfl, n1, rfl⟩
  have R1 := hide (R0.out.drewN n1)
  have KR1 := hide (KR0.out.drewN n1)
  have B1 := hide (B0.out.drewN n1)
  have E1 := hide (E0.out.drewN n1)
  clear R0 KR0 B0 E0 HRS
  go_wp2_with fail
  refine (HMK.out _).mono ?_
  rintro e w1 ⟨rfl, rfl⟩
  clear HMK
  go_wp2_with fail
  refine (HPT.out _ E1.out R1.out).mono ?_
  rintro e w2 ⟨h4, h3, sv, hA, hob, rfl⟩
  have hz2 := KR1.out.lt
  have R2 := hide h3
  have KR2 := hide (Kept.but KR1.out h4 (by omega))
  have B2 := hide (B1.out.trans h4)
  have HA := hide hA
  have HOB : Hid (∀ k, sv.ownBlock = some k -> w.heap.size < k) := hide fun k hk => Nat.lt_of_lt_of_le hz2 (hob k hk)
  obtain ⟨sa, sc, rfl⟩ := isA_form hA
  clear h3 h4 KR1 E1 B1 R1 hA hob HPT
  obtain ⟨q0, q1, q2, q3, q4, qf⟩ := KR2.out.tok
  unfold tokV
  generalize hn1 : (⟨EE.1.name.toArray⟩ : ByteArray) = n1 at *
  generalize hn2 : (⟨EE.1.text.toArray⟩ : ByteArray) = n2 at *
  have HN1 := hide hn1
  have HN2 := hide hn2
  clear hn1 hn2
  go_wp2
  refine bodyPost_ret (v := tokV EE.1 (.slice sa EE.1.attrs.length sc)) ?_ rfl ?_
  · rw [results_cell_one rfl]
    go_simp
    unfold tokV
    rw [HN1.out, HN2.out]
  · have := tokE_end2 EE.1 (.slice sa EE.1.attrs.length sc) B2.out R2.out hlt HA.out HOB.out
    unfold put5 at this
    rw [HN1.out, HN2.out] at this
    exact this
theorem data_p2 (s : ByteArray) (hs : s.size <= 20000) (b : Nat) (h2 : 2 <= b) (r : List UInt8) (f : Bool) (hb : beginsB r = true) (hl : letterN (r.getD 1 0).toNat = true) (w : World) (he : Env w) (hR : RdL w b s r) :
    Calls Tryz.prog 69 #[.pointer (some ⟨b, 0, none⟩), .bool f] w fun e w' => TokE w w' b s (endedL (r.drop 1) false) e := by
  have hD := dataS_of he hR
  have hlt := hD.lt
  have KR0 := hide hD.kr
  have B0 := hide hD.bu
  have R0 := hide hD.rd
  have E0 := hide hD.en
  have hlen := hR.len
  have HRS := hide (rest_any s (by omega) b r _ hD.rd)
  have hMK := markup_any ⟨r.toArray⟩ (by rw [size_list, str_data]; omega)
  have HMK : Hid (∀ w, Calls Tryz.prog 96 #[.string ⟨r.toArray⟩] w fun e w' => e = .returned (.bool (beginsB r)) /\ w' = w) := hide hMK
  clear hMK hD
  have hl2 : 2 <= r.length := by
    obtain ⟨c, q, rfl, _⟩ := begins_form r hb
    simp
  have hsz : (⟨r.toArray⟩ : ByteArray).size = r.length := by rw [size_list, str_data]
  have hi1 : ∀ w, (Instr.index 9 (.string ⟨r.toArray⟩) (.int .i64 1)).run Tryz.prog w = .ok (.int .u8 ((r.getD 1 0).toNat : Int)) w := fun w => by
    have h := run_index_at ⟨r.toArray⟩ 1 1 rfl (by omega) w
    rw [getD_at] at h
    exact h
  have HL1 := hide (letter_any (r.getD 1 0).toNat)
  rw [hb] at HMK
  rw [hl] at HL1
  have h60 : ([60] : List UInt8).isPrefixOf r = true := by
    obtain ⟨c, q, rfl, _⟩ := begins_form r hb
    simp [List.isPrefixOf]
  have HSK : Hid (∀ w, RdL w b s r -> Calls Tryz.prog 91 #[.pointer (some ⟨b, 0, none⟩), .string ⟨#[60]⟩] w fun e w' => e = .returned (.bool true) /\ RdL w' b s (r.drop 1) /\ But b w w') := hide (fun w h => skip_yes s (by omega) b r ⟨#[60]⟩ h60 w h)
  have HST := hide (fun w he (h : RdL w b s (r.drop 1)) => start_pany s hs b h2 (r.drop 1) w he h)
  clear hR he hb hl hsz h60
  generalize endedL (r.drop 1) false = EE at *
  generalize r.drop 1 = r2 at *
  generalize (r.getD 1 0).toNat = c1 at *
  generalize (⟨r.toArray⟩ : ByteArray) = y at *
  go_enter Tryz.func69, Tryz.ntmps69
  go_wp2_with fail
  refine HRS.out.mono ?_
  rintro e w1 ⟨rfl, n1, rfl⟩
  have R1 := hide (R0.out.drewN n1)
  have KR1 := hide (KR0.out.drewN n1)
  have B1 := hide (B0.out.drewN n1)
  have E1 := hide (E0.out.drewN n1)
  clear R0 KR0 B0 E0 HRS
  go_wp2_with fail
  refine (HMK.out _).mono ?_
  rintro e w1 ⟨rfl, rfl⟩
  clear HMK
  go_wp2_with fail
  refine (HL1.out _).mono ?_
  rintro e w1 ⟨rfl, rfl⟩
  go_wp2_with fail
  refine (HSK.out _ R1.out).mono ?_
  rintro e w2 ⟨rfl, h3, h4⟩
  have R2 := hide h3
  have KR2 := hide (Kept.but KR1.out h4 (by omega))
  have B2 := hide (B1.out.trans h4)
  have E2 := hide (E1.out.but h4 h2)
  clear h3 h4 KR1 B1 R1 E1
  go_wp2_with fail
  refine (HST.out _ E2.out R2.out).mono ?_
  rintro e w3 ⟨h4, h3, sv, hA, hob, rfl⟩
  have hz2 := KR2.out.lt
  have R3 := hide h3
  have KR3 := hide (Kept.but KR2.out h4 (by omega))
  have B3 := hide (B2.out.trans h4)
  have HA := hide hA
  have HOB : Hid (∀ k, sv.ownBlock = some k -> w.heap.size < k) := hide fun k hk => Nat.lt_of_lt_of_le hz2 (hob k hk)
  obtain ⟨sa, sc, rfl⟩ := isA_form hA
  clear h3 h4 KR2 E2 B2 R2 hA hob HST
  obtain ⟨q0, q1, q2, q3, q4, qf⟩ := KR3.out.tok
  unfold tokV
  generalize hn1 : (⟨EE.1.name.toArray⟩ : ByteArray) = n1 at *
  generalize hn2 : (⟨EE.1.text.toArray⟩ : ByteArray) = n2 at *
  have HN1 := hide hn1
  have HN2 := hide hn2
  clear hn1 hn2
  go_wp2
  refine bodyPost_ret (v := tokV EE.1 (.slice sa EE.1.attrs.length sc)) ?_ rfl ?_
  · rw [results_cell_one rfl]
    go_simp
    unfold tokV
    rw [HN1.out, HN2.out]
  · have := tokE_end2 EE.1 (.slice sa EE.1.attrs.length sc) B3.out R3.out hlt HA.out HOB.out
    unfold put5 at this
    rw [HN1.out, HN2.out] at this
    exact this
theorem data_p3 (s : ByteArray) (hs : s.size <= 20000) (b : Nat) (h2 : 2 <= b) (r : List UInt8) (f : Bool) (hb : beginsB r = true) (h47 : r.getD 1 0 = 47) (hl : letterN (r.getD 2 0).toNat = true) (w : World) (he : Env w) (hR : RdL w b s r) :
    Calls Tryz.prog 69 #[.pointer (some ⟨b, 0, none⟩), .bool f] w fun e w' => TokE w w' b s (endedL (r.drop 2) true) e := by
  have hD := dataS_of he hR
  have hlt := hD.lt
  have KR0 := hide hD.kr
  have B0 := hide hD.bu
  have R0 := hide hD.rd
  have E0 := hide hD.en
  have hlen := hR.len
  have HRS := hide (rest_any s (by omega) b r _ hD.rd)
  have hMK := markup_any ⟨r.toArray⟩ (by rw [size_list, str_data]; omega)
  have HMK : Hid (∀ w, Calls Tryz.prog 96 #[.string ⟨r.toArray⟩] w fun e w' => e = .returned (.bool (beginsB r)) /\ w' = w) := hide hMK
  clear hMK hD
  have hl3 : 3 <= r.length /\ ([60, 47] : List UInt8).isPrefixOf r = true := by
    obtain ⟨c, q, rfl, hc⟩ := begins_form r hb
    have : c = 47 := h47
    subst this
    rcases hc with h | h | h | ⟨_, h⟩
    · exact absurd h (by decide)
    · exact absurd h (by decide)
    · exact absurd h (by decide)
    · cases q with
      | nil => exact absurd rfl h
      | cons d q => exact ⟨by simp, by simp [List.isPrefixOf]⟩
  have hsz : (⟨r.toArray⟩ : ByteArray).size = r.length := by rw [size_list, str_data]
  have hi1 : ∀ w, (Instr.index 9 (.string ⟨r.toArray⟩) (.int .i64 1)).run Tryz.prog w = .ok (.int .u8 ((r.getD 1 0).toNat : Int)) w := fun w => by
    have h := run_index_at ⟨r.toArray⟩ 1 1 rfl (by omega) w
    rw [getD_at] at h
    exact h
  have HL1 := hide (letter_any (r.getD 1 0).toNat)
  have hi2 : ∀ w, (Instr.index 9 (.string ⟨r.toArray⟩) (.int .i64 2)).run Tryz.prog w = .ok (.int .u8 ((r.getD 2 0).toNat : Int)) w := fun w => by
    have h := run_index_at ⟨r.toArray⟩ 2 2 rfl (by omega) w
    rw [getD_at] at h
    exact h
  have HL2 := hide (letter_any (r.getD 2 0).toNat)
  rw [hb] at HMK
  rw [h47] at hi1 HL1
  rw [show letterN (47 : UInt8).toNat = false by decide] at HL1
  rw [hl] at HL2
  have HSK : Hid (∀ w, RdL w b s r -> Calls Tryz.prog 91 #[.pointer (some ⟨b, 0, none⟩), .string ⟨#[60, 47]⟩] w fun e w' => e = .returned (.bool true) /\ RdL w' b s (r.drop 2) /\ But b w w') := hide (fun w h => skip_yes s (by omega) b r ⟨#[60, 47]⟩ hl3.2 w h)
  have HST := hide (fun w he (h : RdL w b s (r.drop 2)) => stop_pany s hs b h2 (r.drop 2) w he h)
  clear hR he hb hl hsz h47 hl3
  generalize endedL (r.drop 2) true = EE at *
  generalize r.drop 2 = r2 at *
  generalize (r.getD 2 0).toNat = c2 at *
  have hc1 : ∀ w, (Instr.index 9 (.string ⟨r.toArray⟩) (.int .i64 1)).run Tryz.prog w = .ok (.int .u8 47) w := hi1
  have HL1b : Hid (∀ w, Calls Tryz.prog 98 #[.int .u8 47] w fun e w' => e = .returned (.bool false) /\ w' = w) := HL1
  clear hi1 HL1
  generalize (⟨r.toArray⟩ : ByteArray) = y at *
  go_enter Tryz.func69, Tryz.ntmps69
  go_wp2_with fail
  refine HRS.out.mono ?_
  rintro e w1 ⟨rfl, n1, rfl⟩
  have R1 := hide (R0.out.drewN n1)
  have KR1 := hide (KR0.out.drewN n1)
  have B1 := hide (B0.out.drewN n1)
  have E1 := hide (E0.out.drewN n1)
  clear R0 KR0 B0 E0 HRS
  go_wp2_with fail
  refine (HMK.out _).mono ?_
  rintro e w1 ⟨rfl, rfl⟩
  clear HMK
  go_wp2_with fail
  refine (HL1b.out _).mono ?_
  rintro e w1 ⟨rfl, rfl⟩
  go_wp2_with fail
  refine (HL2.out _).mono ?_
  rintro e w1 ⟨rfl, rfl⟩
  go_wp2_with fail
  refine (HSK.out _ R1.out).mono ?_
  rintro e w2 ⟨rfl, h3, h4⟩
  have R2 := hide h3
  have KR2 := hide (Kept.but KR1.out h4 (by omega))
  have B2 := hide (B1.out.trans h4)
  have E2 := hide (E1.out.but h4 h2)
  clear h3 h4 KR1 B1 R1 E1
  go_wp2_with fail
  refine (HST.out _ E2.out R2.out).mono ?_
  rintro e w3 ⟨h4, h3, sv, hA, hob, rfl⟩
  have hz2 := KR2.out.lt
  have R3 := hide h3
  have KR3 := hide (Kept.but KR2.out h4 (by omega))
  have B3 := hide (B2.out.trans h4)
  have HA := hide hA
  have HOB : Hid (∀ k, sv.ownBlock = some k -> w.heap.size < k) := hide fun k hk => Nat.lt_of_lt_of_le hz2 (hob k hk)
  obtain ⟨sa, sc, rfl⟩ := isA_form hA
  clear h3 h4 KR2 E2 B2 R2 hA hob HST
  obtain ⟨q0, q1, q2, q3, q4, qf⟩ := KR3.out.tok
  unfold tokV
  generalize hn1 : (⟨EE.1.name.toArray⟩ : ByteArray) = n1 at *
  generalize hn2 : (⟨EE.1.text.toArray⟩ : ByteArray) = n2 at *
  have HN1 := hide hn1
  have HN2 := hide hn2
  clear hn1 hn2
  go_wp2
  refine bodyPost_ret (v := tokV EE.1 (.slice sa EE.1.attrs.length sc)) ?_ rfl ?_
  · rw [results_cell_one rfl]
    go_simp
    unfold tokV
    rw [HN1.out, HN2.out]
  · have := tokE_end2 EE.1 (.slice sa EE.1.attrs.length sc) B3.out R3.out hlt HA.out HOB.out
    unfold put5 at this
    rw [HN1.out, HN2.out] at this
    exact this
theorem data_p4 (s : ByteArray) (hs : s.size <= 20000) (b : Nat) (h2 : 2 <= b) (r : List UInt8) (f : Bool) (hb : beginsB r = true) (h1 : r.getD 1 0 = 47) (hl : letterN (r.getD 2 0).toNat = false) (h3 : ([60, 47, 62] : List UInt8).isPrefixOf r = true) (w : World) (he : Env w) (hR : RdL w b s r) :
    Calls Tryz.prog 69 #[.pointer (some ⟨b, 0, none⟩), .bool f] w fun e w' => TokE w w' b s (({ kind := 0 }, r.drop 3)) e := by
  have hD := dataS_of he hR
  have hlt := hD.lt
  have KR0 := hide hD.kr
  have B0 := hide hD.bu
  have R0 := hide hD.rd
  have E0 := hide hD.en
  have hlen := hR.len
  have HRS := hide (rest_any s (by omega) b r _ hD.rd)
  have hMK := markup_any ⟨r.toArray⟩ (by rw [size_list, str_data]; omega)
  have HMK : Hid (∀ w, Calls Tryz.prog 96 #[.string ⟨r.toArray⟩] w fun e w' => e = .returned (.bool (beginsB r)) /\ w' = w) := hide hMK
  clear hMK hD
  have hl3 : 3 <= r.length /\ ([60] : List UInt8).isPrefixOf r = true := by
    obtain ⟨c, q, rfl, hc⟩ := begins_form r hb
    have : c = 47 := h1
    subst this
    rcases hc with h | h | h | ⟨_, h⟩
    · exact absurd h (by decide)
    · exact absurd h (by decide)
    · exact absurd h (by decide)
    · cases q with
      | nil => exact absurd rfl h
      | cons d q => exact ⟨by simp, by simp [List.isPrefixOf]⟩
  have hsz : (⟨r.toArray⟩ : ByteArray).size = r.length := by rw [size_list, str_data]
  have hi1 : ∀ w, (Instr.index 9 (.string ⟨r.toArray⟩) (.int .i64 1)).run Tryz.prog w = .ok (.int .u8 ((r.getD 1 0).toNat : Int)) w := fun w => by
    have h := run_index_at ⟨r.toArray⟩ 1 1 rfl (by omega) w
    rw [getD_at] at h
    exact h
  have HL1 := hide (letter_any (r.getD 1 0).toNat)
  have hi2 : ∀ w, (Instr.index 9 (.string ⟨r.toArray⟩) (.int .i64 2)).run Tryz.prog w = .ok (.int .u8 ((r.getD 2 0).toNat : Int)) w := fun w => by
    have h := run_index_at ⟨r.toArray⟩ 2 2 rfl (by omega) w
    rw [getD_at] at h
    exact h
  have HL2 := hide (letter_any (r.getD 2 0).toNat)
  rw [hl] at HL2
  rw [hb] at HMK
  rw [h1] at hi1 HL1
  rw [show letterN (47 : UInt8).toNat = false by decide] at HL1
  have hc1 : ∀ w, (Instr.index 9 (.string ⟨r.toArray⟩) (.int .i64 1)).run Tryz.prog w = .ok (.int .u8 47) w := hi1
  have HL1b : Hid (∀ w, Calls Tryz.prog 98 #[.int .u8 47] w fun e w' => e = .returned (.bool false) /\ w' = w) := HL1
  clear hi1 HL1
  have HSK : Hid (∀ w, RdL w b s r -> Calls Tryz.prog 91 #[.pointer (some ⟨b, 0, none⟩), .string ⟨#[60, 47, 62]⟩] w fun e w' => e = .returned (.bool true) /\ RdL w' b s (r.drop 3) /\ But b w w') := hide (fun w h => skip_yes s (by omega) b r ⟨#[60, 47, 62]⟩ h3 w h)
  clear hR he hb hsz h1 hl3 hl h3
  generalize r.drop 3 = V at *
  generalize (r.getD 2 0).toNat = c2 at *
  generalize (⟨r.toArray⟩ : ByteArray) = y at *
  go_enter Tryz.func69, Tryz.ntmps69
  go_wp2_with fail
  refine HRS.out.mono ?_
  rintro e w1 ⟨rfl, n1, rfl⟩
  have R1 := hide (R0.out.drewN n1)
  have KR1 := hide (KR0.out.drewN n1)
  have B1 := hide (B0.out.drewN n1)
  have E1 := hide (E0.out.drewN n1)
  clear R0 KR0 B0 E0 HRS
  go_wp2_with fail
  refine (HMK.out _).mono ?_
  rintro e w1 ⟨rfl, rfl⟩
  clear HMK
  go_wp2_with fail
  refine (HL1b.out _).mono ?_
  rintro e w1 ⟨rfl, rfl⟩
  go_wp2_with fail
  refine (HL2.out _).mono ?_
  rintro e w1 ⟨rfl, rfl⟩
  go_wp2_with fail
  refine (HSK.out _ R1.out).mono ?_
  rintro e w2 ⟨rfl, h3, h4⟩
  have R2 := hide h3
  have KR2 := hide (Kept.but KR1.out h4 (by omega))
  have B2 := hide (B1.out.trans h4)
  have E2 := hide (E1.out.but h4 h2)
  clear h3 h4 KR1 B1 R1 E1
  obtain ⟨q0, q1, q2, q3, q4, qf⟩ := KR2.out.tok
  go_wp2
  refine bodyPost_ret (v := tokV { kind := 0 } (.slice none 0 0)) ?_ rfl ?_
  · rw [results_cell_one rfl]
    go_simp
    rfl
  · exact tokE_end { kind := 0 } B2.out R2.out hlt rfl
theorem data_p5 (s : ByteArray) (hs : s.size <= 20000) (b : Nat) (h2 : 2 <= b) (r : List UInt8) (f : Bool) (hb : beginsB r = true) (h1 : r.getD 1 0 = 33) (h3 : ([60, 47, 62] : List UInt8).isPrefixOf r = false) (h4 : ([60, 33, 45, 45] : List UInt8).isPrefixOf r = true) (w : World) (he : Env w) (hR : RdL w b s r) :
    Calls Tryz.prog 69 #[.pointer (some ⟨b, 0, none⟩), .bool f] w fun e w' => TokE w w' b s (commentL (r.drop 4)) e := by
  have hD := dataS_of he hR
  have hlt := hD.lt
  have KR0 := hide hD.kr
  have B0 := hide hD.bu
  have R0 := hide hD.rd
  have E0 := hide hD.en
  have hlen := hR.len
  have HRS := hide (rest_any s (by omega) b r _ hD.rd)
  have hMK := markup_any ⟨r.toArray⟩ (by rw [size_list, str_data]; omega)
  have HMK : Hid (∀ w, Calls Tryz.prog 96 #[.string ⟨r.toArray⟩] w fun e w' => e = .returned (.bool (beginsB r)) /\ w' = w) := hide hMK
  clear hMK hD
  have hl3 : 2 <= r.length /\ ([60] : List UInt8).isPrefixOf r = true := by
    obtain ⟨c, q, rfl, hc⟩ := begins_form r hb
    exact ⟨by simp, by simp [List.isPrefixOf]⟩
  have hsz : (⟨r.toArray⟩ : ByteArray).size = r.length := by rw [size_list, str_data]
  have hi1 : ∀ w, (Instr.index 9 (.string ⟨r.toArray⟩) (.int .i64 1)).run Tryz.prog w = .ok (.int .u8 ((r.getD 1 0).toNat : Int)) w := fun w => by
    have h := run_index_at ⟨r.toArray⟩ 1 1 rfl (by omega) w
    rw [getD_at] at h
    exact h
  have HL1 := hide (letter_any (r.getD 1 0).toNat)
  rw [hb] at HMK
  rw [h1] at hi1 HL1
  rw [show letterN (33 : UInt8).toNat = false by decide] at HL1
  have hc1 : ∀ w, (Instr.index 9 (.string ⟨r.toArray⟩) (.int .i64 1)).run Tryz.prog w = .ok (.int .u8 33) w := hi1
  have HL1b : Hid (∀ w, Calls Tryz.prog 98 #[.int .u8 33] w fun e w' => e = .returned (.bool false) /\ w' = w) := HL1
  clear hi1 HL1
  have HS1 := hide (fun w (h : RdL w b s r) => skip_no s (by omega) b r ⟨#[60, 47, 62]⟩ h3 w h)
  have HS2 : Hid (∀ w, RdL w b s r -> Calls Tryz.prog 91 #[.pointer (some ⟨b, 0, none⟩), .string ⟨#[60, 33, 45, 45]⟩] w fun e w' => e = .returned (.bool true) /\ RdL w' b s (r.drop 4) /\ But b w w') := hide (fun w h => skip_yes s (by omega) b r ⟨#[60, 33, 45, 45]⟩ h4 w h)
  have HCM := hide (fun w (h : RdL w b s (r.drop 4)) => comment_pany s hs b h2 (r.drop 4) w h)
  clear hR he hb hsz h1 hl3 h3 h4
  generalize commentL (r.drop 4) = EE at *
  generalize r.drop 4 = r2 at *
  generalize (⟨r.toArray⟩ : ByteArray) = y at *
  go_enter Tryz.func69, Tryz.ntmps69
  go_wp2_with fail
  refine HRS.out.mono ?_
  rintro e w1 ⟨rfl, n1, rfl⟩
  have R1 := hide (R0.out.drewN n1)
  have KR1 := hide (KR0.out.drewN n1)
  have B1 := hide (B0.out.drewN n1)
  have E1 := hide (E0.out.drewN n1)
  clear R0 KR0 B0 E0 HRS
  go_wp2_with fail
  refine (HMK.out _).mono ?_
  rintro e w1 ⟨rfl, rfl⟩
  clear HMK
  go_wp2_with fail
  refine (HL1b.out _).mono ?_
  rintro e w1 ⟨rfl, rfl⟩
  go_wp2_with fail
  refine (HS1.out _ R1.out).mono ?_
  rintro e w2 ⟨rfl, h3, h4⟩
  have R2 := hide h3
  have KR2 := hide (Kept.but KR1.out h4 (by omega))
  have B2 := hide (B1.out.trans h4)
  have E2 := hide (E1.out.but h4 h2)
  clear h3 h4 KR1 B1 R1 E1
  go_wp2_with fail
  refine (HS2.out _ R2.out).mono ?_
  rintro e w3 ⟨rfl, h3, h4⟩
  have R3 := hide h3
  have KR3 := hide (Kept.but KR2.out h4 (by omega))
  have B3 := hide (B2.out.trans h4)
  have E3 := hide (E2.out.but h4 h2)
  clear h3 h4 KR2 B2 R2 E2
  go_wp2_with fail
  refine (HCM.out _ R3.out).mono ?_
  rintro e w4 ⟨h4, h3, sv, hA, hob, rfl⟩
  have hz2 := KR3.out.lt
  have R4 := hide h3
  have KR4 := hide (Kept.but KR3.out h4 (by omega))
  have B4 := hide (B3.out.trans h4)
  have HA := hide hA
  have HOB : Hid (∀ k, sv.ownBlock = some k -> w.heap.size < k) := hide fun k hk => Nat.lt_of_lt_of_le hz2 (hob k hk)
  obtain ⟨sa, sc, rfl⟩ := isA_form hA
  clear h3 h4 KR3 E3 B3 R3 hA hob HCM
  obtain ⟨q0, q1, q2, q3, q4, qf⟩ := KR4.out.tok
  unfold tokV
  generalize hn1 : (⟨EE.1.name.toArray⟩ : ByteArray) = n1 at *
  generalize hn2 : (⟨EE.1.text.toArray⟩ : ByteArray) = n2 at *
  have HN1 := hide hn1
  have HN2 := hide hn2
  clear hn1 hn2
  go_wp2
  refine bodyPost_ret (v := tokV EE.1 (.slice sa EE.1.attrs.length sc)) ?_ rfl ?_
  · rw [results_cell_one rfl]
    go_simp
    unfold tokV
    rw [HN1.out, HN2.out]
  · have := tokE_end2 EE.1 (.slice sa EE.1.attrs.length sc) B4.out R4.out hlt HA.out HOB.out
    unfold put5 at this
    rw [HN1.out, HN2.out] at this
    exact this
theorem data_p6 (s : ByteArray) (hs : s.size <= 20000) (b : Nat) (h2 : 2 <= b) (r : List UInt8) (f : Bool) (hb : beginsB r = true) (h1 : r.getD 1 0 = 33) (h3 : ([60, 47, 62] : List UInt8).isPrefixOf r = false) (h4 : ([60, 33, 45, 45] : List UInt8).isPrefixOf r = false) (hk : likeB doctypeF r = true) (w : World) (he : Env w) (hR : RdL w b s r) :
    Calls Tryz.prog 69 #[.pointer (some ⟨b, 0, none⟩), .bool f] w fun e w' => TokE w w' b s (({ kind := 5 }, (findR [62] r).2.drop 1)) e := by
  have hD := dataS_of he hR
  have hlt := hD.lt
  have KR0 := hide hD.kr
  have B0 := hide hD.bu
  have R0 := hide hD.rd
  have E0 := hide hD.en
  have hlen := hR.len
  have HRS := hide (rest_any s (by omega) b r _ hD.rd)
  have hMK := markup_any ⟨r.toArray⟩ (by rw [size_list, str_data]; omega)
  have HMK : Hid (∀ w, Calls Tryz.prog 96 #[.string ⟨r.toArray⟩] w fun e w' => e = .returned (.bool (beginsB r)) /\ w' = w) := hide hMK
  clear hMK hD
  have hl3 : 2 <= r.length /\ ([60] : List UInt8).isPrefixOf r = true := by
    obtain ⟨c, q, rfl, hc⟩ := begins_form r hb
    exact ⟨by simp, by simp [List.isPrefixOf]⟩
  have hsz : (⟨r.toArray⟩ : ByteArray).size = r.length := by rw [size_list, str_data]
  have hi1 : ∀ w, (Instr.index 9 (.string ⟨r.toArray⟩) (.int .i64 1)).run Tryz.prog w = .ok (.int .u8 ((r.getD 1 0).toNat : Int)) w := fun w => by
    have h := run_index_at ⟨r.toArray⟩ 1 1 rfl (by omega) w
    rw [getD_at] at h
    exact h
  have HL1 := hide (letter_any (r.getD 1 0).toNat)
  rw [hb] at HMK
  rw [h1] at hi1 HL1
  rw [show letterN (33 : UInt8).toNat = false by decide] at HL1
  have hc1 : ∀ w, (Instr.index 9 (.string ⟨r.toArray⟩) (.int .i64 1)).run Tryz.prog w = .ok (.int .u8 33) w := hi1
  have HL1b : Hid (∀ w, Calls Tryz.prog 98 #[.int .u8 33] w fun e w' => e = .returned (.bool false) /\ w' = w) := HL1
  clear hi1 HL1
  have HS1 := hide (fun w (h : RdL w b s r) => skip_no s (by omega) b r ⟨#[60, 47, 62]⟩ h3 w h)
  have HS2 := hide (fun w (h : RdL w b s r) => skip_no s (by omega) b r ⟨#[60, 33, 45, 45]⟩ h4 w h)
  have hLK := like_any ⟨r.toArray⟩ ⟨#[60, 33, 100, 111, 99, 116, 121, 112, 101]⟩ (by omega)
  have HLK : Hid (∀ w, Calls Tryz.prog 101 #[.string ⟨r.toArray⟩, .string ⟨#[60, 33, 100, 111, 99, 116, 121, 112, 101]⟩] w fun e w' => e = .returned (.bool true) /\ Below w.heap.size w w') := by
    refine hide fun w => ?_
    rw [<- hk]
    exact hLK w
  clear hLK
  have HUP := hide (fun w (h : RdL w b s r) => upToG_any s (by omega) b r w h)
  clear hR he hb hsz h1 hl3 h3 h4 hk
  generalize (findR [62] r).2.drop 1 = V at *
  generalize (findR [62] r).1 = X at *
  generalize (⟨r.toArray⟩ : ByteArray) = y at *
  generalize (⟨X.toArray⟩ : ByteArray) = x at *
  go_enter Tryz.func69, Tryz.ntmps69
  go_wp2_with fail
  refine HRS.out.mono ?_
  rintro e w1 ⟨rfl, n1, rfl⟩
  have R1 := hide (R0.out.drewN n1)
  have KR1 := hide (KR0.out.drewN n1)
  have B1 := hide (B0.out.drewN n1)
  have E1 := hide (E0.out.drewN n1)
  clear R0 KR0 B0 E0 HRS
  go_wp2_with fail
  refine (HMK.out _).mono ?_
  rintro e w1 ⟨rfl, rfl⟩
  clear HMK
  go_wp2_with fail
  refine (HL1b.out _).mono ?_
  rintro e w1 ⟨rfl, rfl⟩
  go_wp2_with fail
  refine (HS1.out _ R1.out).mono ?_
  rintro e w2 ⟨rfl, h3, h4⟩
  have R2 := hide h3
  have KR2 := hide (Kept.but KR1.out h4 (by omega))
  have B2 := hide (B1.out.trans h4)
  have E2 := hide (E1.out.but h4 h2)
  clear h3 h4 KR1 B1 R1 E1
  go_wp2_with fail
  refine (HS2.out _ R2.out).mono ?_
  rintro e w3 ⟨rfl, h3, h4⟩
  have R3 := hide h3
  have KR3 := hide (Kept.but KR2.out h4 (by omega))
  have B3 := hide (B2.out.trans h4)
  have E3 := hide (E2.out.but h4 h2)
  clear h3 h4 KR2 B2 R2 E2
  go_wp2_with fail
  refine (HLK.out _).mono ?_
  rintro e w4 ⟨rfl, h4⟩
  have R4 := hide (R3.out.below h4)
  have KR4 := hide (Kept.below KR3.out h4)
  have B4 := hide (B3.out.trans (.of h4))
  have E4 := hide (E3.out.below h4)
  clear h4 KR3 B3 R3 E3
  go_wp2_with fail
  refine (HUP.out _ R4.out).mono ?_
  rintro e w5 ⟨rfl, h3, h4⟩
  have R5 := hide h3
  have KR5 := hide (Kept.but KR4.out h4 (by omega))
  have B5 := hide (B4.out.trans h4)
  have E5 := hide (E4.out.but h4 h2)
  clear h3 h4 KR4 B4 R4 E4
  obtain ⟨q0, q1, q2, q3, q4, qf⟩ := KR5.out.tok
  go_wp2
  refine bodyPost_ret (v := tokV { kind := 5 } (.slice none 0 0)) ?_ rfl ?_
  · rw [results_cell_one rfl]
    go_simp
    rfl
  · exact tokE_end { kind := 5 } B5.out R5.out hlt rfl
theorem data_p7 (s : ByteArray) (hs : s.size <= 20000) (b : Nat) (h2 : 2 <= b) (r : List UInt8) (f : Bool) (hf : f = true) (hb : beginsB r = true) (h1 : r.getD 1 0 = 33) (h3 : ([60, 47, 62] : List UInt8).isPrefixOf r = false) (h4 : ([60, 33, 45, 45] : List UInt8).isPrefixOf r = false) (hk : likeB doctypeF r = false) (hx : cdataM.isPrefixOf r = true) (w : World) (he : Env w) (hR : RdL w b s r) :
    Calls Tryz.prog 69 #[.pointer (some ⟨b, 0, none⟩), .bool f] w fun e w' => TokE w w' b s (cdataT (r.drop 9)) e := by
  subst hf
  have hD := dataS_of he hR
  have hlt := hD.lt
  have KR0 := hide hD.kr
  have B0 := hide hD.bu
  have R0 := hide hD.rd
  have E0 := hide hD.en
  have hlen := hR.len
  have HRS := hide (rest_any s (by omega) b r _ hD.rd)
  have hMK := markup_any ⟨r.toArray⟩ (by rw [size_list, str_data]; omega)
  have HMK : Hid (∀ w, Calls Tryz.prog 96 #[.string ⟨r.toArray⟩] w fun e w' => e = .returned (.bool (beginsB r)) /\ w' = w) := hide hMK
  clear hMK hD
  have hl3 : 2 <= r.length /\ ([60] : List UInt8).isPrefixOf r = true := by
    obtain ⟨c, q, rfl, hc⟩ := begins_form r hb
    exact ⟨by simp, by simp [List.isPrefixOf]⟩
  have hsz : (⟨r.toArray⟩ : ByteArray).size = r.length := by rw [size_list, str_data]
  have hi1 : ∀ w, (Instr.index 9 (.string ⟨r.toArray⟩) (.int .i64 1)).run Tryz.prog w = .ok (.int .u8 ((r.getD 1 0).toNat : Int)) w := fun w => by
    have h := run_index_at ⟨r.toArray⟩ 1 1 rfl (by omega) w
    rw [getD_at] at h
    exact h
  have HL1 := hide (letter_any (r.getD 1 0).toNat)
  rw [hb] at HMK
  rw [h1] at hi1 HL1
  rw [show letterN (33 : UInt8).toNat = false by decide] at HL1
  have hc1 : ∀ w, (Instr.index 9 (.string ⟨r.toArray⟩) (.int .i64 1)).run Tryz.prog w = .ok (.int .u8 33) w := hi1
  have HL1b : Hid (∀ w, Calls Tryz.prog 98 #[.int .u8 33] w fun e w' => e = .returned (.bool false) /\ w' = w) := HL1
  clear hi1 HL1
  have HS1 := hide (fun w (h : RdL w b s r) => skip_no s (by omega) b r ⟨#[60, 47, 62]⟩ h3 w h)
  have HS2 := hide (fun w (h : RdL w b s r) => skip_no s (by omega) b r ⟨#[60, 33, 45, 45]⟩ h4 w h)
  have hLK := like_any ⟨r.toArray⟩ ⟨#[60, 33, 100, 111, 99, 116, 121, 112, 101]⟩ (by omega)
  have HLK : Hid (∀ w, Calls Tryz.prog 101 #[.string ⟨r.toArray⟩, .string ⟨#[60, 33, 100, 111, 99, 116, 121, 112, 101]⟩] w fun e w' => e = .returned (.bool false) /\ Below w.heap.size w w') := by
    refine hide fun w => ?_
    rw [<- hk]
    exact hLK w
  clear hLK
  have HS3 : Hid (∀ w, RdL w b s r -> Calls Tryz.prog 91 #[.pointer (some ⟨b, 0, none⟩), .string ⟨#[60, 33, 91, 67, 68, 65, 84, 65, 91]⟩] w fun e w' => e = .returned (.bool true) /\ RdL w' b s (r.drop 9) /\ But b w w') := hide (fun w h => skip_yes s (by omega) b r ⟨#[60, 33, 91, 67, 68, 65, 84, 65, 91]⟩ hx w h)
  have HCD := hide (fun w he (h : RdL w b s (r.drop 9)) => cdata_pany s hs b h2 (r.drop 9) w he h)
  have HCD2 : Hid (∀ w, Env w -> RdL w b s (r.drop 9) -> Calls Tryz.prog 103 #[.pointer (some ⟨b, 0, none⟩)] w fun e w' => TokE w w' b s (cdataT (r.drop 9)) e) := HCD
  clear HCD
  clear hR he hb hsz h1 hl3 h3 h4 hk hx
  generalize cdataT (r.drop 9) = EE at *
  generalize r.drop 9 = r2 at *
  generalize (⟨r.toArray⟩ : ByteArray) = y at *
  go_enter Tryz.func69, Tryz.ntmps69
  go_wp2_with fail
  refine HRS.out.mono ?_
  rintro e w1 ⟨rfl, n1, rfl⟩
  have R1 := hide (R0.out.drewN n1)
  have KR1 := hide (KR0.out.drewN n1)
  have B1 := hide (B0.out.drewN n1)
  have E1 := hide (E0.out.drewN n1)
  clear R0 KR0 B0 E0 HRS
  go_wp2_with fail
  refine (HMK.out _).mono ?_
  rintro e w1 ⟨rfl, rfl⟩
  clear HMK
  go_wp2_with fail
  refine (HL1b.out _).mono ?_
  rintro e w1 ⟨rfl, rfl⟩
  go_wp2_with fail
  refine (HS1.out _ R1.out).mono ?_
  rintro e w2 ⟨rfl, h3, h4⟩
  have R2 := hide h3
  have KR2 := hide (Kept.but KR1.out h4 (by omega))
  have B2 := hide (B1.out.trans h4)
  have E2 := hide (E1.out.but h4 h2)
  clear h3 h4 KR1 B1 R1 E1
  go_wp2_with fail
  refine (HS2.out _ R2.out).mono ?_
  rintro e w3 ⟨rfl, h3, h4⟩
  have R3 := hide h3
  have KR3 := hide (Kept.but KR2.out h4 (by omega))
  have B3 := hide (B2.out.trans h4)
  have E3 := hide (E2.out.but h4 h2)
  clear h3 h4 KR2 B2 R2 E2
  go_wp2_with fail
  refine (HLK.out _).mono ?_
  rintro e w4 ⟨rfl, h4⟩
  have R4 := hide (R3.out.below h4)
  have KR4 := hide (Kept.below KR3.out h4)
  have B4 := hide (B3.out.trans (.of h4))
  have E4 := hide (E3.out.below h4)
  clear h4 KR3 B3 R3 E3
  go_wp2_with fail
  refine (HS3.out _ R4.out).mono ?_
  rintro e w5 ⟨rfl, h3, h4⟩
  have R5 := hide h3
  have KR5 := hide (Kept.but KR4.out h4 (by omega))
  have B5 := hide (B4.out.trans h4)
  have E5 := hide (E4.out.but h4 h2)
  clear h3 h4 KR4 B4 R4 E4
  go_wp2_with fail
  refine (HCD2.out _ E5.out R5.out).mono ?_
  rintro e w6 ⟨h4, h3, sv, hA, hob, rfl⟩
  have hz2 := KR5.out.lt
  have R6 := hide h3
  have KR6 := hide (Kept.but KR5.out h4 (by omega))
  have B6 := hide (B5.out.trans h4)
  have HA := hide hA
  have HOB : Hid (∀ k, sv.ownBlock = some k -> w.heap.size < k) := hide fun k hk => Nat.lt_of_lt_of_le hz2 (hob k hk)
  obtain ⟨sa, sc, rfl⟩ := isA_form hA
  clear h3 h4 KR5 E5 B5 R5 hA hob HCD2
  obtain ⟨q0, q1, q2, q3, q4, qf⟩ := KR6.out.tok
  unfold tokV
  generalize hn1 : (⟨EE.1.name.toArray⟩ : ByteArray) = n1 at *
  generalize hn2 : (⟨EE.1.text.toArray⟩ : ByteArray) = n2 at *
  have HN1 := hide hn1
  have HN2 := hide hn2
  clear hn1 hn2
  go_wp2
  refine bodyPost_ret (v := tokV EE.1 (.slice sa EE.1.attrs.length sc)) ?_ rfl ?_
  · rw [results_cell_one rfl]
    go_simp
    unfold tokV
    rw [HN1.out, HN2.out]
  · have := tokE_end2 EE.1 (.slice sa EE.1.attrs.length sc) B6.out R6.out hlt HA.out HOB.out
    unfold put5 at this
    rw [HN1.out, HN2.out] at this
    exact this
theorem data_p8_33_true (s : ByteArray) (hs : s.size <= 20000) (b : Nat) (h2 : 2 <= b) (r : List UInt8) (f : Bool) (hf : f = true) (hb : beginsB r = true) (h1 : r.getD 1 0 = 33) (h3 : ([60, 47, 62] : List UInt8).isPrefixOf r = false) (h4 : ([60, 33, 45, 45] : List UInt8).isPrefixOf r = false) (hk : likeB doctypeF r = false) (hx : cdataM.isPrefixOf r = false) (w : World) (he : Env w) (hR : RdL w b s r) :
    Calls Tryz.prog 69 #[.pointer (some ⟨b, 0, none⟩), .bool f] w fun e w' => TokE w w' b s (otherL (oddR r)) e := by
  subst hf
  have hD := dataS_of he hR
  have hlt := hD.lt
  have KR0 := hide hD.kr
  have B0 := hide hD.bu
  have R0 := hide hD.rd
  have E0 := hide hD.en
  have hlen := hR.len
  have HRS := hide (rest_any s (by omega) b r _ hD.rd)
  have hMK := markup_any ⟨r.toArray⟩ (by rw [size_list, str_data]; omega)
  have HMK : Hid (∀ w, Calls Tryz.prog 96 #[.string ⟨r.toArray⟩] w fun e w' => e = .returned (.bool (beginsB r)) /\ w' = w) := hide hMK
  clear hMK hD
  have hl3 : 2 <= r.length /\ ([60] : List UInt8).isPrefixOf r = true := by
    obtain ⟨c, q, rfl, hc⟩ := begins_form r hb
    exact ⟨by simp, by simp [List.isPrefixOf]⟩
  have hsz : (⟨r.toArray⟩ : ByteArray).size = r.length := by rw [size_list, str_data]
  have hi1 : ∀ w, (Instr.index 9 (.string ⟨r.toArray⟩) (.int .i64 1)).run Tryz.prog w = .ok (.int .u8 ((r.getD 1 0).toNat : Int)) w := fun w => by
    have h := run_index_at ⟨r.toArray⟩ 1 1 rfl (by omega) w
    rw [getD_at] at h
    exact h
  have HL1 := hide (letter_any (r.getD 1 0).toNat)
  rw [hb] at HMK
  rw [h1] at hi1 HL1
  rw [show letterN (33 : UInt8).toNat = false by decide] at HL1
  have hc1 : ∀ w, (Instr.index 9 (.string ⟨r.toArray⟩) (.int .i64 1)).run Tryz.prog w = .ok (.int .u8 33) w := hi1
  have HL1b : Hid (∀ w, Calls Tryz.prog 98 #[.int .u8 33] w fun e w' => e = .returned (.bool false) /\ w' = w) := HL1
  clear hi1 HL1
  have HS1 := hide (fun w (h : RdL w b s r) => skip_no s (by omega) b r ⟨#[60, 47, 62]⟩ h3 w h)
  have HS2 := hide (fun w (h : RdL w b s r) => skip_no s (by omega) b r ⟨#[60, 33, 45, 45]⟩ h4 w h)
  have hLK := like_any ⟨r.toArray⟩ ⟨#[60, 33, 100, 111, 99, 116, 121, 112, 101]⟩ (by omega)
  have HLK : Hid (∀ w, Calls Tryz.prog 101 #[.string ⟨r.toArray⟩, .string ⟨#[60, 33, 100, 111, 99, 116, 121, 112, 101]⟩] w fun e w' => e = .returned (.bool false) /\ Below w.heap.size w w') := by
    refine hide fun w => ?_
    rw [<- hk]
    exact hLK w
  clear hLK
  have HS3 := hide (fun w (h : RdL w b s r) => skip_no s (by omega) b r ⟨#[60, 33, 91, 67, 68, 65, 84, 65, 91]⟩ hx w h)
  have HOD := hide (fun w (h : RdL w b s r) => odd_any s hs b h2 r hl3.2 w h)
  clear hR he hb hsz h1 hl3 h3 h4 hk hx
  generalize otherL (oddR r) = EE at *
  generalize (⟨r.toArray⟩ : ByteArray) = y at *
  go_enter Tryz.func69, Tryz.ntmps69
  go_wp2_with fail
  refine HRS.out.mono ?_
  rintro e w1 ⟨rfl, n1, rfl⟩
  have R1 := hide (R0.out.drewN n1)
  have KR1 := hide (KR0.out.drewN n1)
  have B1 := hide (B0.out.drewN n1)
  have E1 := hide (E0.out.drewN n1)
  clear R0 KR0 B0 E0 HRS
  go_wp2_with fail
  refine (HMK.out _).mono ?_
  rintro e w1 ⟨rfl, rfl⟩
  clear HMK
  go_wp2_with fail
  refine (HL1b.out _).mono ?_
  rintro e w1 ⟨rfl, rfl⟩
  go_wp2_with fail
  refine (HS1.out _ R1.out).mono ?_
  rintro e w2 ⟨rfl, h3, h4⟩
  have R2 := hide h3
  have KR2 := hide (Kept.but KR1.out h4 (by omega))
  have B2 := hide (B1.out.trans h4)
  have E2 := hide (E1.out.but h4 h2)
  clear h3 h4 KR1 B1 R1 E1
  go_wp2_with fail
  refine (HS2.out _ R2.out).mono ?_
  rintro e w3 ⟨rfl, h3, h4⟩
  have R3 := hide h3
  have KR3 := hide (Kept.but KR2.out h4 (by omega))
  have B3 := hide (B2.out.trans h4)
  have E3 := hide (E2.out.but h4 h2)
  clear h3 h4 KR2 B2 R2 E2
  go_wp2_with fail
  refine (HLK.out _).mono ?_
  rintro e w4 ⟨rfl, h4⟩
  have R4 := hide (R3.out.below h4)
  have KR4 := hide (Kept.below KR3.out h4)
  have B4 := hide (B3.out.trans (.of h4))
  have E4 := hide (E3.out.below h4)
  clear h4 KR3 B3 R3 E3
  go_wp2_with fail
  refine (HS3.out _ R4.out).mono ?_
  rintro e w5 ⟨rfl, h3, h4⟩
  have R5 := hide h3
  have KR5 := hide (Kept.but KR4.out h4 (by omega))
  have B5 := hide (B4.out.trans h4)
  have E5 := hide (E4.out.but h4 h2)
  clear h3 h4 KR4 B4 R4 E4
  go_wp2_with fail
  refine (HOD.out _ R5.out).mono ?_
  rintro e w6 ⟨h4, h3, sv, hA, hob, rfl⟩
  have hz2 := KR5.out.lt
  have R6 := hide h3
  have KR6 := hide (Kept.but KR5.out h4 (by omega))
  have B6 := hide (B5.out.trans h4)
  have HA := hide hA
  have HOB : Hid (∀ k, sv.ownBlock = some k -> w.heap.size < k) := hide fun k hk => Nat.lt_of_lt_of_le hz2 (hob k hk)
  obtain ⟨sa, sc, rfl⟩ := isA_form hA
  clear h3 h4 KR5 E5 B5 R5 hA hob HOD
  obtain ⟨q0, q1, q2, q3, q4, qf⟩ := KR6.out.tok
  unfold tokV
  generalize hn1 : (⟨EE.1.name.toArray⟩ : ByteArray) = n1 at *
  generalize hn2 : (⟨EE.1.text.toArray⟩ : ByteArray) = n2 at *
  have HN1 := hide hn1
  have HN2 := hide hn2
  clear hn1 hn2
  go_wp2
  refine bodyPost_ret (v := tokV EE.1 (.slice sa EE.1.attrs.length sc)) ?_ rfl ?_
  · rw [results_cell_one rfl]
    go_simp
    unfold tokV
    rw [HN1.out, HN2.out]
  · have := tokE_end2 EE.1 (.slice sa EE.1.attrs.length sc) B6.out R6.out hlt HA.out HOB.out
    unfold put5 at this
    rw [HN1.out, HN2.out] at this
    exact this
theorem data_p8_33_false (s : ByteArray) (hs : s.size <= 20000) (b : Nat) (h2 : 2 <= b) (r : List UInt8) (f : Bool) (hf : f = false) (hb : beginsB r = true) (h1 : r.getD 1 0 = 33) (h3 : ([60, 47, 62] : List UInt8).isPrefixOf r = false) (h4 : ([60, 33, 45, 45] : List UInt8).isPrefixOf r = false) (hk : likeB doctypeF r = false) (w : World) (he : Env w) (hR : RdL w b s r) :
    Calls Tryz.prog 69 #[.pointer (some ⟨b, 0, none⟩), .bool f] w fun e w' => TokE w w' b s (otherL (oddR r)) e := by
  subst hf
  have hD := dataS_of he hR
  have hlt := hD.lt
  have KR0 := hide hD.kr
  have B0 := hide hD.bu
  have R0 := hide hD.rd
  have E0 := hide hD.en
  have hlen := hR.len
  have HRS := hide (rest_any s (by omega) b r _ hD.rd)
  have hMK := markup_any ⟨r.toArray⟩ (by rw [size_list, str_data]; omega)
  have HMK : Hid (∀ w, Calls Tryz.prog 96 #[.string ⟨r.toArray⟩] w fun e w' => e = .returned (.bool (beginsB r)) /\ w' = w) := hide hMK
  clear hMK hD
  have hl3 : 2 <= r.length /\ ([60] : List UInt8).isPrefixOf r = true := by
    obtain ⟨c, q, rfl, hc⟩ := begins_form r hb
    exact ⟨by simp, by simp [List.isPrefixOf]⟩
  have hsz : (⟨r.toArray⟩ : ByteArray).size = r.length := by rw [size_list, str_data]
  have hi1 : ∀ w, (Instr.index 9 (.string ⟨r.toArray⟩) (.int .i64 1)).run Tryz.prog w = .ok (.int .u8 ((r.getD 1 0).toNat : Int)) w := fun w => by
    have h := run_index_at ⟨r.toArray⟩ 1 1 rfl (by omega) w
    rw [getD_at] at h
    exact h
  have HL1 := hide (letter_any (r.getD 1 0).toNat)
  rw [hb] at HMK
  rw [h1] at hi1 HL1
  rw [show letterN (33 : UInt8).toNat = false by decide] at HL1
  have hc1 : ∀ w, (Instr.index 9 (.string ⟨r.toArray⟩) (.int .i64 1)).run Tryz.prog w = .ok (.int .u8 33) w := hi1
  have HL1b : Hid (∀ w, Calls Tryz.prog 98 #[.int .u8 33] w fun e w' => e = .returned (.bool false) /\ w' = w) := HL1
  clear hi1 HL1
  have HS1 := hide (fun w (h : RdL w b s r) => skip_no s (by omega) b r ⟨#[60, 47, 62]⟩ h3 w h)
  have HS2 := hide (fun w (h : RdL w b s r) => skip_no s (by omega) b r ⟨#[60, 33, 45, 45]⟩ h4 w h)
  have hLK := like_any ⟨r.toArray⟩ ⟨#[60, 33, 100, 111, 99, 116, 121, 112, 101]⟩ (by omega)
  have HLK : Hid (∀ w, Calls Tryz.prog 101 #[.string ⟨r.toArray⟩, .string ⟨#[60, 33, 100, 111, 99, 116, 121, 112, 101]⟩] w fun e w' => e = .returned (.bool false) /\ Below w.heap.size w w') := by
    refine hide fun w => ?_
    rw [<- hk]
    exact hLK w
  clear hLK
  have HOD := hide (fun w (h : RdL w b s r) => odd_any s hs b h2 r hl3.2 w h)
  clear hR he hb hsz h1 hl3 h3 h4 hk
  generalize otherL (oddR r) = EE at *
  generalize (⟨r.toArray⟩ : ByteArray) = y at *
  go_enter Tryz.func69, Tryz.ntmps69
  go_wp2_with fail
  refine HRS.out.mono ?_
  rintro e w1 ⟨rfl, n1, rfl⟩
  have R1 := hide (R0.out.drewN n1)
  have KR1 := hide (KR0.out.drewN n1)
  have B1 := hide (B0.out.drewN n1)
  have E1 := hide (E0.out.drewN n1)
  clear R0 KR0 B0 E0 HRS
  go_wp2_with fail
  refine (HMK.out _).mono ?_
  rintro e w1 ⟨rfl, rfl⟩
  clear HMK
  go_wp2_with fail
  refine (HL1b.out _).mono ?_
  rintro e w1 ⟨rfl, rfl⟩
  go_wp2_with fail
  refine (HS1.out _ R1.out).mono ?_
  rintro e w2 ⟨rfl, h3, h4⟩
  have R2 := hide h3
  have KR2 := hide (Kept.but KR1.out h4 (by omega))
  have B2 := hide (B1.out.trans h4)
  have E2 := hide (E1.out.but h4 h2)
  clear h3 h4 KR1 B1 R1 E1
  go_wp2_with fail
  refine (HS2.out _ R2.out).mono ?_
  rintro e w3 ⟨rfl, h3, h4⟩
  have R3 := hide h3
  have KR3 := hide (Kept.but KR2.out h4 (by omega))
  have B3 := hide (B2.out.trans h4)
  have E3 := hide (E2.out.but h4 h2)
  clear h3 h4 KR2 B2 R2 E2
  go_wp2_with fail
  refine (HLK.out _).mono ?_
  rintro e w4 ⟨rfl, h4⟩
  have R4 := hide (R3.out.below h4)
  have KR4 := hide (Kept.below KR3.out h4)
  have B4 := hide (B3.out.trans (.of h4))
  have E4 := hide (E3.out.below h4)
  clear h4 KR3 B3 R3 E3
  go_wp2_with fail
  refine (HOD.out _ R4.out).mono ?_
  rintro e w5 ⟨h4, h3, sv, hA, hob, rfl⟩
  have hz2 := KR4.out.lt
  have R5 := hide h3
  have KR5 := hide (Kept.but KR4.out h4 (by omega))
  have B5 := hide (B4.out.trans h4)
  have HA := hide hA
  have HOB : Hid (∀ k, sv.ownBlock = some k -> w.heap.size < k) := hide fun k hk => Nat.lt_of_lt_of_le hz2 (hob k hk)
  obtain ⟨sa, sc, rfl⟩ := isA_form hA
  clear h3 h4 KR4 E4 B4 R4 hA hob HOD
  obtain ⟨q0, q1, q2, q3, q4, qf⟩ := KR5.out.tok
  unfold tokV
  generalize hn1 : (⟨EE.1.name.toArray⟩ : ByteArray) = n1 at *
  generalize hn2 : (⟨EE.1.text.toArray⟩ : ByteArray) = n2 at *
  have HN1 := hide hn1
  have HN2 := hide hn2
  clear hn1 hn2
  go_wp2
  refine bodyPost_ret (v := tokV EE.1 (.slice sa EE.1.attrs.length sc)) ?_ rfl ?_
  · rw [results_cell_one rfl]
    go_simp
    unfold tokV
    rw [HN1.out, HN2.out]
  · have := tokE_end2 EE.1 (.slice sa EE.1.attrs.length sc) B5.out R5.out hlt HA.out HOB.out
    unfold put5 at this
    rw [HN1.out, HN2.out] at this
    exact this
theorem data_p8_63_true (s : ByteArray) (hs : s.size <= 20000) (b : Nat) (h2 : 2 <= b) (r : List UInt8) (f : Bool) (hf : f = true) (hb : beginsB r = true) (h1 : r.getD 1 0 = 63) (h3 : ([60, 47, 62] : List UInt8).isPrefixOf r = false) (h4 : ([60, 33, 45, 45] : List UInt8).isPrefixOf r = false) (hk : likeB doctypeF r = false) (hx : cdataM.isPrefixOf r = false) (w : World) (he : Env w) (hR : RdL w b s r) :
    Calls Tryz.prog 69 #[.pointer (some ⟨b, 0, none⟩), .bool f] w fun e w' => TokE w w' b s (otherL (oddR r)) e := by
  subst hf
  have hD := dataS_of he hR
  have hlt := hD.lt
  have KR0 := hide hD.kr
  have B0 := hide hD.bu
  have R0 := hide hD.rd
  have E0 := hide hD.en
  have hlen := hR.len
  have HRS := hide (rest_any s (by omega) b r _ hD.rd)
  have hMK := markup_any ⟨r.toArray⟩ (by rw [size_list, str_data]; omega)
  have HMK : Hid (∀ w, Calls Tryz.prog 96 #[.string ⟨r.toArray⟩] w fun e w' => e = .returned (.bool (beginsB r)) /\ w' = w) := hide hMK
  clear hMK hD
  have hl3 : 2 <= r.length /\ ([60] : List UInt8).isPrefixOf r = true := by
    obtain ⟨c, q, rfl, hc⟩ := begins_form r hb
    exact ⟨by simp, by simp [List.isPrefixOf]⟩
  have hsz : (⟨r.toArray⟩ : ByteArray).size = r.length := by rw [size_list, str_data]
  have hi1 : ∀ w, (Instr.index 9 (.string ⟨r.toArray⟩) (.int .i64 1)).run Tryz.prog w = .ok (.int .u8 ((r.getD 1 0).toNat : Int)) w := fun w => by
    have h := run_index_at ⟨r.toArray⟩ 1 1 rfl (by omega) w
    rw [getD_at] at h
    exact h
  have HL1 := hide (letter_any (r.getD 1 0).toNat)
  rw [hb] at HMK
  rw [h1] at hi1 HL1
  rw [show letterN (63 : UInt8).toNat = false by decide] at HL1
  have hc1 : ∀ w, (Instr.index 9 (.string ⟨r.toArray⟩) (.int .i64 1)).run Tryz.prog w = .ok (.int .u8 63) w := hi1
  have HL1b : Hid (∀ w, Calls Tryz.prog 98 #[.int .u8 63] w fun e w' => e = .returned (.bool false) /\ w' = w) := HL1
  clear hi1 HL1
  have HS1 := hide (fun w (h : RdL w b s r) => skip_no s (by omega) b r ⟨#[60, 47, 62]⟩ h3 w h)
  have HS2 := hide (fun w (h : RdL w b s r) => skip_no s (by omega) b r ⟨#[60, 33, 45, 45]⟩ h4 w h)
  have hLK := like_any ⟨r.toArray⟩ ⟨#[60, 33, 100, 111, 99, 116, 121, 112, 101]⟩ (by omega)
  have HLK : Hid (∀ w, Calls Tryz.prog 101 #[.string ⟨r.toArray⟩, .string ⟨#[60, 33, 100, 111, 99, 116, 121, 112, 101]⟩] w fun e w' => e = .returned (.bool false) /\ Below w.heap.size w w') := by
    refine hide fun w => ?_
    rw [<- hk]
    exact hLK w
  clear hLK
  have HS3 := hide (fun w (h : RdL w b s r) => skip_no s (by omega) b r ⟨#[60, 33, 91, 67, 68, 65, 84, 65, 91]⟩ hx w h)
  have HOD := hide (fun w (h : RdL w b s r) => odd_any s hs b h2 r hl3.2 w h)
  clear hR he hb hsz h1 hl3 h3 h4 hk hx
  generalize otherL (oddR r) = EE at *
  generalize (⟨r.toArray⟩ : ByteArray) = y at *
  go_enter Tryz.func69, Tryz.ntmps69
  go_wp2_with fail
  refine HRS.out.mono ?_
  rintro e w1 ⟨rfl, n1, rfl⟩
  have R1 := hide (R0.out.drewN n1)
  have KR1 := hide (KR0.out.drewN n1)
  have B1 := hide (B0.out.drewN n1)
  have E1 := hide (E0.out.drewN n1)
  clear R0 KR0 B0 E0 HRS
  go_wp2_with fail
  refine (HMK.out _).mono ?_
  rintro e w1 ⟨rfl, rfl⟩
  clear HMK
  go_wp2_with fail
  refine (HL1b.out _).mono ?_
  rintro e w1 ⟨rfl, rfl⟩
  go_wp2_with fail
  refine (HS1.out _ R1.out).mono ?_
  rintro e w2 ⟨rfl, h3, h4⟩
  have R2 := hide h3
  have KR2 := hide (Kept.but KR1.out h4 (by omega))
  have B2 := hide (B1.out.trans h4)
  have E2 := hide (E1.out.but h4 h2)
  clear h3 h4 KR1 B1 R1 E1
  go_wp2_with fail
  refine (HS2.out _ R2.out).mono ?_
  rintro e w3 ⟨rfl, h3, h4⟩
  have R3 := hide h3
  have KR3 := hide (Kept.but KR2.out h4 (by omega))
  have B3 := hide (B2.out.trans h4)
  have E3 := hide (E2.out.but h4 h2)
  clear h3 h4 KR2 B2 R2 E2
  go_wp2_with fail
  refine (HLK.out _).mono ?_
  rintro e w4 ⟨rfl, h4⟩
  have R4 := hide (R3.out.below h4)
  have KR4 := hide (Kept.below KR3.out h4)
  have B4 := hide (B3.out.trans (.of h4))
  have E4 := hide (E3.out.below h4)
  clear h4 KR3 B3 R3 E3
  go_wp2_with fail
  refine (HS3.out _ R4.out).mono ?_
  rintro e w5 ⟨rfl, h3, h4⟩
  have R5 := hide h3
  have KR5 := hide (Kept.but KR4.out h4 (by omega))
  have B5 := hide (B4.out.trans h4)
  have E5 := hide (E4.out.but h4 h2)
  clear h3 h4 KR4 B4 R4 E4
  go_wp2_with fail
  refine (HOD.out _ R5.out).mono ?_
  rintro e w6 ⟨h4, h3, sv, hA, hob, rfl⟩
  have hz2 := KR5.out.lt
  have R6 := hide h3
  have KR6 := hide (Kept.but KR5.out h4 (by omega))
  have B6 := hide (B5.out.trans h4)
  have HA := hide hA
  have HOB : Hid (∀ k, sv.ownBlock = some k -> w.heap.size < k) := hide fun k hk => Nat.lt_of_lt_of_le hz2 (hob k hk)
  obtain ⟨sa, sc, rfl⟩ := isA_form hA
  clear h3 h4 KR5 E5 B5 R5 hA hob HOD
  obtain ⟨q0, q1, q2, q3, q4, qf⟩ := KR6.out.tok
  unfold tokV
  generalize hn1 : (⟨EE.1.name.toArray⟩ : ByteArray) = n1 at *
  generalize hn2 : (⟨EE.1.text.toArray⟩ : ByteArray) = n2 at *
  have HN1 := hide hn1
  have HN2 := hide hn2
  clear hn1 hn2
  go_wp2
  refine bodyPost_ret (v := tokV EE.1 (.slice sa EE.1.attrs.length sc)) ?_ rfl ?_
  · rw [results_cell_one rfl]
    go_simp
    unfold tokV
    rw [HN1.out, HN2.out]
  · have := tokE_end2 EE.1 (.slice sa EE.1.attrs.length sc) B6.out R6.out hlt HA.out HOB.out
    unfold put5 at this
    rw [HN1.out, HN2.out] at this
    exact this
theorem data_p8_63_false (s : ByteArray) (hs : s.size <= 20000) (b : Nat) (h2 : 2 <= b) (r : List UInt8) (f : Bool) (hf : f = false) (hb : beginsB r = true) (h1 : r.getD 1 0 = 63) (h3 : ([60, 47, 62] : List UInt8).isPrefixOf r = false) (h4 : ([60, 33, 45, 45] : List UInt8).isPrefixOf r = false) (hk : likeB doctypeF r = false) (w : World) (he : Env w) (hR : RdL w b s r) :
    Calls Tryz.prog 69 #[.pointer (some ⟨b, 0, none⟩), .bool f] w fun e w' => TokE w w' b s (otherL (oddR r)) e := by
  subst hf
  have hD := dataS_of he hR
  have hlt := hD.lt
  have KR0 := hide hD.kr
  have B0 := hide hD.bu
  have R0 := hide hD.rd
  have E0 := hide hD.en
  have hlen := hR.len
  have HRS := hide (rest_any s (by omega) b r _ hD.rd)
  have hMK := markup_any ⟨r.toArray⟩ (by rw [size_list, str_data]; omega)
  have HMK : Hid (∀ w, Calls Tryz.prog 96 #[.string ⟨r.toArray⟩] w fun e w' => e = .returned (.bool (beginsB r)) /\ w' = w) := hide hMK
  clear hMK hD
  have hl3 : 2 <= r.length /\ ([60] : List UInt8).isPrefixOf r = true := by
    obtain ⟨c, q, rfl, hc⟩ := begins_form r hb
    exact ⟨by simp, by simp [List.isPrefixOf]⟩
  have hsz : (⟨r.toArray⟩ : ByteArray).size = r.length := by rw [size_list, str_data]
  have hi1 : ∀ w, (Instr.index 9 (.string ⟨r.toArray⟩) (.int .i64 1)).run Tryz.prog w = .ok (.int .u8 ((r.getD 1 0).toNat : Int)) w := fun w => by
    have h := run_index_at ⟨r.toArray⟩ 1 1 rfl (by omega) w
    rw [getD_at] at h
    exact h
  have HL1 := hide (letter_any (r.getD 1 0).toNat)
  rw [hb] at HMK
  rw [h1] at hi1 HL1
  rw [show letterN (63 : UInt8).toNat = false by decide] at HL1
  have hc1 : ∀ w, (Instr.index 9 (.string ⟨r.toArray⟩) (.int .i64 1)).run Tryz.prog w = .ok (.int .u8 63) w := hi1
  have HL1b : Hid (∀ w, Calls Tryz.prog 98 #[.int .u8 63] w fun e w' => e = .returned (.bool false) /\ w' = w) := HL1
  clear hi1 HL1
  have HS1 := hide (fun w (h : RdL w b s r) => skip_no s (by omega) b r ⟨#[60, 47, 62]⟩ h3 w h)
  have HS2 := hide (fun w (h : RdL w b s r) => skip_no s (by omega) b r ⟨#[60, 33, 45, 45]⟩ h4 w h)
  have hLK := like_any ⟨r.toArray⟩ ⟨#[60, 33, 100, 111, 99, 116, 121, 112, 101]⟩ (by omega)
  have HLK : Hid (∀ w, Calls Tryz.prog 101 #[.string ⟨r.toArray⟩, .string ⟨#[60, 33, 100, 111, 99, 116, 121, 112, 101]⟩] w fun e w' => e = .returned (.bool false) /\ Below w.heap.size w w') := by
    refine hide fun w => ?_
    rw [<- hk]
    exact hLK w
  clear hLK
  have HOD := hide (fun w (h : RdL w b s r) => odd_any s hs b h2 r hl3.2 w h)
  clear hR he hb hsz h1 hl3 h3 h4 hk
  generalize otherL (oddR r) = EE at *
  generalize (⟨r.toArray⟩ : ByteArray) = y at *
  go_enter Tryz.func69, Tryz.ntmps69
  go_wp2_with fail
  refine HRS.out.mono ?_
  rintro e w1 ⟨rfl, n1, rfl⟩
  have R1 := hide (R0.out.drewN n1)
  have KR1 := hide (KR0.out.drewN n1)
  have B1 := hide (B0.out.drewN n1)
  have E1 := hide (E0.out.drewN n1)
  clear R0 KR0 B0 E0 HRS
  go_wp2_with fail
  refine (HMK.out _).mono ?_
  rintro e w1 ⟨rfl, rfl⟩
  clear HMK
  go_wp2_with fail
  refine (HL1b.out _).mono ?_
  rintro e w1 ⟨rfl, rfl⟩
  go_wp2_with fail
  refine (HS1.out _ R1.out).mono ?_
  rintro e w2 ⟨rfl, h3, h4⟩
  have R2 := hide h3
  have KR2 := hide (Kept.but KR1.out h4 (by omega))
  have B2 := hide (B1.out.trans h4)
  have E2 := hide (E1.out.but h4 h2)
  clear h3 h4 KR1 B1 R1 E1
  go_wp2_with fail
  refine (HS2.out _ R2.out).mono ?_
  rintro e w3 ⟨rfl, h3, h4⟩
  have R3 := hide h3
  have KR3 := hide (Kept.but KR2.out h4 (by omega))
  have B3 := hide (B2.out.trans h4)
  have E3 := hide (E2.out.but h4 h2)
  clear h3 h4 KR2 B2 R2 E2
  go_wp2_with fail
  refine (HLK.out _).mono ?_
  rintro e w4 ⟨rfl, h4⟩
  have R4 := hide (R3.out.below h4)
  have KR4 := hide (Kept.below KR3.out h4)
  have B4 := hide (B3.out.trans (.of h4))
  have E4 := hide (E3.out.below h4)
  clear h4 KR3 B3 R3 E3
  go_wp2_with fail
  refine (HOD.out _ R4.out).mono ?_
  rintro e w5 ⟨h4, h3, sv, hA, hob, rfl⟩
  have hz2 := KR4.out.lt
  have R5 := hide h3
  have KR5 := hide (Kept.but KR4.out h4 (by omega))
  have B5 := hide (B4.out.trans h4)
  have HA := hide hA
  have HOB : Hid (∀ k, sv.ownBlock = some k -> w.heap.size < k) := hide fun k hk => Nat.lt_of_lt_of_le hz2 (hob k hk)
  obtain ⟨sa, sc, rfl⟩ := isA_form hA
  clear h3 h4 KR4 E4 B4 R4 hA hob HOD
  obtain ⟨q0, q1, q2, q3, q4, qf⟩ := KR5.out.tok
  unfold tokV
  generalize hn1 : (⟨EE.1.name.toArray⟩ : ByteArray) = n1 at *
  generalize hn2 : (⟨EE.1.text.toArray⟩ : ByteArray) = n2 at *
  have HN1 := hide hn1
  have HN2 := hide hn2
  clear hn1 hn2
  go_wp2
  refine bodyPost_ret (v := tokV EE.1 (.slice sa EE.1.attrs.length sc)) ?_ rfl ?_
  · rw [results_cell_one rfl]
    go_simp
    unfold tokV
    rw [HN1.out, HN2.out]
  · have := tokE_end2 EE.1 (.slice sa EE.1.attrs.length sc) B5.out R5.out hlt HA.out HOB.out
    unfold put5 at this
    rw [HN1.out, HN2.out] at this
    exact this
theorem data_p8_47_true (s : ByteArray) (hs : s.size <= 20000) (b : Nat) (h2 : 2 <= b) (r : List UInt8) (f : Bool) (hf : f = true) (hb : beginsB r = true) (h1 : r.getD 1 0 = 47) (hl : letterN (r.getD 2 0).toNat = false) (h3 : ([60, 47, 62] : List UInt8).isPrefixOf r = false) (h4 : ([60, 33, 45, 45] : List UInt8).isPrefixOf r = false) (hk : likeB doctypeF r = false) (hx : cdataM.isPrefixOf r = false) (w : World) (he : Env w) (hR : RdL w b s r) :
    Calls Tryz.prog 69 #[.pointer (some ⟨b, 0, none⟩), .bool f] w fun e w' => TokE w w' b s (otherL (oddR r)) e := by
  subst hf
  have hD := dataS_of he hR
  have hlt := hD.lt
  have KR0 := hide hD.kr
  have B0 := hide hD.bu
  have R0 := hide hD.rd
  have E0 := hide hD.en
  have hlen := hR.len
  have HRS := hide (rest_any s (by omega) b r _ hD.rd)
  have hMK := markup_any ⟨r.toArray⟩ (by rw [size_list, str_data]; omega)
  have HMK : Hid (∀ w, Calls Tryz.prog 96 #[.string ⟨r.toArray⟩] w fun e w' => e = .returned (.bool (beginsB r)) /\ w' = w) := hide hMK
  clear hMK hD
  have hl3 : 3 <= r.length /\ ([60] : List UInt8).isPrefixOf r = true := by
    obtain ⟨c, q, rfl, hc⟩ := begins_form r hb
    have : c = 47 := h1
    subst this
    rcases hc with h | h | h | ⟨_, h⟩
    · exact absurd h (by decide)
    · exact absurd h (by decide)
    · exact absurd h (by decide)
    · cases q with
      | nil => exact absurd rfl h
      | cons d q => exact ⟨by simp, by simp [List.isPrefixOf]⟩
  have hsz : (⟨r.toArray⟩ : ByteArray).size = r.length := by rw [size_list, str_data]
  have hi1 : ∀ w, (Instr.index 9 (.string ⟨r.toArray⟩) (.int .i64 1)).run Tryz.prog w = .ok (.int .u8 ((r.getD 1 0).toNat : Int)) w := fun w => by
    have h := run_index_at ⟨r.toArray⟩ 1 1 rfl (by omega) w
    rw [getD_at] at h
    exact h
  have HL1 := hide (letter_any (r.getD 1 0).toNat)
  have hi2 : ∀ w, (Instr.index 9 (.string ⟨r.toArray⟩) (.int .i64 2)).run Tryz.prog w = .ok (.int .u8 ((r.getD 2 0).toNat : Int)) w := fun w => by
    have h := run_index_at ⟨r.toArray⟩ 2 2 rfl (by omega) w
    rw [getD_at] at h
    exact h
  have HL2 := hide (letter_any (r.getD 2 0).toNat)
  rw [hl] at HL2
  rw [hb] at HMK
  rw [h1] at hi1 HL1
  rw [show letterN (47 : UInt8).toNat = false by decide] at HL1
  have hc1 : ∀ w, (Instr.index 9 (.string ⟨r.toArray⟩) (.int .i64 1)).run Tryz.prog w = .ok (.int .u8 47) w := hi1
  have HL1b : Hid (∀ w, Calls Tryz.prog 98 #[.int .u8 47] w fun e w' => e = .returned (.bool false) /\ w' = w) := HL1
  clear hi1 HL1
  have HS1 := hide (fun w (h : RdL w b s r) => skip_no s (by omega) b r ⟨#[60, 47, 62]⟩ h3 w h)
  have HS2 := hide (fun w (h : RdL w b s r) => skip_no s (by omega) b r ⟨#[60, 33, 45, 45]⟩ h4 w h)
  have hLK := like_any ⟨r.toArray⟩ ⟨#[60, 33, 100, 111, 99, 116, 121, 112, 101]⟩ (by omega)
  have HLK : Hid (∀ w, Calls Tryz.prog 101 #[.string ⟨r.toArray⟩, .string ⟨#[60, 33, 100, 111, 99, 116, 121, 112, 101]⟩] w fun e w' => e = .returned (.bool false) /\ Below w.heap.size w w') := by
    refine hide fun w => ?_
    rw [<- hk]
    exact hLK w
  clear hLK
  have HS3 := hide (fun w (h : RdL w b s r) => skip_no s (by omega) b r ⟨#[60, 33, 91, 67, 68, 65, 84, 65, 91]⟩ hx w h)
  have HOD := hide (fun w (h : RdL w b s r) => odd_any s hs b h2 r hl3.2 w h)
  clear hR he hb hsz h1 hl3 h3 h4 hk hx hl
  generalize otherL (oddR r) = EE at *
  generalize (r.getD 2 0).toNat = c2 at *
  generalize (⟨r.toArray⟩ : ByteArray) = y at *
  go_enter Tryz.func69, Tryz.ntmps69
  go_wp2_with fail
  refine HRS.out.mono ?_
  rintro e w1 ⟨rfl, n1, rfl⟩
  have R1 := hide (R0.out.drewN n1)
  have KR1 := hide (KR0.out.drewN n1)
  have B1 := hide (B0.out.drewN n1)
  have E1 := hide (E0.out.drewN n1)
  clear R0 KR0 B0 E0 HRS
  go_wp2_with fail
  refine (HMK.out _).mono ?_
  rintro e w1 ⟨rfl, rfl⟩
  clear HMK
  go_wp2_with fail
  refine (HL1b.out _).mono ?_
  rintro e w1 ⟨rfl, rfl⟩
  go_wp2_with fail
  refine (HL2.out _).mono ?_
  rintro e w1 ⟨rfl, rfl⟩
  go_wp2_with fail
  refine (HS1.out _ R1.out).mono ?_
  rintro e w2 ⟨rfl, h3, h4⟩
  have R2 := hide h3
  have KR2 := hide (Kept.but KR1.out h4 (by omega))
  have B2 := hide (B1.out.trans h4)
  have E2 := hide (E1.out.but h4 h2)
  clear h3 h4 KR1 B1 R1 E1
  go_wp2_with fail
  refine (HS2.out _ R2.out).mono ?_
  rintro e w3 ⟨rfl, h3, h4⟩
  have R3 := hide h3
  have KR3 := hide (Kept.but KR2.out h4 (by omega))
  have B3 := hide (B2.out.trans h4)
  have E3 := hide (E2.out.but h4 h2)
  clear h3 h4 KR2 B2 R2 E2
  go_wp2_with fail
  refine (HLK.out _).mono ?_
  rintro e w4 ⟨rfl, h4⟩
  have R4 := hide (R3.out.below h4)
  have KR4 := hide (Kept.below KR3.out h4)
  have B4 := hide (B3.out.trans (.of h4))
  have E4 := hide (E3.out.below h4)
  clear h4 KR3 B3 R3 E3
  go_wp2_with fail
  refine (HS3.out _ R4.out).mono ?_
  rintro e w5 ⟨rfl, h3, h4⟩
  have R5 := hide h3
  have KR5 := hide (Kept.but KR4.out h4 (by omega))
  have B5 := hide (B4.out.trans h4)
  have E5 := hide (E4.out.but h4 h2)
  clear h3 h4 KR4 B4 R4 E4
  go_wp2_with fail
  refine (HOD.out _ R5.out).mono ?_
  rintro e w6 ⟨h4, h3, sv, hA, hob, rfl⟩
  have hz2 := KR5.out.lt
  have R6 := hide h3
  have KR6 := hide (Kept.but KR5.out h4 (by omega))
  have B6 := hide (B5.out.trans h4)
  have HA := hide hA
  have HOB : Hid (∀ k, sv.ownBlock = some k -> w.heap.size < k) := hide fun k hk => Nat.lt_of_lt_of_le hz2 (hob k hk)
  obtain ⟨sa, sc, rfl⟩ := isA_form hA
  clear h3 h4 KR5 E5 B5 R5 hA hob HOD
  obtain ⟨q0, q1, q2, q3, q4, qf⟩ := KR6.out.tok
  unfold tokV
  generalize hn1 : (⟨EE.1.name.toArray⟩ : ByteArray) = n1 at *
  generalize hn2 : (⟨EE.1.text.toArray⟩ : ByteArray) = n2 at *
  have HN1 := hide hn1
  have HN2 := hide hn2
  clear hn1 hn2
  go_wp2
  refine bodyPost_ret (v := tokV EE.1 (.slice sa EE.1.attrs.length sc)) ?_ rfl ?_
  · rw [results_cell_one rfl]
    go_simp
    unfold tokV
    rw [HN1.out, HN2.out]
  · have := tokE_end2 EE.1 (.slice sa EE.1.attrs.length sc) B6.out R6.out hlt HA.out HOB.out
    unfold put5 at this
    rw [HN1.out, HN2.out] at this
    exact this
theorem data_p8_47_false (s : ByteArray) (hs : s.size <= 20000) (b : Nat) (h2 : 2 <= b) (r : List UInt8) (f : Bool) (hf : f = false) (hb : beginsB r = true) (h1 : r.getD 1 0 = 47) (hl : letterN (r.getD 2 0).toNat = false) (h3 : ([60, 47, 62] : List UInt8).isPrefixOf r = false) (h4 : ([60, 33, 45, 45] : List UInt8).isPrefixOf r = false) (hk : likeB doctypeF r = false) (w : World) (he : Env w) (hR : RdL w b s r) :
    Calls Tryz.prog 69 #[.pointer (some ⟨b, 0, none⟩), .bool f] w fun e w' => TokE w w' b s (otherL (oddR r)) e := by
  subst hf
  have hD := dataS_of he hR
  have hlt := hD.lt
  have KR0 := hide hD.kr
  have B0 := hide hD.bu
  have R0 := hide hD.rd
  have E0 := hide hD.en
  have hlen := hR.len
  have HRS := hide (rest_any s (by omega) b r _ hD.rd)
  have hMK := markup_any ⟨r.toArray⟩ (by rw [size_list, str_data]; omega)
  have HMK : Hid (∀ w, Calls Tryz.prog 96 #[.string ⟨r.toArray⟩] w fun e w' => e = .returned (.bool (beginsB r)) /\ w' = w) := hide hMK
  clear hMK hD
  have hl3 : 3 <= r.length /\ ([60] : List UInt8).isPrefixOf r = true := by
    obtain ⟨c, q, rfl, hc⟩ := begins_form r hb
    have : c = 47 := h1
    subst this
    rcases hc with h | h | h | ⟨_, h⟩
    · exact absurd h (by decide)
    · exact absurd h (by decide)
    · exact absurd h (by decide)
    · cases q with
      | nil => exact absurd rfl h
      | cons d q => exact ⟨by simp, by simp [List.isPrefixOf]⟩
  have hsz : (⟨r.toArray⟩ : ByteArray).size = r.length := by rw [size_list, str_data]
  have hi1 : ∀ w, (Instr.index 9 (.string ⟨r.toArray⟩) (.int .i64 1)).run Tryz.prog w = .ok (.int .u8 ((r.getD 1 0).toNat : Int)) w := fun w => by
    have h := run_index_at ⟨r.toArray⟩ 1 1 rfl (by omega) w
    rw [getD_at] at h
    exact h
  have HL1 := hide (letter_any (r.getD 1 0).toNat)
  have hi2 : ∀ w, (Instr.index 9 (.string ⟨r.toArray⟩) (.int .i64 2)).run Tryz.prog w = .ok (.int .u8 ((r.getD 2 0).toNat : Int)) w := fun w => by
    have h := run_index_at ⟨r.toArray⟩ 2 2 rfl (by omega) w
    rw [getD_at] at h
    exact h
  have HL2 := hide (letter_any (r.getD 2 0).toNat)
  rw [hl] at HL2
  rw [hb] at HMK
  rw [h1] at hi1 HL1
  rw [show letterN (47 : UInt8).toNat = false by decide] at HL1
  have hc1 : ∀ w, (Instr.index 9 (.string ⟨r.toArray⟩) (.int .i64 1)).run Tryz.prog w = .ok (.int .u8 47) w := hi1
  have HL1b : Hid (∀ w, Calls Tryz.prog 98 #[.int .u8 47] w fun e w' => e = .returned (.bool false) /\ w' = w) := HL1
  clear hi1 HL1
  have HS1 := hide (fun w (h : RdL w b s r) => skip_no s (by omega) b r ⟨#[60, 47, 62]⟩ h3 w h)
  have HS2 := hide (fun w (h : RdL w b s r) => skip_no s (by omega) b r ⟨#[60, 33, 45, 45]⟩ h4 w h)
  have hLK := like_any ⟨r.toArray⟩ ⟨#[60, 33, 100, 111, 99, 116, 121, 112, 101]⟩ (by omega)
  have HLK : Hid (∀ w, Calls Tryz.prog 101 #[.string ⟨r.toArray⟩, .string ⟨#[60, 33, 100, 111, 99, 116, 121, 112, 101]⟩] w fun e w' => e = .returned (.bool false) /\ Below w.heap.size w w') := by
    refine hide fun w => ?_
    rw [<- hk]
    exact hLK w
  clear hLK
  have HOD := hide (fun w (h : RdL w b s r) => odd_any s hs b h2 r hl3.2 w h)
  clear hR he hb hsz h1 hl3 h3 h4 hk hl
  generalize otherL (oddR r) = EE at *
  generalize (r.getD 2 0).toNat = c2 at *
  generalize (⟨r.toArray⟩ : ByteArray) = y at *
  go_enter Tryz.func69, Tryz.ntmps69
  go_wp2_with fail
  refine HRS.out.mono ?_
  rintro e w1 ⟨rfl, n1, rfl⟩
  have R1 := hide (R0.out.drewN n1)
  have KR1 := hide (KR0.out.drewN n1)
  have B1 := hide (B0.out.drewN n1)
  have E1 := hide (E0.out.drewN n1)
  clear R0 KR0 B0 E0 HRS
  go_wp2_with fail
  refine (HMK.out _).mono ?_
  rintro e w1 ⟨rfl, rfl⟩
  clear HMK
  go_wp2_with fail
  refine (HL1b.out _).mono ?_
  rintro e w1 ⟨rfl, rfl⟩
  go_wp2_with fail
  refine (HL2.out _).mono ?_
  rintro e w1 ⟨rfl, rfl⟩
  go_wp2_with fail
  refine (HS1.out _ R1.out).mono ?_
  rintro e w2 ⟨rfl, h3, h4⟩
  have R2 := hide h3
  have KR2 := hide (Kept.but KR1.out h4 (by omega))
  have B2 := hide (B1.out.trans h4)
  have E2 := hide (E1.out.but h4 h2)
  clear h3 h4 KR1 B1 R1 E1
  go_wp2_with fail
  refine (HS2.out _ R2.out).mono ?_
  rintro e w3 ⟨rfl, h3, h4⟩
  have R3 := hide h3
  have KR3 := hide (Kept.but KR2.out h4 (by omega))
  have B3 := hide (B2.out.trans h4)
  have E3 := hide (E2.out.but h4 h2)
  clear h3 h4 KR2 B2 R2 E2
  go_wp2_with fail
  refine (HLK.out _).mono ?_
  rintro e w4 ⟨rfl, h4⟩
  have R4 := hide (R3.out.below h4)
  have KR4 := hide (Kept.below KR3.out h4)
  have B4 := hide (B3.out.trans (.of h4))
  have E4 := hide (E3.out.below h4)
  clear h4 KR3 B3 R3 E3
  go_wp2_with fail
  refine (HOD.out _ R4.out).mono ?_
  rintro e w5 ⟨h4, h3, sv, hA, hob, rfl⟩
  have hz2 := KR4.out.lt
  have R5 := hide h3
  have KR5 := hide (Kept.but KR4.out h4 (by omega))
  have B5 := hide (B4.out.trans h4)
  have HA := hide hA
  have HOB : Hid (∀ k, sv.ownBlock = some k -> w.heap.size < k) := hide fun k hk => Nat.lt_of_lt_of_le hz2 (hob k hk)
  obtain ⟨sa, sc, rfl⟩ := isA_form hA
  clear h3 h4 KR4 E4 B4 R4 hA hob HOD
  obtain ⟨q0, q1, q2, q3, q4, qf⟩ := KR5.out.tok
  unfold tokV
  generalize hn1 : (⟨EE.1.name.toArray⟩ : ByteArray) = n1 at *
  generalize hn2 : (⟨EE.1.text.toArray⟩ : ByteArray) = n2 at *
  have HN1 := hide hn1
  have HN2 := hide hn2
  clear hn1 hn2
  go_wp2
  refine bodyPost_ret (v := tokV EE.1 (.slice sa EE.1.attrs.length sc)) ?_ rfl ?_
  · rw [results_cell_one rfl]
    go_simp
    unfold tokV
    rw [HN1.out, HN2.out]
  · have := tokE_end2 EE.1 (.slice sa EE.1.attrs.length sc) B5.out R5.out hlt HA.out HOB.out
    unfold put5 at this
    rw [HN1.out, HN2.out] at this
    exact this
end Go.Proofs.YtfohijnkeefcfaaGreatDoor.S4
namespace Go.Proofs.YtfohijnkeefcfaaGreatDoor.S4
open Go.RowKit
theorem data_pany (s : ByteArray) (hs : s.size <= 20000) (b : Nat) (h2 : 2 <= b) (r : List UInt8) (f : Bool) (w : World) (he : Env w) (hR : RdL w b s r) :
    Calls Tryz.prog 69 #[.pointer (some ⟨b, 0, none⟩), .bool f] w fun e w' => TokE w w' b s (dataP f r) e := by
  cases hb : beginsB r with
  | false =>
    have hP : dataP f r = ({ kind := 1, text := decL false (spanT r).1 }, (spanT r).2) := by unfold dataP; rw [if_pos hb]
    rw [hP]
    exact data_p1 s hs b h2 r f hb w he hR
  | true =>
    have hN : ¬ beginsB r = false := by rw [hb]; decide
    cases hl : letterN (r.getD 1 0).toNat with
    | true =>
      have hP : dataP f r = endedL (r.drop 1) false := by unfold dataP; rw [if_neg hN, if_pos hl]
      rw [hP]
      exact data_p2 s hs b h2 r f hb hl w he hR
    | false =>
      have hl' : ¬ letterN (r.getD 1 0).toNat = true := by rw [hl]; decide
      have hc : r.getD 1 0 = 33 \/ r.getD 1 0 = 63 \/ r.getD 1 0 = 47 := by
        obtain ⟨c, q, rfl, hc⟩ := begins_form r hb
        rcases hc with h | h | h | ⟨h, _⟩
        · rw [show letterN ((60 :: c :: q : List UInt8).getD 1 0).toNat = letterN c.toNat from rfl, h] at hl; cases hl
        · exact .inl h
        · exact .inr (.inl h)
        · exact .inr (.inr h)
      by_cases h47 : r.getD 1 0 = 47
      · cases hl2 : letterN (r.getD 2 0).toNat with
        | true =>
          have hP : dataP f r = endedL (r.drop 2) true := by unfold dataP; rw [if_neg hN, if_neg hl', if_pos (by rw [h47, hl2]; rfl)]
          rw [hP]
          exact data_p3 s hs b h2 r f hb h47 hl2 w he hR
        | false =>
          have hA : ¬ (r.getD 1 0 == 47 && letterN (r.getD 2 0).toNat) = true := by rw [hl2, Bool.and_false]; decide
          cases h3 : ([60, 47, 62] : List UInt8).isPrefixOf r with
          | true =>
            have hP : dataP f r = ({ kind := 0 }, r.drop 3) := by unfold dataP; rw [if_neg hN, if_neg hl', if_neg hA, if_pos h3]
            rw [hP]
            exact data_p4 s hs b h2 r f hb h47 hl2 h3 w he hR
          | false =>
            have hno : ([60, 33, 45, 45] : List UInt8).isPrefixOf r = false /\ likeB doctypeF r = false /\ cdataM.isPrefixOf r = false := by
              obtain ⟨c, q, rfl, _⟩ := begins_form r hb
              have : c = 47 := h47
              subst this
              exact ⟨pre_no 33 47 q _ (by decide), like_no 47 q (by decide), pre_no 33 47 q _ (by decide)⟩
            have hP : dataP f r = otherL (oddR r) := by unfold dataP; rw [if_neg hN, if_neg hl', if_neg hA, if_neg (by rw [h3]; decide), if_neg (by rw [hno.1]; decide), if_neg (by rw [hno.2.1]; decide), if_neg (by rw [hno.2.2, Bool.and_false]; decide)]
            rw [hP]
            cases f with
            | true => exact data_p8_47_true s hs b h2 r true rfl hb h47 hl2 h3 hno.1 hno.2.1 hno.2.2 w he hR
            | false => exact data_p8_47_false s hs b h2 r false rfl hb h47 hl2 h3 hno.1 hno.2.1 w he hR
      · have hA : ¬ (r.getD 1 0 == 47 && letterN (r.getD 2 0).toNat) = true := by
          rw [show (r.getD 1 0 == 47) = false from beq_eq_false_iff_ne.2 h47, Bool.false_and]; decide
        have h3 : ([60, 47, 62] : List UInt8).isPrefixOf r = false := by
          obtain ⟨c, q, rfl, _⟩ := begins_form r hb
          exact pre_no 47 c q _ (fun e => h47 e.symm)
        by_cases h33 : r.getD 1 0 = 33
        · cases h4 : ([60, 33, 45, 45] : List UInt8).isPrefixOf r with
          | true =>
            have hP : dataP f r = commentL (r.drop 4) := by unfold dataP; rw [if_neg hN, if_neg hl', if_neg hA, if_neg (by rw [h3]; decide), if_pos h4]
            rw [hP]
            exact data_p5 s hs b h2 r f hb h33 h3 h4 w he hR
          | false =>
            cases hk : likeB doctypeF r with
            | true =>
              have hP : dataP f r = ({ kind := 5 }, (findR [62] r).2.drop 1) := by unfold dataP; rw [if_neg hN, if_neg hl', if_neg hA, if_neg (by rw [h3]; decide), if_neg (by rw [h4]; decide), if_pos hk]
              rw [hP]
              exact data_p6 s hs b h2 r f hb h33 h3 h4 hk w he hR
            | false =>
              cases f with
              | true =>
                cases hx : cdataM.isPrefixOf r with
                | true =>
                  have hP : dataP true r = cdataT (r.drop 9) := by unfold dataP; rw [if_neg hN, if_neg hl', if_neg hA, if_neg (by rw [h3]; decide), if_neg (by rw [h4]; decide), if_neg (by rw [hk]; decide), if_pos (by rw [hx]; rfl)]
                  rw [hP]
                  exact data_p7 s hs b h2 r true rfl hb h33 h3 h4 hk hx w he hR
                | false =>
                  have hP : dataP true r = otherL (oddR r) := by unfold dataP; rw [if_neg hN, if_neg hl', if_neg hA, if_neg (by rw [h3]; decide), if_neg (by rw [h4]; decide), if_neg (by rw [hk]; decide), if_neg (by rw [hx]; decide)]
                  rw [hP]
                  exact data_p8_33_true s hs b h2 r true rfl hb h33 h3 h4 hk hx w he hR
              | false =>
                have hP : dataP false r = otherL (oddR r) := by unfold dataP; rw [if_neg hN, if_neg hl', if_neg hA, if_neg (by rw [h3]; decide), if_neg (by rw [h4]; decide), if_neg (by rw [hk]; decide), if_neg (by rw [Bool.false_and]; decide)]
                rw [hP]
                exact data_p8_33_false s hs b h2 r false rfl hb h33 h3 h4 hk w he hR
        · have h63 : r.getD 1 0 = 63 := by
            rcases hc with h | h | h
            · exact absurd h h33
            · exact h
            · exact absurd h h47
          have hno : ([60, 33, 45, 45] : List UInt8).isPrefixOf r = false /\ likeB doctypeF r = false /\ cdataM.isPrefixOf r = false := by
            obtain ⟨c, q, rfl, _⟩ := begins_form r hb
            have : c = 63 := h63
            subst this
            exact ⟨pre_no 33 63 q _ (by decide), like_no 63 q (by decide), pre_no 33 63 q _ (by decide)⟩
          have hP : dataP f r = otherL (oddR r) := by unfold dataP; rw [if_neg hN, if_neg hl', if_neg hA, if_neg (by rw [h3]; decide), if_neg (by rw [hno.1]; decide), if_neg (by rw [hno.2.1]; decide), if_neg (by rw [hno.2.2, Bool.and_false]; decide)]
          rw [hP]
          cases f with
          | true => exact data_p8_63_true s hs b h2 r true rfl hb h63 h3 hno.1 hno.2.1 hno.2.2 w he hR
          | false => exact data_p8_63_false s hs b h2 r false rfl hb h63 h3 hno.1 hno.2.1 w he hR
theorem next_p3 (s : ByteArray) (hs : s.size <= 20000) (b : Nat) (h2 : 2 <= b) (n r : List UInt8) (hr : r ≠ []) (f : Bool) (w : World) (he : Env w) (hR : RdL w b s r) :
    Calls Tryz.prog 47 #[.pointer (some ⟨b, 0, none⟩), .int .i64 3, .string ⟨(lowerL n).toArray⟩, .bool f] w fun e w' => TokE w w' b s (nextR 3 n f r) e := by
  have hE : nextR 3 n f r = ({ kind := 1, text := r }, []) := by unfold nextR; rw [if_neg hr, if_pos rfl]
  rw [hE]
  have hlt := hR.lt
  have KR0 := hide (Kept.new w tok0 79)
  have B0 := hide ((But.refl b w).alloc (.cells tok0.toArray 79))
  obtain ⟨p, hp, hd, hPw⟩ := hR
  have HP := hide (hPw.below (below_alloc w (.cells tok0.toArray 79)))
  have c0 := hPw.c0
  have HT := hide (take_to s (by omega) b p s.size (Nat.le_refl _) hp _ HP.out)
  have hrs := rest_is s p hp
  rw [hd] at hrs
  have HRS := hide hrs
  have HNIL := hide (drop_end s s.size (Nat.le_refl _))
  have HTT := hide textToken_any
  clear hd hPw hrs he hE
  generalize (⟨(lowerL n).toArray⟩ : ByteArray) = nl at *
  go_enter Tryz.func47, Tryz.ntmps47
  go_wp2_with fail
  refine HT.out.mono ?_
  rintro e w1 ⟨rfl, h3, h4⟩
  have R1 : Hid (RdL w1 b s []) := hide ⟨s.size, Nat.le_refl _, HNIL.out, h3⟩
  have KR1 := hide (Kept.but KR0.out h4 (by omega))
  have B1 := hide (B0.out.trans h4)
  clear h3 h4 KR0 B0 HP HT c0
  rw [HRS.out]
  generalize hxx : (⟨r.toArray⟩ : ByteArray) = x at *
  have HX := hide hxx
  clear hxx HRS
  go_wp2_with fail
  refine (HTT.out x _).mono ?_
  rintro e w2 ⟨rfl, h4⟩
  have R2 := hide (R1.out.below h4)
  have KR2 := hide (Kept.below KR1.out h4)
  have B2 := hide (B1.out.trans (.of h4))
  clear h4 R1 KR1 B1
  obtain ⟨q0, q1, q2, q3, q4, qf⟩ := KR2.out.tok
  go_wp2
  refine bodyPost_ret (v := tokV { kind := 1, text := r } (.slice none 0 0)) ?_ rfl ?_
  · rw [results_cell_one rfl]
    go_simp
    rw [<- HX.out]
    rfl
  · rw [<- HX.out]
    exact tokE_end { kind := 1, text := r } B2.out R2.out hlt rfl
theorem rawL_next2 (n r : List UInt8) (f : Bool) (hr : r ≠ []) : nextR 2 n f r = rawL n r := by
  unfold nextR rawL
  rw [if_neg hr, if_neg (by decide), if_neg (by decide)]
  rfl
theorem rawL_next1 (n r : List UInt8) (f : Bool) (hr : r ≠ []) : nextR 1 n f r = ({ (rawL n r).1 with text := decL false (rawL n r).1.text }, (rawL n r).2) := by
  unfold nextR rawL
  rw [if_neg hr, if_neg (by decide), if_neg (by decide)]
  by_cases h : stopB n r = true
  · rw [if_pos h, if_pos h]
    unfold endedL
    cases tagL (r.drop 2) with
    | none => rfl
    | some x => rfl
  · rw [if_neg h, if_neg h]
    rfl
theorem rawL_attrs (n r : List UInt8) : (rawL n r).1.attrs = [] /\ ((rawL n r).1.text.length <= r.length) := by
  unfold rawL
  split
  · unfold endedL
    cases tagL (r.drop 2) with
    | none => exact ⟨rfl, by simp⟩
    | some x => exact ⟨rfl, by simp⟩
  · refine ⟨rfl, ?_⟩
    have := congrArg List.length (spanS_app n r)
    rw [List.length_append] at this
    simp only
    omega
theorem next_p2 (s : ByteArray) (hs : s.size <= 20000) (b : Nat) (h2 : 2 <= b) (n r : List UInt8) (hn : n.length <= 20000) (hr : r ≠ []) (f : Bool) (w : World) (he : Env w) (hR : RdL w b s r) :
    Calls Tryz.prog 47 #[.pointer (some ⟨b, 0, none⟩), .int .i64 2, .string ⟨(lowerL n).toArray⟩, .bool f] w fun e w' => TokE w w' b s (nextR 2 n f r) e := by
  rw [rawL_next2 n r f hr]
  have hlt := hR.lt
  have KR1 := hide (Kept.new w tok0 79)
  have B1 := hide ((But.refl b w).alloc (.cells tok0.toArray 79))
  have HRW := hide (raw_any s hs b h2 n r hn hr _ (he.alloc (.cells tok0.toArray 79)) (hR.below (below_alloc w (.cells tok0.toArray 79))))
  clear hR he
  generalize rawL n r = EE at *
  generalize (⟨(lowerL n).toArray⟩ : ByteArray) = nl at *
  go_enter Tryz.func47, Tryz.ntmps47
  go_wp2_with fail
  refine HRW.out.mono ?_
  rintro e w2 ⟨h4, h3, sv, hA, hob, rfl⟩
  have hz2 := KR1.out.lt
  have R2 := hide h3
  have KR2 := hide (Kept.but KR1.out h4 (by omega))
  have B2 := hide (B1.out.trans h4)
  have HA := hide hA
  have HOB : Hid (∀ k, sv.ownBlock = some k -> w.heap.size < k) := hide fun k hk => Nat.lt_of_lt_of_le hz2 (hob k hk)
  obtain ⟨sa, sc, rfl⟩ := isA_form hA
  clear h3 h4 KR1 B1 hA hob HRW
  obtain ⟨q0, q1, q2, q3, q4, qf⟩ := KR2.out.tok
  unfold tokV
  generalize hn1 : (⟨EE.1.name.toArray⟩ : ByteArray) = n1 at *
  generalize hn2 : (⟨EE.1.text.toArray⟩ : ByteArray) = n2 at *
  have HN1 := hide hn1
  have HN2 := hide hn2
  clear hn1 hn2
  go_wp2
  refine bodyPost_ret (v := tokV EE.1 (.slice sa EE.1.attrs.length sc)) ?_ rfl ?_
  · rw [results_cell_one rfl]
    go_simp
    unfold tokV
    rw [HN1.out, HN2.out]
  · have := tokE_end2 EE.1 (.slice sa EE.1.attrs.length sc) B2.out R2.out hlt HA.out HOB.out
    unfold put5 at this
    rw [HN1.out, HN2.out] at this
    exact this
end Go.Proofs.YtfohijnkeefcfaaGreatDoor.S4
namespace Go.Proofs.YtfohijnkeefcfaaGreatDoor.S4
open Go.RowKit
theorem next_p1 (s : ByteArray) (hs : s.size <= 20000) (b : Nat) (h2 : 2 <= b) (n r : List UInt8) (hn : n.length <= 20000) (hr : r ≠ []) (f : Bool) (w : World) (he : Env w) (hR : RdL w b s r) :
    Calls Tryz.prog 47 #[.pointer (some ⟨b, 0, none⟩), .int .i64 1, .string ⟨(lowerL n).toArray⟩, .bool f] w fun e w' => TokE w w' b s (nextR 1 n f r) e := by
  rw [rawL_next1 n r f hr]
  have hlt := hR.lt
  have hlen := hR.len
  have KR1 := hide (Kept.new w tok0 79)
  have B1 := hide ((But.refl b w).alloc (.cells tok0.toArray 79))
  have E1 := hide (he.alloc (.cells tok0.toArray 79))
  have HRW := hide (raw_any s hs b h2 n r hn hr _ (he.alloc (.cells tok0.toArray 79)) (hR.below (below_alloc w (.cells tok0.toArray 79))))
  have hat := rawL_attrs n r
  clear hR he
  generalize rawL n r = EE at *
  obtain ⟨⟨kd, nm, aa, cl, tx⟩, V⟩ := EE
  obtain ⟨hat1, hat2⟩ := hat
  simp only at hat1 hat2
  subst hat1
  have hD := fun w ho => decode_any ⟨tx.toArray⟩ (by rw [size_list, str_data]; omega) false w ho
  rw [str_data] at hD
  have HD := hide hD
  clear hD hat2
  simp only
  generalize decL false tx = D at *
  generalize (⟨(lowerL n).toArray⟩ : ByteArray) = nl at *
  go_enter Tryz.func47, Tryz.ntmps47
  go_wp2_with fail
  refine HRW.out.mono ?_
  rintro e w2 ⟨h4, h3, sv, hA, hob, rfl⟩
  obtain ⟨sa, sc, rfl⟩ := isA_form hA
  have hz2 := KR1.out.lt
  have hKR := Kept.but KR1.out h4 (by omega)
  have hz3 := hKR.lt
  have bA := below_alloc w2 (.cells #[.int .i64 (kd : Int), .string ⟨nm.toArray⟩, .slice sa ([] : AttrL).length sc, .bool cl, .string ⟨tx.toArray⟩] 79)
  have R2 := hide (RdL.below h3 bA)
  have KR2 := hide (hKR.below bA)
  have KG2 := hide (Kept.new w2 [.int .i64 (kd : Int), .string ⟨nm.toArray⟩, .slice sa ([] : AttrL).length sc, .bool cl, .string ⟨tx.toArray⟩] 79)
  have B2 := hide ((B1.out.trans h4).trans (.of bA))
  have E2 := hide ((E1.out.but h4 h2).below bA)
  have HA := hide (IsA.below hA bA)
  have HOB : Hid (∀ k, (Value.slice sa ([] : AttrL).length sc).ownBlock = some k -> w.heap.size < k) := hide fun k hk => Nat.lt_of_lt_of_le hz2 (hob k hk)
  clear h3 h4 KR1 B1 hA hob HRW hKR bA E1
  unfold tokV
  simp only
  generalize hn1 : (⟨nm.toArray⟩ : ByteArray) = n1 at *
  generalize hn2 : (⟨tx.toArray⟩ : ByteArray) = n2 at *
  have HN1 := hide hn1
  clear hn1 hn2
  go_wp2_with fail
  refine (HD.out _ E2.out.1).mono ?_
  rintro e w3 ⟨rfl, h4⟩
  have R3 := hide (R2.out.below h4)
  have KR3 := hide (Kept.below KR2.out h4)
  have KG3 := hide (Kept.below KG2.out h4)
  have B3 := hide (B2.out.trans (.of h4))
  have HA3 := hide (HA.out.below h4)
  clear h4 KR2 KG2 B2 E2 R2 HA HD
  generalize hn3 : (⟨D.toArray⟩ : ByteArray) = n3 at *
  have HN3 := hide hn3
  clear hn3
  generalize w2.heap.size = G at *
  obtain ⟨q0, q1, q2, q3, q4, qf⟩ := KR3.out.tok
  have g0 : w3.cell? ⟨G, 0, none⟩ = some (.int .i64 (kd : Int)) := KG3.out.1 0
  have g1 : w3.cell? ⟨G, 1, none⟩ = some (.string n1) := KG3.out.1 1
  have g2 : w3.cell? ⟨G, 2, none⟩ = some (.slice sa 0 sc) := KG3.out.1 2
  have g3 : w3.cell? ⟨G, 3, none⟩ = some (.bool cl) := KG3.out.1 3
  have g4 : w3.cell? ⟨G, 4, none⟩ = some (.string n2) := KG3.out.1 4
  have gf : ∀ o, w3.frozen? ⟨G, o, none⟩ = false := KG3.out.2
  have hGR : w.heap.size ≠ G := Nat.ne_of_lt hz3
  go_wp2
  refine bodyPost_ret (v := tokV { kind := kd, name := nm, closed := cl, text := D } (.slice sa 0 sc)) ?_ rfl ?_
  · rw [results_cell_one rfl]
    go_simp
    unfold tokV
    rw [HN1.out, HN3.out]
  · have := tokE_end2 (V := V) { kind := kd, name := nm, closed := cl, text := D } (.slice sa 0 sc) (B3.out.setNew ⟨G, 4, none⟩ (by simp only; omega) (.string n3)) (R3.out.other ⟨G, 4, none⟩ (by simp only; omega) (.string n3)) hlt (isA_nil _ HA3.out) HOB.out
    unfold put5 at this
    rw [HN1.out, HN3.out] at this
    exact this
theorem next_pd (s : ByteArray) (hs : s.size <= 20000) (b : Nat) (h2 : 2 <= b) (r : List UInt8) (nl : ByteArray) (mode : Int) (hm3 : mode ≠ 3) (hm2 : mode ≠ 2) (hm1 : mode ≠ 1) (f : Bool) (w : World) (he : Env w) (hR : RdL w b s r) :
    Calls Tryz.prog 47 #[.pointer (some ⟨b, 0, none⟩), .int .i64 mode, .string nl, .bool f] w fun e w' => TokE w w' b s (dataL f r) e := by
  have hlt := hR.lt
  have KR1 := hide (Kept.new w tok0 79)
  have B1 := hide ((But.refl b w).alloc (.cells tok0.toArray 79))
  have E1 := hide (he.alloc (.cells tok0.toArray 79))
  have R1 := hide (hR.below (below_alloc w (.cells tok0.toArray 79)))
  have e3 : (mode == 3) = false := beq_eq_false_iff_ne.2 hm3
  have e2 : (mode == 2) = false := beq_eq_false_iff_ne.2 hm2
  have e1 : (mode == 1) = false := beq_eq_false_iff_ne.2 hm1
  clear hR he hm3 hm2 hm1
  generalize hRR : dataL f r = RR at *
  have HRR := hide hRR
  clear hRR
  go_enter Tryz.func47, Tryz.ntmps47
  go_wp2
  go_loopg [] r.length (fun g wr => ∃ r' : List UInt8, g = r'.length /\ RdL wr b s r' /\ But b w wr /\ Kept wr w.heap.size tok0 /\ Env wr /\ Hid (dataL f r' = RR))
  case atStart => exact ⟨r, rfl, R1.out, B1.out, KR1.out, E1.out, HRR⟩
  case round =>
    obtain ⟨r', rfl, hRr, hBr, hKr, hEr, HRr⟩ := hrel
    have HDN := hide (done_any s (by omega) b r' wr hRr)
    have Rr := hide hRr
    have Br := hide hBr
    have Kr := hide hKr
    have Er := hide hEr
    clear hRr hBr hKr hEr KR1 B1 E1 R1
    by_cases hr0 : r' = []
    · subst hr0
      have HE : Hid (RR = ({ kind := 0 }, [])) := hide (by rw [<- HRr.out]; rfl)
      clear HRr
      go_wp2_with fail
      refine HDN.out.mono ?_
      rintro e w2 ⟨rfl, n, rfl⟩
      have R2 := hide (Rr.out.drewN n)
      have KR2 := hide (Kr.out.drewN n)
      have B2 := hide (Br.out.drewN n)
      clear Rr Br Kr Er
      obtain ⟨q0, q1, q2, q3, q4, qf⟩ := KR2.out.tok
      go_wp2
      refine bodyPost_ret (v := tokV { kind := 0 } (.slice none 0 0)) ?_ rfl ?_
      · rw [results_cell_one rfl]
        go_simp
        rfl
      · rw [HE.out]
        exact tokE_end { kind := 0 } B2.out R2.out hlt rfl
    · have hem : r'.isEmpty = false := by
        cases r' with
        | nil => exact absurd rfl hr0
        | cons c q => rfl
      rw [hem] at HDN
      have hstep := dataL_P f r' hr0
      have hsh := dataP_short f r' hr0
      rw [HRr.out] at hstep
      have HST := hide hstep
      have HDT := hide (fun w he (h : RdL w b s r') => data_pany s hs b h2 r' f w he h)
      clear hstep HRr hem hr0
      generalize dataP f r' = EE at *
      go_wp2_with fail
      refine HDN.out.mono ?_
      rintro e w2 ⟨rfl, n, rfl⟩
      have R2 := hide (Rr.out.drewN n)
      have KR2 := hide (Kr.out.drewN n)
      have B2 := hide (Br.out.drewN n)
      have E2 := hide (Er.out.drewN n)
      clear Rr Br Kr Er
      go_wp2_with fail
      refine (HDT.out _ E2.out R2.out).mono ?_
      rintro e w3 ⟨h4, h3, sv, hA, hob, rfl⟩
      obtain ⟨sa, sc, rfl⟩ := isA_form hA
      have hz2 := KR2.out.lt
      have hKR := Kept.but KR2.out h4 (by omega)
      have hz3 := hKR.lt
      unfold tokV
      generalize hn1 : (⟨EE.1.name.toArray⟩ : ByteArray) = n1 at *
      generalize hn2 : (⟨EE.1.text.toArray⟩ : ByteArray) = n2 at *
      have HN1 := hide hn1
      have HN2 := hide hn2
      clear hn1 hn2
      have bA := below_alloc w3 (.cells #[.int .i64 (EE.1.kind : Int), .string n1, .slice sa EE.1.attrs.length sc, .bool EE.1.closed, .string n2] 79)
      by_cases hk : EE.1.kind = 0
      · have hk0 : ((EE.1.kind : Int) == 0) = true := by rw [hk]; rfl
        have HR2 : Hid (dataL f EE.2 = RR) := hide (by rw [HST.out, if_pos hk])
        have R3 := hide (RdL.below h3 bA)
        have KR3 := hide (hKR.below bA)
        have B3 := hide ((B2.out.trans h4).trans (.of bA))
        have E3 := hide ((E2.out.but h4 h2).below bA)
        clear h3 h4 hA hob hKR bA KR2 B2 E2 R2 HST hk
        generalize EE.1.kind = kd at *
        go_wp2
        go_roundg EE.2.length
        case rel => exact ⟨EE.2, rfl, R3.out, B3.out, KR3.out, E3.out, HR2⟩
        case measure => omega
      · have hk0 : ((EE.1.kind : Int) == 0) = false := ne_lit _ 0 (by omega)
        have HR2 : Hid (RR = EE) := hide (by rw [HST.out, if_neg hk])
        have R3 := hide h3
        have KR3 := hide hKR
        have B3 := hide (B2.out.trans h4)
        have HA := hide hA
        have HOB : Hid (∀ k, (Value.slice sa EE.1.attrs.length sc).ownBlock = some k -> w.heap.size < k) := hide fun k hk => Nat.lt_of_lt_of_le hz2 (hob k hk)
        obtain ⟨q0, q1, q2, q3, q4, qf⟩ := hKR.tok
        clear h3 h4 hA hob hKR bA KR2 B2 E2 R2 HST hk
        go_wp2
        refine bodyPost_ret (v := tokV EE.1 (.slice sa EE.1.attrs.length sc)) ?_ rfl ?_
        · rw [results_cell_one rfl]
          go_simp
          unfold tokV
          rw [HN1.out, HN2.out]
        · have := (tokE_end2 EE.1 (.slice sa EE.1.attrs.length sc) B3.out R3.out hlt HA.out HOB.out).alloc (.cells #[.int .i64 (EE.1.kind : Int), .string n1, .slice sa EE.1.attrs.length sc, .bool EE.1.closed, .string n2] 79)
          unfold put5 at this
          rw [HN1.out, HN2.out] at this
          rw [HR2.out]
          exact this
theorem next_rany (s : ByteArray) (hs : s.size <= 20000) (b : Nat) (h2 : 2 <= b) (n r : List UInt8) (hn : n.length <= 20000) (hr : r ≠ []) (mode : Int) (f : Bool) (w : World) (he : Env w) (hR : RdL w b s r) :
    Calls Tryz.prog 47 #[.pointer (some ⟨b, 0, none⟩), .int .i64 mode, .string ⟨(lowerL n).toArray⟩, .bool f] w fun e w' => TokE w w' b s (nextR mode n f r) e := by
  by_cases h3 : mode = 3
  · subst h3; exact next_p3 s hs b h2 n r hr f w he hR
  · by_cases hm2 : mode = 2
    · subst hm2; exact next_p2 s hs b h2 n r hn hr f w he hR
    · by_cases hm1 : mode = 1
      · subst hm1; exact next_p1 s hs b h2 n r hn hr f w he hR
      · have hE : nextR mode n f r = dataL f r := by
          unfold nextR
          rw [if_neg hr, if_neg h3, if_pos ⟨hm2, hm1⟩]
        rw [hE]
        exact next_pd s hs b h2 r _ mode h3 hm2 hm1 f w he hR
end Go.Proofs.YtfohijnkeefcfaaGreatDoor.S4
namespace Go.Proofs.YtfohijnkeefcfaaGreatDoor.S4
open Go.RowKit
theorem pnext_out (s n : ByteArray) (z mode : Int) (f : Bool) (hz : z < 0 \/ (s.size : Int) <= z) (w : World) :
    Calls Tryz.prog 30 #[.string s, .int .i64 z, .int .i64 mode, .string n, .bool f] w fun e w' => TokAt w w' e s ({ kind := 0 }, []) /\ Below w.heap.size w w' := by
  by_cases h0 : z < 0
  · clear hz
    go_enter Tryz.func30, Tryz.ntmps30
    go_wp2
    refine bodyPost_ret (v := .tuple #[tokV { kind := 0 } (.slice none 0 0), .int .i64 (s.size : Int)]) ?_ rfl ⟨⟨.slice none 0 0, .inl ⟨rfl, rfl⟩, (fun k hk => by cases hk), rfl⟩, below_alloc w _⟩
    rw [results_cell_tmp rfl]
    go_simp
    rfl
  · have h1 : (s.size : Int) <= z := hz.resolve_left h0
    clear hz
    go_enter Tryz.func30, Tryz.ntmps30
    go_wp2
    refine bodyPost_ret (v := .tuple #[tokV { kind := 0 } (.slice none 0 0), .int .i64 (s.size : Int)]) ?_ rfl ⟨⟨.slice none 0 0, .inl ⟨rfl, rfl⟩, (fun k hk => by cases hk), rfl⟩, below_alloc w _⟩
    rw [results_cell_tmp rfl]
    go_simp
    rfl
theorem IsA.drew {w : World} {v : Value} {aa : AttrL} (h : IsA w v aa) : IsA w.drew v aa := by
  unfold IsA at *
  exact h
theorem pnext_in (s n : ByteArray) (hs : s.size <= 20000) (hn : n.size <= 20000) (p : Nat) (hp : p < s.size) (mode : Int) (f : Bool) (w : World) (he : Env w) :
    Calls Tryz.prog 30 #[.string s, .int .i64 (p : Int), .int .i64 mode, .string n, .bool f] w fun e w' => TokAt w w' e s (nextR mode n.data.toList f (s.data.toList.drop p)) /\ Below w.heap.size w w' := by
  have hp0 : ¬ (p : Int) < 0 := by omega
  have hp1 : ¬ (s.size : Int) <= p := by omega
  have h2 : 2 <= w.heap.size + 1 := by have := he.two; omega
  have KR0 := hide ((Kept.new w tok0 79).alloc (.cells #[.string s, .int .i64 (p : Int)] 109))
  have E0 := hide ((he.alloc (.cells tok0.toArray 79)).alloc (.cells #[.string s, .int .i64 (p : Int)] 109))
  have hKB := Kept.new (w.alloc (.cells tok0.toArray 79)) [.string s, .int .i64 (p : Int)] 109
  rw [show (w.alloc (.cells tok0.toArray 79)).heap.size = w.heap.size + 1 by simp] at hKB
  have R0 : Hid (RdL ((w.alloc (.cells tok0.toArray 79)).alloc (.cells #[.string s, .int .i64 (p : Int)] 109)) (w.heap.size + 1) s (s.data.toList.drop p)) := hide ⟨p, by omega, rfl, hKB.1 0, hKB.1 1, hKB.2⟩
  have B0 : Hid (Below w.heap.size w ((w.alloc (.cells tok0.toArray 79)).alloc (.cells #[.string s, .int .i64 (p : Int)] 109))) := hide ((below_alloc w _).alloc (by simp) _)
  have HL := hide (plower_any n (by omega))
  have hne : s.data.toList.drop p ≠ [] := by rw [drop_cons s p hp]; simp
  have HNX := hide (fun W (hE : Env W) (h : RdL W (w.heap.size + 1) s (s.data.toList.drop p)) => next_rany s hs (w.heap.size + 1) h2 n.data.toList (s.data.toList.drop p) (by rw [<- size_list]; exact hn) hne mode f W hE h)
  clear hKB he hne
  generalize nextR mode n.data.toList f (s.data.toList.drop p) = EE at *
  generalize (⟨(lowerL n.data.toList).toArray⟩ : ByteArray) = nl at *
  generalize s.data.toList.drop p = r at *
  go_enter Tryz.func30, Tryz.ntmps30
  go_wp2_with fail
  refine (HL.out _).mono ?_
  rintro e w1 ⟨rfl, h4⟩
  have R1 := hide (R0.out.below h4)
  have KR1 := hide (Kept.below KR0.out h4)
  have E1 := hide (E0.out.below h4)
  have B1 := hide (B0.out.trans (h4.mono B0.out.size))
  clear h4 R0 KR0 E0 B0 HL
  go_wp2_with fail
  refine (HNX.out _ E1.out R1.out).mono ?_
  rintro e w2 ⟨h4, h3, sv, hA, hob, rfl⟩
  obtain ⟨sa, sc, rfl⟩ := isA_form hA
  have hz1 := R1.out.lt
  have hKR := Kept.but KR1.out h4 (by omega)
  have hz2 := hKR.lt
  have hB2 := B1.out.trans (h4.below (n := w.heap.size) (by omega) (by omega))
  unfold tokV
  generalize hn1 : (⟨EE.1.name.toArray⟩ : ByteArray) = n1 at *
  generalize hn2 : (⟨EE.1.text.toArray⟩ : ByteArray) = n2 at *
  have HN1 := hide hn1
  have HN2 := hide hn2
  clear hn1 hn2
  have hz3 := RdL.lt h3
  obtain ⟨q, hq, hqd, hQ⟩ := h3
  have hqv : q = s.size - EE.2.length := by
    have := congrArg List.length hqd
    rw [List.length_drop, <- size_list] at this
    omega
  have HQV := hide hqv
  have c1 := hQ.c1
  have HA := hide hA
  have HB2 := hide hB2
  have HOB : Hid (∀ k, (Value.slice sa EE.1.attrs.length sc).ownBlock = some k -> w.heap.size < k) := hide fun k hk => Nat.lt_of_lt_of_le (Nat.lt_of_lt_of_le (Nat.lt_succ_self _) (Nat.le_of_lt hz1)) (hob k hk)
  obtain ⟨q0, q1, q2, q3, q4, qf⟩ := hKR.tok
  clear h4 hA hob hKR hB2 hqd hQ hqv KR1 R1 E1 B1 HNX
  go_wp2
  go_region
  all_goals go_wp2
  all_goals
    refine bodyPost_ret (v := .tuple #[tokV EE.1 (.slice sa EE.1.attrs.length sc), .int .i64 (q : Int)]) ?_ rfl ⟨⟨.slice sa EE.1.attrs.length sc, ?_, ?_, ?_⟩, ?_⟩
    · rw [results_cell_tmp rfl]
      go_simp
      unfold tokV
      rw [HN1.out, HN2.out]
    · have := (IsA.put5 HA.out w.heap.size (fun k hk => by have := HOB.out k hk; omega) (EE.1, .slice sa EE.1.attrs.length sc)).alloc (.cells #[.int .i64 (EE.1.kind : Int), .string n1, .slice sa EE.1.attrs.length sc, .bool EE.1.closed, .string n2] 79)
      unfold put5 at this
      rw [HN1.out, HN2.out] at this
      exact this.drew
    · exact fun k hk => Nat.le_of_lt (HOB.out k hk)
    · rw [<- HQV.out]
    · have := below_set5b HB2.out (.int .i64 (EE.1.kind : Int)) (.string n1) (.slice sa EE.1.attrs.length sc) (.bool EE.1.closed) (.string n2)
      exact (this.alloc this.size _).drew
theorem pnext_any (s n : ByteArray) (hs : s.size <= 20000) (hn : n.size <= 20000) (z mode : Int) (f : Bool) (w : World) (he : Env w) :
    Calls Tryz.prog 30 #[.string s, .int .i64 z, .int .i64 mode, .string n, .bool f] w fun e w' => TokAt w w' e s (nextZ mode n.data.toList f s.data.toList z) /\ Below w.heap.size w w' := by
  have hl := size_list s
  by_cases hz : z < 0 \/ (s.size : Int) <= z
  · rw [nextZ_out _ _ _ _ _ (by omega)]
    exact pnext_out s n z mode f hz w
  · obtain ⟨p, rfl⟩ : ∃ p : Nat, z = (p : Int) := ⟨z.toNat, by omega⟩
    rw [nextZ_in _ _ _ _ _ (by omega)]
    exact pnext_in s n hs hn p (by omega) mode f w he
end Go.Proofs.YtfohijnkeefcfaaGreatDoor.S4
