import Derived.Test.YtpppdfjdngmaoaaGreatDoorKc40
set_option linter.unusedVariables false
set_option linter.unusedSimpArgs false
set_option maxRecDepth 100000
set_option maxHeartbeats 8000000
namespace Go.Proofs.YtpppdfjdngmaoaaGreatDoor.S4
open Go.RowKit
theorem getD_at (r : List UInt8) (i : Nat) (h : i < (⟨r.toArray⟩ : ByteArray).size) : (⟨r.toArray⟩ : ByteArray)[i] = r.getD i 0 := by
  have h2 : i < r.length := by rw [size_list, str_data] at h; exact h
  rw [List.getD_eq_getElem?_getD, List.getElem?_eq_getElem h2]
  rfl
structure DataS (w : World) (b : Nat) (s : ByteArray) (r : List UInt8) : Prop where
  lt : b < w.heap.size
  kr : Kept (w.alloc (.cells tok0.toArray 84)) w.heap.size tok0
  bu : But b w (w.alloc (.cells tok0.toArray 84))
  rd : RdL (w.alloc (.cells tok0.toArray 84)) b s r
  en : Env (w.alloc (.cells tok0.toArray 84))
theorem dataS_of {w : World} {b : Nat} {s : ByteArray} {r : List UInt8} (he : Env w) (hR : RdL w b s r) : DataS w b s r :=
  ⟨hR.lt, Kept.new w tok0 _, (But.refl b w).alloc _, hR.below (below_alloc w _), he.alloc _⟩
theorem data_p1 (s : ByteArray) (hs : s.size ≤ 20000) (b : Nat) (h2 : 2 ≤ b) (r : List UInt8) (f : Bool) (hb : beginsB r = false) (w : World) (he : Env w) (hR : RdL w b s r) :
    Calls Tryz.prog 77 #[.pointer (some ⟨b, 0, none⟩), .bool f] w fun e w' => TokE w w' b s (({ kind := 1, text := decL false (spanT r).1 }, (spanT r).2)) e := by
  have hD := dataS_of he hR
  have hlt := hD.lt
  have KR0 := hide hD.kr
  have B0 := hide hD.bu
  have R0 := hide hD.rd
  have E0 := hide hD.en
  have hlen := hR.len
  have HRS := hide (rest_any s (by omega) b r _ hD.rd)
  have hMK := markup_any ⟨r.toArray⟩ (by rw [size_list, str_data]; omega)
  have HMK : Hid (∀ w, Calls Tryz.prog 104 #[.string ⟨r.toArray⟩] w fun e w' => e = .returned (.bool (beginsB r)) ∧ w' = w) := hide hMK
  clear hMK hD
  rw [hb] at HMK
  have HPT := hide (fun w he (h : RdL w b s r) => plainText_any s hs b h2 r w he h)
  clear hR he hb
  generalize hED : (({ kind := 1, text := decL false (spanT r).1 }, (spanT r).2) : Tok × List UInt8) = EE at *
  clear hED
  generalize (⟨r.toArray⟩ : ByteArray) = y at *
  go_enter Tryz.func77, Tryz.ntmps77
  go_wp2_with fail
  refine HRS.out.mono ?_
  rintro e w1 ⟨rfl, n1, rfl⟩
  have R1 := hide (R0.out.drewN n1)
  have KR1 := hide (KR0.out.drewN n1)
  have B1 := hide (B0.out.drewN n1)
  have E1 := hide (E0.out.drewN n1)
  clear R0 KR0 B0 E0 HRS
  go_wp2_with fail
  refine (HMK.out _).mono ?_
  rintro e w1 ⟨rfl, rfl⟩
  clear HMK
  go_wp2_with fail
  refine (HPT.out _ E1.out R1.out).mono ?_
  rintro e w2 ⟨h4, h3, sv, hA, hob, rfl⟩
  have hz2 := KR1.out.lt
  have R2 := hide h3
  have KR2 := hide (Kept.but KR1.out h4 (by omega))
  have B2 := hide (B1.out.trans h4)
  have HA := hide hA
  have HOB : Hid (∀ k, sv.ownBlock = some k → w.heap.size < k) := hide fun k hk => Nat.lt_of_lt_of_le hz2 (hob k hk)
  obtain ⟨sa, sc, rfl⟩ := isA_form hA
  clear h3 h4 KR1 E1 B1 R1 hA hob HPT
  obtain ⟨q0, q1, q2, q3, q4, qf⟩ := KR2.out.tok
  unfold tokV
  generalize hn1 : (⟨EE.1.name.toArray⟩ : ByteArray) = n1 at *
  generalize hn2 : (⟨EE.1.text.toArray⟩ : ByteArray) = n2 at *
  have HN1 := hide hn1
  have HN2 := hide hn2
  clear hn1 hn2
  go_wp2
  refine bodyPost_ret (v := tokV EE.1 (.slice sa EE.1.attrs.length sc)) ?_ rfl ?_
  · rw [results_cell_one rfl]
    go_simp
    unfold tokV
    rw [HN1.out, HN2.out]
  · have := tokE_end2 EE.1 (.slice sa EE.1.attrs.length sc) B2.out R2.out hlt HA.out HOB.out
    unfold put5 at this
    rw [HN1.out, HN2.out] at this
    exact this
theorem data_p2 (s : ByteArray) (hs : s.size ≤ 20000) (b : Nat) (h2 : 2 ≤ b) (r : List UInt8) (f : Bool) (hb : beginsB r = true) (hl : letterN (r.getD 1 0).toNat = true) (w : World) (he : Env w) (hR : RdL w b s r) :
    Calls Tryz.prog 77 #[.pointer (some ⟨b, 0, none⟩), .bool f] w fun e w' => TokE w w' b s (endedL (r.drop 1) false) e := by
  have hD := dataS_of he hR
  have hlt := hD.lt
  have KR0 := hide hD.kr
  have B0 := hide hD.bu
  have R0 := hide hD.rd
  have E0 := hide hD.en
  have hlen := hR.len
  have HRS := hide (rest_any s (by omega) b r _ hD.rd)
  have hMK := markup_any ⟨r.toArray⟩ (by rw [size_list, str_data]; omega)
  have HMK : Hid (∀ w, Calls Tryz.prog 104 #[.string ⟨r.toArray⟩] w fun e w' => e = .returned (.bool (beginsB r)) ∧ w' = w) := hide hMK
  clear hMK hD
  have hl2 : 2 ≤ r.length := by
    obtain ⟨c, q, rfl, _⟩ := begins_form r hb
    simp
  have hsz : (⟨r.toArray⟩ : ByteArray).size = r.length := by rw [size_list, str_data]
  have hi1 : ∀ w, (Instr.index 9 (.string ⟨r.toArray⟩) (.int .i64 1)).run Tryz.prog w = .ok (.int .u8 ((r.getD 1 0).toNat : Int)) w := fun w => by
    have h := run_index_at ⟨r.toArray⟩ 1 1 rfl (by omega) w
    rw [getD_at] at h
    exact h
  have HL1 := hide (letter_any (r.getD 1 0).toNat)
  rw [hb] at HMK
  rw [hl] at HL1
  have h60 : ([60] : List UInt8).isPrefixOf r = true := by
    obtain ⟨c, q, rfl, _⟩ := begins_form r hb
    simp [List.isPrefixOf]
  have HSK : Hid (∀ w, RdL w b s r → Calls Tryz.prog 99 #[.pointer (some ⟨b, 0, none⟩), .string ⟨#[60]⟩] w fun e w' => e = .returned (.bool true) ∧ RdL w' b s (r.drop 1) ∧ But b w w') := hide (fun w h => skip_yes s (by omega) b r ⟨#[60]⟩ h60 w h)
  have HST := hide (fun w he (h : RdL w b s (r.drop 1)) => start_pany s hs b h2 (r.drop 1) w he h)
  clear hR he hb hl hsz h60
  generalize endedL (r.drop 1) false = EE at *
  generalize r.drop 1 = r2 at *
  generalize (r.getD 1 0).toNat = c1 at *
  generalize (⟨r.toArray⟩ : ByteArray) = y at *
  go_enter Tryz.func77, Tryz.ntmps77
  go_wp2_with fail
  refine HRS.out.mono ?_
  rintro e w1 ⟨rfl, n1, rfl⟩
  have R1 := hide (R0.out.drewN n1)
  have KR1 := hide (KR0.out.drewN n1)
  have B1 := hide (B0.out.drewN n1)
  have E1 := hide (E0.out.drewN n1)
  clear R0 KR0 B0 E0 HRS
  go_wp2_with fail
  refine (HMK.out _).mono ?_
  rintro e w1 ⟨rfl, rfl⟩
  clear HMK
  go_wp2_with fail
  refine (HL1.out _).mono ?_
  rintro e w1 ⟨rfl, rfl⟩
  go_wp2_with fail
  refine (HSK.out _ R1.out).mono ?_
  rintro e w2 ⟨rfl, h3, h4⟩
  have R2 := hide h3
  have KR2 := hide (Kept.but KR1.out h4 (by omega))
  have B2 := hide (B1.out.trans h4)
  have E2 := hide (E1.out.but h4 h2)
  clear h3 h4 KR1 B1 R1 E1
  go_wp2_with fail
  refine (HST.out _ E2.out R2.out).mono ?_
  rintro e w3 ⟨h4, h3, sv, hA, hob, rfl⟩
  have hz2 := KR2.out.lt
  have R3 := hide h3
  have KR3 := hide (Kept.but KR2.out h4 (by omega))
  have B3 := hide (B2.out.trans h4)
  have HA := hide hA
  have HOB : Hid (∀ k, sv.ownBlock = some k → w.heap.size < k) := hide fun k hk => Nat.lt_of_lt_of_le hz2 (hob k hk)
  obtain ⟨sa, sc, rfl⟩ := isA_form hA
  clear h3 h4 KR2 E2 B2 R2 hA hob HST
  obtain ⟨q0, q1, q2, q3, q4, qf⟩ := KR3.out.tok
  unfold tokV
  generalize hn1 : (⟨EE.1.name.toArray⟩ : ByteArray) = n1 at *
  generalize hn2 : (⟨EE.1.text.toArray⟩ : ByteArray) = n2 at *
  have HN1 := hide hn1
  have HN2 := hide hn2
  clear hn1 hn2
  go_wp2
  refine bodyPost_ret (v := tokV EE.1 (.slice sa EE.1.attrs.length sc)) ?_ rfl ?_
  · rw [results_cell_one rfl]
    go_simp
    unfold tokV
    rw [HN1.out, HN2.out]
  · have := tokE_end2 EE.1 (.slice sa EE.1.attrs.length sc) B3.out R3.out hlt HA.out HOB.out
    unfold put5 at this
    rw [HN1.out, HN2.out] at this
    exact this
theorem data_p3 (s : ByteArray) (hs : s.size ≤ 20000) (b : Nat) (h2 : 2 ≤ b) (r : List UInt8) (f : Bool) (hb : beginsB r = true) (h47 : r.getD 1 0 = 47) (hl : letterN (r.getD 2 0).toNat = true) (w : World) (he : Env w) (hR : RdL w b s r) :
    Calls Tryz.prog 77 #[.pointer (some ⟨b, 0, none⟩), .bool f] w fun e w' => TokE w w' b s (endedL (r.drop 2) true) e := by
  have hD := dataS_of he hR
  have hlt := hD.lt
  have KR0 := hide hD.kr
  have B0 := hide hD.bu
  have R0 := hide hD.rd
  have E0 := hide hD.en
  have hlen := hR.len
  have HRS := hide (rest_any s (by omega) b r _ hD.rd)
  have hMK := markup_any ⟨r.toArray⟩ (by rw [size_list, str_data]; omega)
  have HMK : Hid (∀ w, Calls Tryz.prog 104 #[.string ⟨r.toArray⟩] w fun e w' => e = .returned (.bool (beginsB r)) ∧ w' = w) := hide hMK
  clear hMK hD
  have hl3 : 3 ≤ r.length ∧ ([60, 47] : List UInt8).isPrefixOf r = true := by
    obtain ⟨c, q, rfl, hc⟩ := begins_form r hb
    have : c = 47 := h47
    subst this
    rcases hc with h | h | h | ⟨_, h⟩
    · exact absurd h (by decide)
    · exact absurd h (by decide)
    · exact absurd h (by decide)
    · cases q with
      | nil => exact absurd rfl h
      | cons d q => exact ⟨by simp, by simp [List.isPrefixOf]⟩
  have hsz : (⟨r.toArray⟩ : ByteArray).size = r.length := by rw [size_list, str_data]
  have hi1 : ∀ w, (Instr.index 9 (.string ⟨r.toArray⟩) (.int .i64 1)).run Tryz.prog w = .ok (.int .u8 ((r.getD 1 0).toNat : Int)) w := fun w => by
    have h := run_index_at ⟨r.toArray⟩ 1 1 rfl (by omega) w
    rw [getD_at] at h
    exact h
  have HL1 := hide (letter_any (r.getD 1 0).toNat)
  have hi2 : ∀ w, (Instr.index 9 (.string ⟨r.toArray⟩) (.int .i64 2)).run Tryz.prog w = .ok (.int .u8 ((r.getD 2 0).toNat : Int)) w := fun w => by
    have h := run_index_at ⟨r.toArray⟩ 2 2 rfl (by omega) w
    rw [getD_at] at h
    exact h
  have HL2 := hide (letter_any (r.getD 2 0).toNat)
  rw [hb] at HMK
  rw [h47] at hi1 HL1
  rw [show letterN (47 : UInt8).toNat = false by decide] at HL1
  rw [hl] at HL2
  have HSK : Hid (∀ w, RdL w b s r → Calls Tryz.prog 99 #[.pointer (some ⟨b, 0, none⟩), .string ⟨#[60, 47]⟩] w fun e w' => e = .returned (.bool true) ∧ RdL w' b s (r.drop 2) ∧ But b w w') := hide (fun w h => skip_yes s (by omega) b r ⟨#[60, 47]⟩ hl3.2 w h)
  have HST := hide (fun w he (h : RdL w b s (r.drop 2)) => stop_pany s hs b h2 (r.drop 2) w he h)
  clear hR he hb hl hsz h47 hl3
  generalize endedL (r.drop 2) true = EE at *
  generalize r.drop 2 = r2 at *
  generalize (r.getD 2 0).toNat = c2 at *
  have hc1 : ∀ w, (Instr.index 9 (.string ⟨r.toArray⟩) (.int .i64 1)).run Tryz.prog w = .ok (.int .u8 47) w := hi1
  have HL1b : Hid (∀ w, Calls Tryz.prog 106 #[.int .u8 47] w fun e w' => e = .returned (.bool false) ∧ w' = w) := HL1
  clear hi1 HL1
  generalize (⟨r.toArray⟩ : ByteArray) = y at *
  go_enter Tryz.func77, Tryz.ntmps77
  go_wp2_with fail
  refine HRS.out.mono ?_
  rintro e w1 ⟨rfl, n1, rfl⟩
  have R1 := hide (R0.out.drewN n1)
  have KR1 := hide (KR0.out.drewN n1)
  have B1 := hide (B0.out.drewN n1)
  have E1 := hide (E0.out.drewN n1)
  clear R0 KR0 B0 E0 HRS
  go_wp2_with fail
  refine (HMK.out _).mono ?_
  rintro e w1 ⟨rfl, rfl⟩
  clear HMK
  go_wp2_with fail
  refine (HL1b.out _).mono ?_
  rintro e w1 ⟨rfl, rfl⟩
  go_wp2_with fail
  refine (HL2.out _).mono ?_
  rintro e w1 ⟨rfl, rfl⟩
  go_wp2_with fail
  refine (HSK.out _ R1.out).mono ?_
  rintro e w2 ⟨rfl, h3, h4⟩
  have R2 := hide h3
  have KR2 := hide (Kept.but KR1.out h4 (by omega))
  have B2 := hide (B1.out.trans h4)
  have E2 := hide (E1.out.but h4 h2)
  clear h3 h4 KR1 B1 R1 E1
  go_wp2_with fail
  refine (HST.out _ E2.out R2.out).mono ?_
  rintro e w3 ⟨h4, h3, sv, hA, hob, rfl⟩
  have hz2 := KR2.out.lt
  have R3 := hide h3
  have KR3 := hide (Kept.but KR2.out h4 (by omega))
  have B3 := hide (B2.out.trans h4)
  have HA := hide hA
  have HOB : Hid (∀ k, sv.ownBlock = some k → w.heap.size < k) := hide fun k hk => Nat.lt_of_lt_of_le hz2 (hob k hk)
  obtain ⟨sa, sc, rfl⟩ := isA_form hA
  clear h3 h4 KR2 E2 B2 R2 hA hob HST
  obtain ⟨q0, q1, q2, q3, q4, qf⟩ := KR3.out.tok
  unfold tokV
  generalize hn1 : (⟨EE.1.name.toArray⟩ : ByteArray) = n1 at *
  generalize hn2 : (⟨EE.1.text.toArray⟩ : ByteArray) = n2 at *
  have HN1 := hide hn1
  have HN2 := hide hn2
  clear hn1 hn2
  go_wp2
  refine bodyPost_ret (v := tokV EE.1 (.slice sa EE.1.attrs.length sc)) ?_ rfl ?_
  · rw [results_cell_one rfl]
    go_simp
    unfold tokV
    rw [HN1.out, HN2.out]
  · have := tokE_end2 EE.1 (.slice sa EE.1.attrs.length sc) B3.out R3.out hlt HA.out HOB.out
    unfold put5 at this
    rw [HN1.out, HN2.out] at this
    exact this
theorem data_p4 (s : ByteArray) (hs : s.size ≤ 20000) (b : Nat) (h2 : 2 ≤ b) (r : List UInt8) (f : Bool) (hb : beginsB r = true) (h1 : r.getD 1 0 = 47) (hl : letterN (r.getD 2 0).toNat = false) (h3 : ([60, 47, 62] : List UInt8).isPrefixOf r = true) (w : World) (he : Env w) (hR : RdL w b s r) :
    Calls Tryz.prog 77 #[.pointer (some ⟨b, 0, none⟩), .bool f] w fun e w' => TokE w w' b s (({ kind := 0 }, r.drop 3)) e := by
  have hD := dataS_of he hR
  have hlt := hD.lt
  have KR0 := hide hD.kr
  have B0 := hide hD.bu
  have R0 := hide hD.rd
  have E0 := hide hD.en
  have hlen := hR.len
  have HRS := hide (rest_any s (by omega) b r _ hD.rd)
  have hMK := markup_any ⟨r.toArray⟩ (by rw [size_list, str_data]; omega)
  have HMK : Hid (∀ w, Calls Tryz.prog 104 #[.string ⟨r.toArray⟩] w fun e w' => e = .returned (.bool (beginsB r)) ∧ w' = w) := hide hMK
  clear hMK hD
  have hl3 : 3 ≤ r.length ∧ ([60] : List UInt8).isPrefixOf r = true := by
    obtain ⟨c, q, rfl, hc⟩ := begins_form r hb
    have : c = 47 := h1
    subst this
    rcases hc with h | h | h | ⟨_, h⟩
    · exact absurd h (by decide)
    · exact absurd h (by decide)
    · exact absurd h (by decide)
    · cases q with
      | nil => exact absurd rfl h
      | cons d q => exact ⟨by simp, by simp [List.isPrefixOf]⟩
  have hsz : (⟨r.toArray⟩ : ByteArray).size = r.length := by rw [size_list, str_data]
  have hi1 : ∀ w, (Instr.index 9 (.string ⟨r.toArray⟩) (.int .i64 1)).run Tryz.prog w = .ok (.int .u8 ((r.getD 1 0).toNat : Int)) w := fun w => by
    have h := run_index_at ⟨r.toArray⟩ 1 1 rfl (by omega) w
    rw [getD_at] at h
    exact h
  have HL1 := hide (letter_any (r.getD 1 0).toNat)
  have hi2 : ∀ w, (Instr.index 9 (.string ⟨r.toArray⟩) (.int .i64 2)).run Tryz.prog w = .ok (.int .u8 ((r.getD 2 0).toNat : Int)) w := fun w => by
    have h := run_index_at ⟨r.toArray⟩ 2 2 rfl (by omega) w
    rw [getD_at] at h
    exact h
  have HL2 := hide (letter_any (r.getD 2 0).toNat)
  rw [hl] at HL2
  rw [hb] at HMK
  rw [h1] at hi1 HL1
  rw [show letterN (47 : UInt8).toNat = false by decide] at HL1
  have hc1 : ∀ w, (Instr.index 9 (.string ⟨r.toArray⟩) (.int .i64 1)).run Tryz.prog w = .ok (.int .u8 47) w := hi1
  have HL1b : Hid (∀ w, Calls Tryz.prog 106 #[.int .u8 47] w fun e w' => e = .returned (.bool false) ∧ w' = w) := HL1
  clear hi1 HL1
  have HSK : Hid (∀ w, RdL w b s r → Calls Tryz.prog 99 #[.pointer (some ⟨b, 0, none⟩), .string ⟨#[60, 47, 62]⟩] w fun e w' => e = .returned (.bool true) ∧ RdL w' b s (r.drop 3) ∧ But b w w') := hide (fun w h => skip_yes s (by omega) b r ⟨#[60, 47, 62]⟩ h3 w h)
  clear hR he hb hsz h1 hl3 hl h3
  generalize r.drop 3 = V at *
  generalize (r.getD 2 0).toNat = c2 at *
  generalize (⟨r.toArray⟩ : ByteArray) = y at *
  go_enter Tryz.func77, Tryz.ntmps77
  go_wp2_with fail
  refine HRS.out.mono ?_
  rintro e w1 ⟨rfl, n1, rfl⟩
  have R1 := hide (R0.out.drewN n1)
  have KR1 := hide (KR0.out.drewN n1)
  have B1 := hide (B0.out.drewN n1)
  have E1 := hide (E0.out.drewN n1)
  clear R0 KR0 B0 E0 HRS
  go_wp2_with fail
  refine (HMK.out _).mono ?_
  rintro e w1 ⟨rfl, rfl⟩
  clear HMK
  go_wp2_with fail
  refine (HL1b.out _).mono ?_
  rintro e w1 ⟨rfl, rfl⟩
  go_wp2_with fail
  refine (HL2.out _).mono ?_
  rintro e w1 ⟨rfl, rfl⟩
  go_wp2_with fail
  refine (HSK.out _ R1.out).mono ?_
  rintro e w2 ⟨rfl, h3, h4⟩
  have R2 := hide h3
  have KR2 := hide (Kept.but KR1.out h4 (by omega))
  have B2 := hide (B1.out.trans h4)
  have E2 := hide (E1.out.but h4 h2)
  clear h3 h4 KR1 B1 R1 E1
  obtain ⟨q0, q1, q2, q3, q4, qf⟩ := KR2.out.tok
  go_wp2
  refine bodyPost_ret (v := tokV { kind := 0 } (.slice none 0 0)) ?_ rfl ?_
  · rw [results_cell_one rfl]
    go_simp
    rfl
  · exact tokE_end { kind := 0 } B2.out R2.out hlt rfl
theorem data_p5 (s : ByteArray) (hs : s.size ≤ 20000) (b : Nat) (h2 : 2 ≤ b) (r : List UInt8) (f : Bool) (hb : beginsB r = true) (h1 : r.getD 1 0 = 33) (h3 : ([60, 47, 62] : List UInt8).isPrefixOf r = false) (h4 : ([60, 33, 45, 45] : List UInt8).isPrefixOf r = true) (w : World) (he : Env w) (hR : RdL w b s r) :
    Calls Tryz.prog 77 #[.pointer (some ⟨b, 0, none⟩), .bool f] w fun e w' => TokE w w' b s (commentL (r.drop 4)) e := by
  have hD := dataS_of he hR
  have hlt := hD.lt
  have KR0 := hide hD.kr
  have B0 := hide hD.bu
  have R0 := hide hD.rd
  have E0 := hide hD.en
  have hlen := hR.len
  have HRS := hide (rest_any s (by omega) b r _ hD.rd)
  have hMK := markup_any ⟨r.toArray⟩ (by rw [size_list, str_data]; omega)
  have HMK : Hid (∀ w, Calls Tryz.prog 104 #[.string ⟨r.toArray⟩] w fun e w' => e = .returned (.bool (beginsB r)) ∧ w' = w) := hide hMK
  clear hMK hD
  have hl3 : 2 ≤ r.length ∧ ([60] : List UInt8).isPrefixOf r = true := by
    obtain ⟨c, q, rfl, hc⟩ := begins_form r hb
    exact ⟨by simp, by simp [List.isPrefixOf]⟩
  have hsz : (⟨r.toArray⟩ : ByteArray).size = r.length := by rw [size_list, str_data]
  have hi1 : ∀ w, (Instr.index 9 (.string ⟨r.toArray⟩) (.int .i64 1)).run Tryz.prog w = .ok (.int .u8 ((r.getD 1 0).toNat : Int)) w := fun w => by
    have h := run_index_at ⟨r.toArray⟩ 1 1 rfl (by omega) w
    rw [getD_at] at h
    exact h
  have HL1 := hide (letter_any (r.getD 1 0).toNat)
  rw [hb] at HMK
  rw [h1] at hi1 HL1
  rw [show letterN (33 : UInt8).toNat = false by decide] at HL1
  have hc1 : ∀ w, (Instr.index 9 (.string ⟨r.toArray⟩) (.int .i64 1)).run Tryz.prog w = .ok (.int .u8 33) w := hi1
  have HL1b : Hid (∀ w, Calls Tryz.prog 106 #[.int .u8 33] w fun e w' => e = .returned (.bool false) ∧ w' = w) := HL1
  clear hi1 HL1
  have HS1 := hide (fun w (h : RdL w b s r) => skip_no s (by omega) b r ⟨#[60, 47, 62]⟩ h3 w h)
  have HS2 : Hid (∀ w, RdL w b s r → Calls Tryz.prog 99 #[.pointer (some ⟨b, 0, none⟩), .string ⟨#[60, 33, 45, 45]⟩] w fun e w' => e = .returned (.bool true) ∧ RdL w' b s (r.drop 4) ∧ But b w w') := hide (fun w h => skip_yes s (by omega) b r ⟨#[60, 33, 45, 45]⟩ h4 w h)
  have HCM := hide (fun w (h : RdL w b s (r.drop 4)) => comment_pany s hs b h2 (r.drop 4) w h)
  clear hR he hb hsz h1 hl3 h3 h4
  generalize commentL (r.drop 4) = EE at *
  generalize r.drop 4 = r2 at *
  generalize (⟨r.toArray⟩ : ByteArray) = y at *
  go_enter Tryz.func77, Tryz.ntmps77
  go_wp2_with fail
  refine HRS.out.mono ?_
  rintro e w1 ⟨rfl, n1, rfl⟩
  have R1 := hide (R0.out.drewN n1)
  have KR1 := hide (KR0.out.drewN n1)
  have B1 := hide (B0.out.drewN n1)
  have E1 := hide (E0.out.drewN n1)
  clear R0 KR0 B0 E0 HRS
  go_wp2_with fail
  refine (HMK.out _).mono ?_
  rintro e w1 ⟨rfl, rfl⟩
  clear HMK
  go_wp2_with fail
  refine (HL1b.out _).mono ?_
  rintro e w1 ⟨rfl, rfl⟩
  go_wp2_with fail
  refine (HS1.out _ R1.out).mono ?_
  rintro e w2 ⟨rfl, h3, h4⟩
  have R2 := hide h3
  have KR2 := hide (Kept.but KR1.out h4 (by omega))
  have B2 := hide (B1.out.trans h4)
  have E2 := hide (E1.out.but h4 h2)
  clear h3 h4 KR1 B1 R1 E1
  go_wp2_with fail
  refine (HS2.out _ R2.out).mono ?_
  rintro e w3 ⟨rfl, h3, h4⟩
  have R3 := hide h3
  have KR3 := hide (Kept.but KR2.out h4 (by omega))
  have B3 := hide (B2.out.trans h4)
  have E3 := hide (E2.out.but h4 h2)
  clear h3 h4 KR2 B2 R2 E2
  go_wp2_with fail
  refine (HCM.out _ R3.out).mono ?_
  rintro e w4 ⟨h4, h3, sv, hA, hob, rfl⟩
  have hz2 := KR3.out.lt
  have R4 := hide h3
  have KR4 := hide (Kept.but KR3.out h4 (by omega))
  have B4 := hide (B3.out.trans h4)
  have HA := hide hA
  have HOB : Hid (∀ k, sv.ownBlock = some k → w.heap.size < k) := hide fun k hk => Nat.lt_of_lt_of_le hz2 (hob k hk)
  obtain ⟨sa, sc, rfl⟩ := isA_form hA
  clear h3 h4 KR3 E3 B3 R3 hA hob HCM
  obtain ⟨q0, q1, q2, q3, q4, qf⟩ := KR4.out.tok
  unfold tokV
  generalize hn1 : (⟨EE.1.name.toArray⟩ : ByteArray) = n1 at *
  generalize hn2 : (⟨EE.1.text.toArray⟩ : ByteArray) = n2 at *
  have HN1 := hide hn1
  have HN2 := hide hn2
  clear hn1 hn2
  go_wp2
  refine bodyPost_ret (v := tokV EE.1 (.slice sa EE.1.attrs.length sc)) ?_ rfl ?_
  · rw [results_cell_one rfl]
    go_simp
    unfold tokV
    rw [HN1.out, HN2.out]
  · have := tokE_end2 EE.1 (.slice sa EE.1.attrs.length sc) B4.out R4.out hlt HA.out HOB.out
    unfold put5 at this
    rw [HN1.out, HN2.out] at this
    exact this
theorem data_p6 (s : ByteArray) (hs : s.size ≤ 20000) (b : Nat) (h2 : 2 ≤ b) (r : List UInt8) (f : Bool) (hb : beginsB r = true) (h1 : r.getD 1 0 = 33) (h3 : ([60, 47, 62] : List UInt8).isPrefixOf r = false) (h4 : ([60, 33, 45, 45] : List UInt8).isPrefixOf r = false) (hk : likeB doctypeF r = true) (w : World) (he : Env w) (hR : RdL w b s r) :
    Calls Tryz.prog 77 #[.pointer (some ⟨b, 0, none⟩), .bool f] w fun e w' => TokE w w' b s (({ kind := 5 }, (findR [62] r).2.drop 1)) e := by
  have hD := dataS_of he hR
  have hlt := hD.lt
  have KR0 := hide hD.kr
  have B0 := hide hD.bu
  have R0 := hide hD.rd
  have E0 := hide hD.en
  have hlen := hR.len
  have HRS := hide (rest_any s (by omega) b r _ hD.rd)
  have hMK := markup_any ⟨r.toArray⟩ (by rw [size_list, str_data]; omega)
  have HMK : Hid (∀ w, Calls Tryz.prog 104 #[.string ⟨r.toArray⟩] w fun e w' => e = .returned (.bool (beginsB r)) ∧ w' = w) := hide hMK
  clear hMK hD
  have hl3 : 2 ≤ r.length ∧ ([60] : List UInt8).isPrefixOf r = true := by
    obtain ⟨c, q, rfl, hc⟩ := begins_form r hb
    exact ⟨by simp, by simp [List.isPrefixOf]⟩
  have hsz : (⟨r.toArray⟩ : ByteArray).size = r.length := by rw [size_list, str_data]
  have hi1 : ∀ w, (Instr.index 9 (.string ⟨r.toArray⟩) (.int .i64 1)).run Tryz.prog w = .ok (.int .u8 ((r.getD 1 0).toNat : Int)) w := fun w => by
    have h := run_index_at ⟨r.toArray⟩ 1 1 rfl (by omega) w
    rw [getD_at] at h
    exact h
  have HL1 := hide (letter_any (r.getD 1 0).toNat)
  rw [hb] at HMK
  rw [h1] at hi1 HL1
  rw [show letterN (33 : UInt8).toNat = false by decide] at HL1
  have hc1 : ∀ w, (Instr.index 9 (.string ⟨r.toArray⟩) (.int .i64 1)).run Tryz.prog w = .ok (.int .u8 33) w := hi1
  have HL1b : Hid (∀ w, Calls Tryz.prog 106 #[.int .u8 33] w fun e w' => e = .returned (.bool false) ∧ w' = w) := HL1
  clear hi1 HL1
  have HS1 := hide (fun w (h : RdL w b s r) => skip_no s (by omega) b r ⟨#[60, 47, 62]⟩ h3 w h)
  have HS2 := hide (fun w (h : RdL w b s r) => skip_no s (by omega) b r ⟨#[60, 33, 45, 45]⟩ h4 w h)
  have hLK := like_any ⟨r.toArray⟩ ⟨#[60, 33, 100, 111, 99, 116, 121, 112, 101]⟩ (by omega)
  have HLK : Hid (∀ w, Calls Tryz.prog 109 #[.string ⟨r.toArray⟩, .string ⟨#[60, 33, 100, 111, 99, 116, 121, 112, 101]⟩] w fun e w' => e = .returned (.bool true) ∧ Below w.heap.size w w') := by
    refine hide fun w => ?_
    rw [← hk]
    exact hLK w
  clear hLK
  have HUP := hide (fun w (h : RdL w b s r) => upToG_any s (by omega) b r w h)
  clear hR he hb hsz h1 hl3 h3 h4 hk
  generalize (findR [62] r).2.drop 1 = V at *
  generalize (findR [62] r).1 = X at *
  generalize (⟨r.toArray⟩ : ByteArray) = y at *
  generalize (⟨X.toArray⟩ : ByteArray) = x at *
  go_enter Tryz.func77, Tryz.ntmps77
  go_wp2_with fail
  refine HRS.out.mono ?_
  rintro e w1 ⟨rfl, n1, rfl⟩
  have R1 := hide (R0.out.drewN n1)
  have KR1 := hide (KR0.out.drewN n1)
  have B1 := hide (B0.out.drewN n1)
  have E1 := hide (E0.out.drewN n1)
  clear R0 KR0 B0 E0 HRS
  go_wp2_with fail
  refine (HMK.out _).mono ?_
  rintro e w1 ⟨rfl, rfl⟩
  clear HMK
  go_wp2_with fail
  refine (HL1b.out _).mono ?_
  rintro e w1 ⟨rfl, rfl⟩
  go_wp2_with fail
  refine (HS1.out _ R1.out).mono ?_
  rintro e w2 ⟨rfl, h3, h4⟩
  have R2 := hide h3
  have KR2 := hide (Kept.but KR1.out h4 (by omega))
  have B2 := hide (B1.out.trans h4)
  have E2 := hide (E1.out.but h4 h2)
  clear h3 h4 KR1 B1 R1 E1
  go_wp2_with fail
  refine (HS2.out _ R2.out).mono ?_
  rintro e w3 ⟨rfl, h3, h4⟩
  have R3 := hide h3
  have KR3 := hide (Kept.but KR2.out h4 (by omega))
  have B3 := hide (B2.out.trans h4)
  have E3 := hide (E2.out.but h4 h2)
  clear h3 h4 KR2 B2 R2 E2
  go_wp2_with fail
  refine (HLK.out _).mono ?_
  rintro e w4 ⟨rfl, h4⟩
  have R4 := hide (R3.out.below h4)
  have KR4 := hide (Kept.below KR3.out h4)
  have B4 := hide (B3.out.trans (.of h4))
  have E4 := hide (E3.out.below h4)
  clear h4 KR3 B3 R3 E3
  go_wp2_with fail
  refine (HUP.out _ R4.out).mono ?_
  rintro e w5 ⟨rfl, h3, h4⟩
  have R5 := hide h3
  have KR5 := hide (Kept.but KR4.out h4 (by omega))
  have B5 := hide (B4.out.trans h4)
  have E5 := hide (E4.out.but h4 h2)
  clear h3 h4 KR4 B4 R4 E4
  obtain ⟨q0, q1, q2, q3, q4, qf⟩ := KR5.out.tok
  go_wp2
  refine bodyPost_ret (v := tokV { kind := 5 } (.slice none 0 0)) ?_ rfl ?_
  · rw [results_cell_one rfl]
    go_simp
    rfl
  · exact tokE_end { kind := 5 } B5.out R5.out hlt rfl
theorem data_p7 (s : ByteArray) (hs : s.size ≤ 20000) (b : Nat) (h2 : 2 ≤ b) (r : List UInt8) (f : Bool) (hf : f = true) (hb : beginsB r = true) (h1 : r.getD 1 0 = 33) (h3 : ([60, 47, 62] : List UInt8).isPrefixOf r = false) (h4 : ([60, 33, 45, 45] : List UInt8).isPrefixOf r = false) (hk : likeB doctypeF r = false) (hx : cdataM.isPrefixOf r = true) (w : World) (he : Env w) (hR : RdL w b s r) :
    Calls Tryz.prog 77 #[.pointer (some ⟨b, 0, none⟩), .bool f] w fun e w' => TokE w w' b s (cdataT (r.drop 9)) e := by
  subst hf
  have hD := dataS_of he hR
  have hlt := hD.lt
  have KR0 := hide hD.kr
  have B0 := hide hD.bu
  have R0 := hide hD.rd
  have E0 := hide hD.en
  have hlen := hR.len
  have HRS := hide (rest_any s (by omega) b r _ hD.rd)
  have hMK := markup_any ⟨r.toArray⟩ (by rw [size_list, str_data]; omega)
  have HMK : Hid (∀ w, Calls Tryz.prog 104 #[.string ⟨r.toArray⟩] w fun e w' => e = .returned (.bool (beginsB r)) ∧ w' = w) := hide hMK
  clear hMK hD
  have hl3 : 2 ≤ r.length ∧ ([60] : List UInt8).isPrefixOf r = true := by
    obtain ⟨c, q, rfl, hc⟩ := begins_form r hb
    exact ⟨by simp, by simp [List.isPrefixOf]⟩
  have hsz : (⟨r.toArray⟩ : ByteArray).size = r.length := by rw [size_list, str_data]
  have hi1 : ∀ w, (Instr.index 9 (.string ⟨r.toArray⟩) (.int .i64 1)).run Tryz.prog w = .ok (.int .u8 ((r.getD 1 0).toNat : Int)) w := fun w => by
    have h := run_index_at ⟨r.toArray⟩ 1 1 rfl (by omega) w
    rw [getD_at] at h
    exact h
  have HL1 := hide (letter_any (r.getD 1 0).toNat)
  rw [hb] at HMK
  rw [h1] at hi1 HL1
  rw [show letterN (33 : UInt8).toNat = false by decide] at HL1
  have hc1 : ∀ w, (Instr.index 9 (.string ⟨r.toArray⟩) (.int .i64 1)).run Tryz.prog w = .ok (.int .u8 33) w := hi1
  have HL1b : Hid (∀ w, Calls Tryz.prog 106 #[.int .u8 33] w fun e w' => e = .returned (.bool false) ∧ w' = w) := HL1
  clear hi1 HL1
  have HS1 := hide (fun w (h : RdL w b s r) => skip_no s (by omega) b r ⟨#[60, 47, 62]⟩ h3 w h)
  have HS2 := hide (fun w (h : RdL w b s r) => skip_no s (by omega) b r ⟨#[60, 33, 45, 45]⟩ h4 w h)
  have hLK := like_any ⟨r.toArray⟩ ⟨#[60, 33, 100, 111, 99, 116, 121, 112, 101]⟩ (by omega)
  have HLK : Hid (∀ w, Calls Tryz.prog 109 #[.string ⟨r.toArray⟩, .string ⟨#[60, 33, 100, 111, 99, 116, 121, 112, 101]⟩] w fun e w' => e = .returned (.bool false) ∧ Below w.heap.size w w') := by
    refine hide fun w => ?_
    rw [← hk]
    exact hLK w
  clear hLK
  have HS3 : Hid (∀ w, RdL w b s r → Calls Tryz.prog 99 #[.pointer (some ⟨b, 0, none⟩), .string ⟨#[60, 33, 91, 67, 68, 65, 84, 65, 91]⟩] w fun e w' => e = .returned (.bool true) ∧ RdL w' b s (r.drop 9) ∧ But b w w') := hide (fun w h => skip_yes s (by omega) b r ⟨#[60, 33, 91, 67, 68, 65, 84, 65, 91]⟩ hx w h)
  have HCD := hide (fun w he (h : RdL w b s (r.drop 9)) => cdata_pany s hs b h2 (r.drop 9) w he h)
  have HCD2 : Hid (∀ w, Env w → RdL w b s (r.drop 9) → Calls Tryz.prog 111 #[.pointer (some ⟨b, 0, none⟩)] w fun e w' => TokE w w' b s (cdataT (r.drop 9)) e) := HCD
  clear HCD
  clear hR he hb hsz h1 hl3 h3 h4 hk hx
  generalize cdataT (r.drop 9) = EE at *
  generalize r.drop 9 = r2 at *
  generalize (⟨r.toArray⟩ : ByteArray) = y at *
  go_enter Tryz.func77, Tryz.ntmps77
  go_wp2_with fail
  refine HRS.out.mono ?_
  rintro e w1 ⟨rfl, n1, rfl⟩
  have R1 := hide (R0.out.drewN n1)
  have KR1 := hide (KR0.out.drewN n1)
  have B1 := hide (B0.out.drewN n1)
  have E1 := hide (E0.out.drewN n1)
  clear R0 KR0 B0 E0 HRS
  go_wp2_with fail
  refine (HMK.out _).mono ?_
  rintro e w1 ⟨rfl, rfl⟩
  clear HMK
  go_wp2_with fail
  refine (HL1b.out _).mono ?_
  rintro e w1 ⟨rfl, rfl⟩
  go_wp2_with fail
  refine (HS1.out _ R1.out).mono ?_
  rintro e w2 ⟨rfl, h3, h4⟩
  have R2 := hide h3
  have KR2 := hide (Kept.but KR1.out h4 (by omega))
  have B2 := hide (B1.out.trans h4)
  have E2 := hide (E1.out.but h4 h2)
  clear h3 h4 KR1 B1 R1 E1
  go_wp2_with fail
  refine (HS2.out _ R2.out).mono ?_
  rintro e w3 ⟨rfl, h3, h4⟩
  have R3 := hide h3
  have KR3 := hide (Kept.but KR2.out h4 (by omega))
  have B3 := hide (B2.out.trans h4)
  have E3 := hide (E2.out.but h4 h2)
  clear h3 h4 KR2 B2 R2 E2
  go_wp2_with fail
  refine (HLK.out _).mono ?_
  rintro e w4 ⟨rfl, h4⟩
  have R4 := hide (R3.out.below h4)
  have KR4 := hide (Kept.below KR3.out h4)
  have B4 := hide (B3.out.trans (.of h4))
  have E4 := hide (E3.out.below h4)
  clear h4 KR3 B3 R3 E3
  go_wp2_with fail
  refine (HS3.out _ R4.out).mono ?_
  rintro e w5 ⟨rfl, h3, h4⟩
  have R5 := hide h3
  have KR5 := hide (Kept.but KR4.out h4 (by omega))
  have B5 := hide (B4.out.trans h4)
  have E5 := hide (E4.out.but h4 h2)
  clear h3 h4 KR4 B4 R4 E4
  go_wp2_with fail
  refine (HCD2.out _ E5.out R5.out).mono ?_
  rintro e w6 ⟨h4, h3, sv, hA, hob, rfl⟩
  have hz2 := KR5.out.lt
  have R6 := hide h3
  have KR6 := hide (Kept.but KR5.out h4 (by omega))
  have B6 := hide (B5.out.trans h4)
  have HA := hide hA
  have HOB : Hid (∀ k, sv.ownBlock = some k → w.heap.size < k) := hide fun k hk => Nat.lt_of_lt_of_le hz2 (hob k hk)
  obtain ⟨sa, sc, rfl⟩ := isA_form hA
  clear h3 h4 KR5 E5 B5 R5 hA hob HCD2
  obtain ⟨q0, q1, q2, q3, q4, qf⟩ := KR6.out.tok
  unfold tokV
  generalize hn1 : (⟨EE.1.name.toArray⟩ : ByteArray) = n1 at *
  generalize hn2 : (⟨EE.1.text.toArray⟩ : ByteArray) = n2 at *
  have HN1 := hide hn1
  have HN2 := hide hn2
  clear hn1 hn2
  go_wp2
  refine bodyPost_ret (v := tokV EE.1 (.slice sa EE.1.attrs.length sc)) ?_ rfl ?_
  · rw [results_cell_one rfl]
    go_simp
    unfold tokV
    rw [HN1.out, HN2.out]
  · have := tokE_end2 EE.1 (.slice sa EE.1.attrs.length sc) B6.out R6.out hlt HA.out HOB.out
    unfold put5 at this
    rw [HN1.out, HN2.out] at this
    exact this
theorem data_p8_33_true (s : ByteArray) (hs : s.size ≤ 20000) (b : Nat) (h2 : 2 ≤ b) (r : List UInt8) (f : Bool) (hf : f = true) (hb : beginsB r = true) (h1 : r.getD 1 0 = 33) (h3 : ([60, 47, 62] : List UInt8).isPrefixOf r = false) (h4 : ([60, 33, 45, 45] : List UInt8).isPrefixOf r = false) (hk : likeB doctypeF r = false) (hx : cdataM.isPrefixOf r = false) (w : World) (he : Env w) (hR : RdL w b s r) :
    Calls Tryz.prog 77 #[.pointer (some ⟨b, 0, none⟩), .bool f] w fun e w' => TokE w w' b s (otherL (oddR r)) e := by
  subst hf
  have hD := dataS_of he hR
  have hlt := hD.lt
  have KR0 := hide hD.kr
  have B0 := hide hD.bu
  have R0 := hide hD.rd
  have E0 := hide hD.en
  have hlen := hR.len
  have HRS := hide (rest_any s (by omega) b r _ hD.rd)
  have hMK := markup_any ⟨r.toArray⟩ (by rw [size_list, str_data]; omega)
  have HMK : Hid (∀ w, Calls Tryz.prog 104 #[.string ⟨r.toArray⟩] w fun e w' => e = .returned (.bool (beginsB r)) ∧ w' = w) := hide hMK
  clear hMK hD
  have hl3 : 2 ≤ r.length ∧ ([60] : List UInt8).isPrefixOf r = true := by
    obtain ⟨c, q, rfl, hc⟩ := begins_form r hb
    exact ⟨by simp, by simp [List.isPrefixOf]⟩
  have hsz : (⟨r.toArray⟩ : ByteArray).size = r.length := by rw [size_list, str_data]
  have hi1 : ∀ w, (Instr.index 9 (.string ⟨r.toArray⟩) (.int .i64 1)).run Tryz.prog w = .ok (.int .u8 ((r.getD 1 0).toNat : Int)) w := fun w => by
    have h := run_index_at ⟨r.toArray⟩ 1 1 rfl (by omega) w
    rw [getD_at] at h
    exact h
  have HL1 := hide (letter_any (r.getD 1 0).toNat)
  rw [hb] at HMK
  rw [h1] at hi1 HL1
  rw [show letterN (33 : UInt8).toNat = false by decide] at HL1
  have hc1 : ∀ w, (Instr.index 9 (.string ⟨r.toArray⟩) (.int .i64 1)).run Tryz.prog w = .ok (.int .u8 33) w := hi1
  have HL1b : Hid (∀ w, Calls Tryz.prog 106 #[.int .u8 33] w fun e w' => e = .returned (.bool false) ∧ w' = w) := HL1
  clear hi1 HL1
  have HS1 := hide (fun w (h : RdL w b s r) => skip_no s (by omega) b r ⟨#[60, 47, 62]⟩ h3 w h)
  have HS2 := hide (fun w (h : RdL w b s r) => skip_no s (by omega) b r ⟨#[60, 33, 45, 45]⟩ h4 w h)
  have hLK := like_any ⟨r.toArray⟩ ⟨#[60, 33, 100, 111, 99, 116, 121, 112, 101]⟩ (by omega)
  have HLK : Hid (∀ w, Calls Tryz.prog 109 #[.string ⟨r.toArray⟩, .string ⟨#[60, 33, 100, 111, 99, 116, 121, 112, 101]⟩] w fun e w' => e = .returned (.bool false) ∧ Below w.heap.size w w') := by
    refine hide fun w => ?_
    rw [← hk]
    exact hLK w
  clear hLK
  have HS3 := hide (fun w (h : RdL w b s r) => skip_no s (by omega) b r ⟨#[60, 33, 91, 67, 68, 65, 84, 65, 91]⟩ hx w h)
  have HOD := hide (fun w (h : RdL w b s r) => odd_any s hs b h2 r hl3.2 w h)
  clear hR he hb hsz h1 hl3 h3 h4 hk hx
  generalize otherL (oddR r) = EE at *
  generalize (⟨r.toArray⟩ : ByteArray) = y at *
  go_enter Tryz.func77, Tryz.ntmps77
  go_wp2_with fail
  refine HRS.out.mono ?_
  rintro e w1 ⟨rfl, n1, rfl⟩
  have R1 := hide (R0.out.drewN n1)
  have KR1 := hide (KR0.out.drewN n1)
  have B1 := hide (B0.out.drewN n1)
  have E1 := hide (E0.out.drewN n1)
  clear R0 KR0 B0 E0 HRS
  go_wp2_with fail
  refine (HMK.out _).mono ?_
  rintro e w1 ⟨rfl, rfl⟩
  clear HMK
  go_wp2_with fail
  refine (HL1b.out _).mono ?_
  rintro e w1 ⟨rfl, rfl⟩
  go_wp2_with fail
  refine (HS1.out _ R1.out).mono ?_
  rintro e w2 ⟨rfl, h3, h4⟩
  have R2 := hide h3
  have KR2 := hide (Kept.but KR1.out h4 (by omega))
  have B2 := hide (B1.out.trans h4)
  have E2 := hide (E1.out.but h4 h2)
  clear h3 h4 KR1 B1 R1 E1
  go_wp2_with fail
  refine (HS2.out _ R2.out).mono ?_
  rintro e w3 ⟨rfl, h3, h4⟩
  have R3 := hide h3
  have KR3 := hide (Kept.but KR2.out h4 (by omega))
  have B3 := hide (B2.out.trans h4)
  have E3 := hide (E2.out.but h4 h2)
  clear h3 h4 KR2 B2 R2 E2
  go_wp2_with fail
  refine (HLK.out _).mono ?_
  rintro e w4 ⟨rfl, h4⟩
  have R4 := hide (R3.out.below h4)
  have KR4 := hide (Kept.below KR3.out h4)
  have B4 := hide (B3.out.trans (.of h4))
  have E4 := hide (E3.out.below h4)
  clear h4 KR3 B3 R3 E3
  go_wp2_with fail
  refine (HS3.out _ R4.out).mono ?_
  rintro e w5 ⟨rfl, h3, h4⟩
  have R5 := hide h3
  have KR5 := hide (Kept.but KR4.out h4 (by omega))
  have B5 := hide (B4.out.trans h4)
  have E5 := hide (E4.out.but h4 h2)
  clear h3 h4 KR4 B4 R4 E4
  go_wp2_with fail
  refine (HOD.out _ R5.out).mono ?_
  rintro e w6 ⟨h4, h3, sv, hA, hob, rfl⟩
  have hz2 := KR5.out.lt
  have R6 := hide h3
  have KR6 := hide (Kept.but KR5.out h4 (by omega))
  have B6 := hide (B5.out.trans h4)
  have HA := hide hA
  have HOB : Hid (∀ k, sv.ownBlock = some k → w.heap.size < k) := hide fun k hk => Nat.lt_of_lt_of_le hz2 (hob k hk)
  obtain ⟨sa, sc, rfl⟩ := isA_form hA
  clear h3 h4 KR5 E5 B5 R5 hA hob HOD
  obtain ⟨q0, q1, q2, q3, q4, qf⟩ := KR6.out.tok
  unfold tokV
  generalize hn1 : (⟨EE.1.name.toArray⟩ : ByteArray) = n1 at *
  generalize hn2 : (⟨EE.1.text.toArray⟩ : ByteArray) = n2 at *
  have HN1 := hide hn1
  have HN2 := hide hn2
  clear hn1 hn2
  go_wp2
  refine bodyPost_ret (v := tokV EE.1 (.slice sa EE.1.attrs.length sc)) ?_ rfl ?_
  · rw [results_cell_one rfl]
    go_simp
    unfold tokV
    rw [HN1.out, HN2.out]
  · have := tokE_end2 EE.1 (.slice sa EE.1.attrs.length sc) B6.out R6.out hlt HA.out HOB.out
    unfold put5 at this
    rw [HN1.out, HN2.out] at this
    exact this
theorem data_p8_33_false (s : ByteArray) (hs : s.size ≤ 20000) (b : Nat) (h2 : 2 ≤ b) (r : List UInt8) (f : Bool) (hf : f = false) (hb : beginsB r = true) (h1 : r.getD 1 0 = 33) (h3 : ([60, 47, 62] : List UInt8).isPrefixOf r = false) (h4 : ([60, 33, 45, 45] : List UInt8).isPrefixOf r = false) (hk : likeB doctypeF r = false) (w : World) (he : Env w) (hR : RdL w b s r) :
    Calls Tryz.prog 77 #[.pointer (some ⟨b, 0, none⟩), .bool f] w fun e w' => TokE w w' b s (otherL (oddR r)) e := by
  subst hf
  have hD := dataS_of he hR
  have hlt := hD.lt
  have KR0 := hide hD.kr
  have B0 := hide hD.bu
  have R0 := hide hD.rd
  have E0 := hide hD.en
  have hlen := hR.len
  have HRS := hide (rest_any s (by omega) b r _ hD.rd)
  have hMK := markup_any ⟨r.toArray⟩ (by rw [size_list, str_data]; omega)
  have HMK : Hid (∀ w, Calls Tryz.prog 104 #[.string ⟨r.toArray⟩] w fun e w' => e = .returned (.bool (beginsB r)) ∧ w' = w) := hide hMK
  clear hMK hD
  have hl3 : 2 ≤ r.length ∧ ([60] : List UInt8).isPrefixOf r = true := by
    obtain ⟨c, q, rfl, hc⟩ := begins_form r hb
    exact ⟨by simp, by simp [List.isPrefixOf]⟩
  have hsz : (⟨r.toArray⟩ : ByteArray).size = r.length := by rw [size_list, str_data]
  have hi1 : ∀ w, (Instr.index 9 (.string ⟨r.toArray⟩) (.int .i64 1)).run Tryz.prog w = .ok (.int .u8 ((r.getD 1 0).toNat : Int)) w := fun w => by
    have h := run_index_at ⟨r.toArray⟩ 1 1 rfl (by omega) w
    rw [getD_at] at h
    exact h
  have HL1 := hide (letter_any (r.getD 1 0).toNat)
  rw [hb] at HMK
  rw [h1] at hi1 HL1
  rw [show letterN (33 : UInt8).toNat = false by decide] at HL1
  have hc1 : ∀ w, (Instr.index 9 (.string ⟨r.toArray⟩) (.int .i64 1)).run Tryz.prog w = .ok (.int .u8 33) w := hi1
  have HL1b : Hid (∀ w, Calls Tryz.prog 106 #[.int .u8 33] w fun e w' => e = .returned (.bool false) ∧ w' = w) := HL1
  clear hi1 HL1
  have HS1 := hide (fun w (h : RdL w b s r) => skip_no s (by omega) b r ⟨#[60, 47, 62]⟩ h3 w h)
  have HS2 := hide (fun w (h : RdL w b s r) => skip_no s (by omega) b r ⟨#[60, 33, 45, 45]⟩ h4 w h)
  have hLK := like_any ⟨r.toArray⟩ ⟨#[60, 33, 100, 111, 99, 116, 121, 112, 101]⟩ (by omega)
  have HLK : Hid (∀ w, Calls Tryz.prog 109 #[.string ⟨r.toArray⟩, .string ⟨#[60, 33, 100, 111, 99, 116, 121, 112, 101]⟩] w fun e w' => e = .returned (.bool false) ∧ Below w.heap.size w w') := by
    refine hide fun w => ?_
    rw [← hk]
    exact hLK w
  clear hLK
  have HOD := hide (fun w (h : RdL w b s r) => odd_any s hs b h2 r hl3.2 w h)
  clear hR he hb hsz h1 hl3 h3 h4 hk
  generalize otherL (oddR r) = EE at *
  generalize (⟨r.toArray⟩ : ByteArray) = y at *
  go_enter Tryz.func77, Tryz.ntmps77
  go_wp2_with fail
  refine HRS.out.mono ?_
  rintro e w1 ⟨rfl, n1, rfl⟩
  have R1 := hide (R0.out.drewN n1)
  have KR1 := hide (KR0.out.drewN n1)
  have B1 := hide (B0.out.drewN n1)
  have E1 := hide (E0.out.drewN n1)
  clear R0 KR0 B0 E0 HRS
  go_wp2_with fail
  refine (HMK.out _).mono ?_
  rintro e w1 ⟨rfl, rfl⟩
  clear HMK
  go_wp2_with fail
  refine (HL1b.out _).mono ?_
  rintro e w1 ⟨rfl, rfl⟩
  go_wp2_with fail
  refine (HS1.out _ R1.out).mono ?_
  rintro e w2 ⟨rfl, h3, h4⟩
  have R2 := hide h3
  have KR2 := hide (Kept.but KR1.out h4 (by omega))
  have B2 := hide (B1.out.trans h4)
  have E2 := hide (E1.out.but h4 h2)
  clear h3 h4 KR1 B1 R1 E1
  go_wp2_with fail
  refine (HS2.out _ R2.out).mono ?_
  rintro e w3 ⟨rfl, h3, h4⟩
  have R3 := hide h3
  have KR3 := hide (Kept.but KR2.out h4 (by omega))
  have B3 := hide (B2.out.trans h4)
  have E3 := hide (E2.out.but h4 h2)
  clear h3 h4 KR2 B2 R2 E2
  go_wp2_with fail
  refine (HLK.out _).mono ?_
  rintro e w4 ⟨rfl, h4⟩
  have R4 := hide (R3.out.below h4)
  have KR4 := hide (Kept.below KR3.out h4)
  have B4 := hide (B3.out.trans (.of h4))
  have E4 := hide (E3.out.below h4)
  clear h4 KR3 B3 R3 E3
  go_wp2_with fail
  refine (HOD.out _ R4.out).mono ?_
  rintro e w5 ⟨h4, h3, sv, hA, hob, rfl⟩
  have hz2 := KR4.out.lt
  have R5 := hide h3
  have KR5 := hide (Kept.but KR4.out h4 (by omega))
  have B5 := hide (B4.out.trans h4)
  have HA := hide hA
  have HOB : Hid (∀ k, sv.ownBlock = some k → w.heap.size < k) := hide fun k hk => Nat.lt_of_lt_of_le hz2 (hob k hk)
  obtain ⟨sa, sc, rfl⟩ := isA_form hA
  clear h3 h4 KR4 E4 B4 R4 hA hob HOD
  obtain ⟨q0, q1, q2, q3, q4, qf⟩ := KR5.out.tok
  unfold tokV
  generalize hn1 : (⟨EE.1.name.toArray⟩ : ByteArray) = n1 at *
  generalize hn2 : (⟨EE.1.text.toArray⟩ : ByteArray) = n2 at *
  have HN1 := hide hn1
  have HN2 := hide hn2
  clear hn1 hn2
  go_wp2
  refine bodyPost_ret (v := tokV EE.1 (.slice sa EE.1.attrs.length sc)) ?_ rfl ?_
  · rw [results_cell_one rfl]
    go_simp
    unfold tokV
    rw [HN1.out, HN2.out]
  · have := tokE_end2 EE.1 (.slice sa EE.1.attrs.length sc) B5.out R5.out hlt HA.out HOB.out
    unfold put5 at this
    rw [HN1.out, HN2.out] at this
    exact this
theorem data_p8_63_true (s : ByteArray) (hs : s.size ≤ 20000) (b : Nat) (h2 : 2 ≤ b) (r : List UInt8) (f : Bool) (hf : f = true) (hb : beginsB r = true) (h1 : r.getD 1 0 = 63) (h3 : ([60, 47, 62] : List UInt8).isPrefixOf r = false) (h4 : ([60, 33, 45, 45] : List UInt8).isPrefixOf r = false) (hk : likeB doctypeF r = false) (hx : cdataM.isPrefixOf r = false) (w : World) (he : Env w) (hR : RdL w b s r) :
    Calls Tryz.prog 77 #[.pointer (some ⟨b, 0, none⟩), .bool f] w fun e w' => TokE w w' b s (otherL (oddR r)) e := by
  subst hf
  have hD := dataS_of he hR
  have hlt := hD.lt
  have KR0 := hide hD.kr
  have B0 := hide hD.bu
  have R0 := hide hD.rd
  have E0 := hide hD.en
  have hlen := hR.len
  have HRS := hide (rest_any s (by omega) b r _ hD.rd)
  have hMK := markup_any ⟨r.toArray⟩ (by rw [size_list, str_data]; omega)
  have HMK : Hid (∀ w, Calls Tryz.prog 104 #[.string ⟨r.toArray⟩] w fun e w' => e = .returned (.bool (beginsB r)) ∧ w' = w) := hide hMK
  clear hMK hD
  have hl3 : 2 ≤ r.length ∧ ([60] : List UInt8).isPrefixOf r = true := by
    obtain ⟨c, q, rfl, hc⟩ := begins_form r hb
    exact ⟨by simp, by simp [List.isPrefixOf]⟩
  have hsz : (⟨r.toArray⟩ : ByteArray).size = r.length := by rw [size_list, str_data]
  have hi1 : ∀ w, (Instr.index 9 (.string ⟨r.toArray⟩) (.int .i64 1)).run Tryz.prog w = .ok (.int .u8 ((r.getD 1 0).toNat : Int)) w := fun w => by
    have h := run_index_at ⟨r.toArray⟩ 1 1 rfl (by omega) w
    rw [getD_at] at h
    exact h
  have HL1 := hide (letter_any (r.getD 1 0).toNat)
  rw [hb] at HMK
  rw [h1] at hi1 HL1
  rw [show letterN (63 : UInt8).toNat = false by decide] at HL1
  have hc1 : ∀ w, (Instr.index 9 (.string ⟨r.toArray⟩) (.int .i64 1)).run Tryz.prog w = .ok (.int .u8 63) w := hi1
  have HL1b : Hid (∀ w, Calls Tryz.prog 106 #[.int .u8 63] w fun e w' => e = .returned (.bool false) ∧ w' = w) := HL1
  clear hi1 HL1
  have HS1 := hide (fun w (h : RdL w b s r) => skip_no s (by omega) b r ⟨#[60, 47, 62]⟩ h3 w h)
  have HS2 := hide (fun w (h : RdL w b s r) => skip_no s (by omega) b r ⟨#[60, 33, 45, 45]⟩ h4 w h)
  have hLK := like_any ⟨r.toArray⟩ ⟨#[60, 33, 100, 111, 99, 116, 121, 112, 101]⟩ (by omega)
  have HLK : Hid (∀ w, Calls Tryz.prog 109 #[.string ⟨r.toArray⟩, .string ⟨#[60, 33, 100, 111, 99, 116, 121, 112, 101]⟩] w fun e w' => e = .returned (.bool false) ∧ Below w.heap.size w w') := by
    refine hide fun w => ?_
    rw [← hk]
    exact hLK w
  clear hLK
  have HS3 := hide (fun w (h : RdL w b s r) => skip_no s (by omega) b r ⟨#[60, 33, 91, 67, 68, 65, 84, 65, 91]⟩ hx w h)
  have HOD := hide (fun w (h : RdL w b s r) => odd_any s hs b h2 r hl3.2 w h)
  clear hR he hb hsz h1 hl3 h3 h4 hk hx
  generalize otherL (oddR r) = EE at *
  generalize (⟨r.toArray⟩ : ByteArray) = y at *
  go_enter Tryz.func77, Tryz.ntmps77
  go_wp2_with fail
  refine HRS.out.mono ?_
  rintro e w1 ⟨rfl, n1, rfl⟩
  have R1 := hide (R0.out.drewN n1)
  have KR1 := hide (KR0.out.drewN n1)
  have B1 := hide (B0.out.drewN n1)
  have E1 := hide (E0.out.drewN n1)
  clear R0 KR0 B0 E0 HRS
  go_wp2_with fail
  refine (HMK.out _).mono ?_
  rintro e w1 ⟨rfl, rfl⟩
  clear HMK
  go_wp2_with fail
  refine (HL1b.out _).mono ?_
  rintro e w1 ⟨rfl, rfl⟩
  go_wp2_with fail
  refine (HS1.out _ R1.out).mono ?_
  rintro e w2 ⟨rfl, h3, h4⟩
  have R2 := hide h3
  have KR2 := hide (Kept.but KR1.out h4 (by omega))
  have B2 := hide (B1.out.trans h4)
  have E2 := hide (E1.out.but h4 h2)
  clear h3 h4 KR1 B1 R1 E1
  go_wp2_with fail
  refine (HS2.out _ R2.out).mono ?_
  rintro e w3 ⟨rfl, h3, h4⟩
  have R3 := hide h3
  have KR3 := hide (Kept.but KR2.out h4 (by omega))
  have B3 := hide (B2.out.trans h4)
  have E3 := hide (E2.out.but h4 h2)
  clear h3 h4 KR2 B2 R2 E2
  go_wp2_with fail
  refine (HLK.out _).mono ?_
  rintro e w4 ⟨rfl, h4⟩
  have R4 := hide (R3.out.below h4)
  have KR4 := hide (Kept.below KR3.out h4)
  have B4 := hide (B3.out.trans (.of h4))
  have E4 := hide (E3.out.below h4)
  clear h4 KR3 B3 R3 E3
  go_wp2_with fail
  refine (HS3.out _ R4.out).mono ?_
  rintro e w5 ⟨rfl, h3, h4⟩
  have R5 := hide h3
  have KR5 := hide (Kept.but KR4.out h4 (by omega))
  have B5 := hide (B4.out.trans h4)
  have E5 := hide (E4.out.but h4 h2)
  clear h3 h4 KR4 B4 R4 E4
  go_wp2_with fail
  refine (HOD.out _ R5.out).mono ?_
  rintro e w6 ⟨h4, h3, sv, hA, hob, rfl⟩
  have hz2 := KR5.out.lt
  have R6 := hide h3
  have KR6 := hide (Kept.but KR5.out h4 (by omega))
  have B6 := hide (B5.out.trans h4)
  have HA := hide hA
  have HOB : Hid (∀ k, sv.ownBlock = some k → w.heap.size < k) := hide fun k hk => Nat.lt_of_lt_of_le hz2 (hob k hk)
  obtain ⟨sa, sc, rfl⟩ := isA_form hA
  clear h3 h4 KR5 E5 B5 R5 hA hob HOD
  obtain ⟨q0, q1, q2, q3, q4, qf⟩ := KR6.out.tok
  unfold tokV
  generalize hn1 : (⟨EE.1.name.toArray⟩ : ByteArray) = n1 at *
  generalize hn2 : (⟨EE.1.text.toArray⟩ : ByteArray) = n2 at *
  have HN1 := hide hn1
  have HN2 := hide hn2
  clear hn1 hn2
  go_wp2
  refine bodyPost_ret (v := tokV EE.1 (.slice sa EE.1.attrs.length sc)) ?_ rfl ?_
  · rw [results_cell_one rfl]
    go_simp
    unfold tokV
    rw [HN1.out, HN2.out]
  · have := tokE_end2 EE.1 (.slice sa EE.1.attrs.length sc) B6.out R6.out hlt HA.out HOB.out
    unfold put5 at this
    rw [HN1.out, HN2.out] at this
    exact this
theorem data_p8_63_false (s : ByteArray) (hs : s.size ≤ 20000) (b : Nat) (h2 : 2 ≤ b) (r : List UInt8) (f : Bool) (hf : f = false) (hb : beginsB r = true) (h1 : r.getD 1 0 = 63) (h3 : ([60, 47, 62] : List UInt8).isPrefixOf r = false) (h4 : ([60, 33, 45, 45] : List UInt8).isPrefixOf r = false) (hk : likeB doctypeF r = false) (w : World) (he : Env w) (hR : RdL w b s r) :
    Calls Tryz.prog 77 #[.pointer (some ⟨b, 0, none⟩), .bool f] w fun e w' => TokE w w' b s (otherL (oddR r)) e := by
  subst hf
  have hD := dataS_of he hR
  have hlt := hD.lt
  have KR0 := hide hD.kr
  have B0 := hide hD.bu
  have R0 := hide hD.rd
  have E0 := hide hD.en
  have hlen := hR.len
  have HRS := hide (rest_any s (by omega) b r _ hD.rd)
  have hMK := markup_any ⟨r.toArray⟩ (by rw [size_list, str_data]; omega)
  have HMK : Hid (∀ w, Calls Tryz.prog 104 #[.string ⟨r.toArray⟩] w fun e w' => e = .returned (.bool (beginsB r)) ∧ w' = w) := hide hMK
  clear hMK hD
  have hl3 : 2 ≤ r.length ∧ ([60] : List UInt8).isPrefixOf r = true := by
    obtain ⟨c, q, rfl, hc⟩ := begins_form r hb
    exact ⟨by simp, by simp [List.isPrefixOf]⟩
  have hsz : (⟨r.toArray⟩ : ByteArray).size = r.length := by rw [size_list, str_data]
  have hi1 : ∀ w, (Instr.index 9 (.string ⟨r.toArray⟩) (.int .i64 1)).run Tryz.prog w = .ok (.int .u8 ((r.getD 1 0).toNat : Int)) w := fun w => by
    have h := run_index_at ⟨r.toArray⟩ 1 1 rfl (by omega) w
    rw [getD_at] at h
    exact h
  have HL1 := hide (letter_any (r.getD 1 0).toNat)
  rw [hb] at HMK
  rw [h1] at hi1 HL1
  rw [show letterN (63 : UInt8).toNat = false by decide] at HL1
  have hc1 : ∀ w, (Instr.index 9 (.string ⟨r.toArray⟩) (.int .i64 1)).run Tryz.prog w = .ok (.int .u8 63) w := hi1
  have HL1b : Hid (∀ w, Calls Tryz.prog 106 #[.int .u8 63] w fun e w' => e = .returned (.bool false) ∧ w' = w) := HL1
  clear hi1 HL1
  have HS1 := hide (fun w (h : RdL w b s r) => skip_no s (by omega) b r ⟨#[60, 47, 62]⟩ h3 w h)
  have HS2 := hide (fun w (h : RdL w b s r) => skip_no s (by omega) b r ⟨#[60, 33, 45, 45]⟩ h4 w h)
  have hLK := like_any ⟨r.toArray⟩ ⟨#[60, 33, 100, 111, 99, 116, 121, 112, 101]⟩ (by omega)
  have HLK : Hid (∀ w, Calls Tryz.prog 109 #[.string ⟨r.toArray⟩, .string ⟨#[60, 33, 100, 111, 99, 116, 121, 112, 101]⟩] w fun e w' => e = .returned (.bool false) ∧ Below w.heap.size w w') := by
    refine hide fun w => ?_
    rw [← hk]
    exact hLK w
  clear hLK
  have HOD := hide (fun w (h : RdL w b s r) => odd_any s hs b h2 r hl3.2 w h)
  clear hR he hb hsz h1 hl3 h3 h4 hk
  generalize otherL (oddR r) = EE at *
  generalize (⟨r.toArray⟩ : ByteArray) = y at *
  go_enter Tryz.func77, Tryz.ntmps77
  go_wp2_with fail
  refine HRS.out.mono ?_
  rintro e w1 ⟨rfl, n1, rfl⟩
  have R1 := hide (R0.out.drewN n1)
  have KR1 := hide (KR0.out.drewN n1)
  have B1 := hide (B0.out.drewN n1)
  have E1 := hide (E0.out.drewN n1)
  clear R0 KR0 B0 E0 HRS
  go_wp2_with fail
  refine (HMK.out _).mono ?_
  rintro e w1 ⟨rfl, rfl⟩
  clear HMK
  go_wp2_with fail
  refine (HL1b.out _).mono ?_
  rintro e w1 ⟨rfl, rfl⟩
  go_wp2_with fail
  refine (HS1.out _ R1.out).mono ?_
  rintro e w2 ⟨rfl, h3, h4⟩
  have R2 := hide h3
  have KR2 := hide (Kept.but KR1.out h4 (by omega))
  have B2 := hide (B1.out.trans h4)
  have E2 := hide (E1.out.but h4 h2)
  clear h3 h4 KR1 B1 R1 E1
  go_wp2_with fail
  refine (HS2.out _ R2.out).mono ?_
  rintro e w3 ⟨rfl, h3, h4⟩
  have R3 := hide h3
  have KR3 := hide (Kept.but KR2.out h4 (by omega))
  have B3 := hide (B2.out.trans h4)
  have E3 := hide (E2.out.but h4 h2)
  clear h3 h4 KR2 B2 R2 E2
  go_wp2_with fail
  refine (HLK.out _).mono ?_
  rintro e w4 ⟨rfl, h4⟩
  have R4 := hide (R3.out.below h4)
  have KR4 := hide (Kept.below KR3.out h4)
  have B4 := hide (B3.out.trans (.of h4))
  have E4 := hide (E3.out.below h4)
  clear h4 KR3 B3 R3 E3
  go_wp2_with fail
  refine (HOD.out _ R4.out).mono ?_
  rintro e w5 ⟨h4, h3, sv, hA, hob, rfl⟩
  have hz2 := KR4.out.lt
  have R5 := hide h3
  have KR5 := hide (Kept.but KR4.out h4 (by omega))
  have B5 := hide (B4.out.trans h4)
  have HA := hide hA
  have HOB : Hid (∀ k, sv.ownBlock = some k → w.heap.size < k) := hide fun k hk => Nat.lt_of_lt_of_le hz2 (hob k hk)
  obtain ⟨sa, sc, rfl⟩ := isA_form hA
  clear h3 h4 KR4 E4 B4 R4 hA hob HOD
  obtain ⟨q0, q1, q2, q3, q4, qf⟩ := KR5.out.tok
  unfold tokV
  generalize hn1 : (⟨EE.1.name.toArray⟩ : ByteArray) = n1 at *
  generalize hn2 : (⟨EE.1.text.toArray⟩ : ByteArray) = n2 at *
  have HN1 := hide hn1
  have HN2 := hide hn2
  clear hn1 hn2
  go_wp2
  refine bodyPost_ret (v := tokV EE.1 (.slice sa EE.1.attrs.length sc)) ?_ rfl ?_
  · rw [results_cell_one rfl]
    go_simp
    unfold tokV
    rw [HN1.out, HN2.out]
  · have := tokE_end2 EE.1 (.slice sa EE.1.attrs.length sc) B5.out R5.out hlt HA.out HOB.out
    unfold put5 at this
    rw [HN1.out, HN2.out] at this
    exact this
theorem data_p8_47_true (s : ByteArray) (hs : s.size ≤ 20000) (b : Nat) (h2 : 2 ≤ b) (r : List UInt8) (f : Bool) (hf : f = true) (hb : beginsB r = true) (h1 : r.getD 1 0 = 47) (hl : letterN (r.getD 2 0).toNat = false) (h3 : ([60, 47, 62] : List UInt8).isPrefixOf r = false) (h4 : ([60, 33, 45, 45] : List UInt8).isPrefixOf r = false) (hk : likeB doctypeF r = false) (hx : cdataM.isPrefixOf r = false) (w : World) (he : Env w) (hR : RdL w b s r) :
    Calls Tryz.prog 77 #[.pointer (some ⟨b, 0, none⟩), .bool f] w fun e w' => TokE w w' b s (otherL (oddR r)) e := by
  subst hf
  have hD := dataS_of he hR
  have hlt := hD.lt
  have KR0 := hide hD.kr
  have B0 := hide hD.bu
  have R0 := hide hD.rd
  have E0 := hide hD.en
  have hlen := hR.len
  have HRS := hide (rest_any s (by omega) b r _ hD.rd)
  have hMK := markup_any ⟨r.toArray⟩ (by rw [size_list, str_data]; omega)
  have HMK : Hid (∀ w, Calls Tryz.prog 104 #[.string ⟨r.toArray⟩] w fun e w' => e = .returned (.bool (beginsB r)) ∧ w' = w) := hide hMK
  clear hMK hD
  have hl3 : 3 ≤ r.length ∧ ([60] : List UInt8).isPrefixOf r = true := by
    obtain ⟨c, q, rfl, hc⟩ := begins_form r hb
    have : c = 47 := h1
    subst this
    rcases hc with h | h | h | ⟨_, h⟩
    · exact absurd h (by decide)
    · exact absurd h (by decide)
    · exact absurd h (by decide)
    · cases q with
      | nil => exact absurd rfl h
      | cons d q => exact ⟨by simp, by simp [List.isPrefixOf]⟩
  have hsz : (⟨r.toArray⟩ : ByteArray).size = r.length := by rw [size_list, str_data]
  have hi1 : ∀ w, (Instr.index 9 (.string ⟨r.toArray⟩) (.int .i64 1)).run Tryz.prog w = .ok (.int .u8 ((r.getD 1 0).toNat : Int)) w := fun w => by
    have h := run_index_at ⟨r.toArray⟩ 1 1 rfl (by omega) w
    rw [getD_at] at h
    exact h
  have HL1 := hide (letter_any (r.getD 1 0).toNat)
  have hi2 : ∀ w, (Instr.index 9 (.string ⟨r.toArray⟩) (.int .i64 2)).run Tryz.prog w = .ok (.int .u8 ((r.getD 2 0).toNat : Int)) w := fun w => by
    have h := run_index_at ⟨r.toArray⟩ 2 2 rfl (by omega) w
    rw [getD_at] at h
    exact h
  have HL2 := hide (letter_any (r.getD 2 0).toNat)
  rw [hl] at HL2
  rw [hb] at HMK
  rw [h1] at hi1 HL1
  rw [show letterN (47 : UInt8).toNat = false by decide] at HL1
  have hc1 : ∀ w, (Instr.index 9 (.string ⟨r.toArray⟩) (.int .i64 1)).run Tryz.prog w = .ok (.int .u8 47) w := hi1
  have HL1b : Hid (∀ w, Calls Tryz.prog 106 #[.int .u8 47] w fun e w' => e = .returned (.bool false) ∧ w' = w) := HL1
  clear hi1 HL1
  have HS1 := hide (fun w (h : RdL w b s r) => skip_no s (by omega) b r ⟨#[60, 47, 62]⟩ h3 w h)
  have HS2 := hide (fun w (h : RdL w b s r) => skip_no s (by omega) b r ⟨#[60, 33, 45, 45]⟩ h4 w h)
  have hLK := like_any ⟨r.toArray⟩ ⟨#[60, 33, 100, 111, 99, 116, 121, 112, 101]⟩ (by omega)
  have HLK : Hid (∀ w, Calls Tryz.prog 109 #[.string ⟨r.toArray⟩, .string ⟨#[60, 33, 100, 111, 99, 116, 121, 112, 101]⟩] w fun e w' => e = .returned (.bool false) ∧ Below w.heap.size w w') := by
    refine hide fun w => ?_
    rw [← hk]
    exact hLK w
  clear hLK
  have HS3 := hide (fun w (h : RdL w b s r) => skip_no s (by omega) b r ⟨#[60, 33, 91, 67, 68, 65, 84, 65, 91]⟩ hx w h)
  have HOD := hide (fun w (h : RdL w b s r) => odd_any s hs b h2 r hl3.2 w h)
  clear hR he hb hsz h1 hl3 h3 h4 hk hx hl
  generalize otherL (oddR r) = EE at *
  generalize (r.getD 2 0).toNat = c2 at *
  generalize (⟨r.toArray⟩ : ByteArray) = y at *
  go_enter Tryz.func77, Tryz.ntmps77
  go_wp2_with fail
  refine HRS.out.mono ?_
  rintro e w1 ⟨rfl, n1, rfl⟩
  have R1 := hide (R0.out.drewN n1)
  have KR1 := hide (KR0.out.drewN n1)
  have B1 := hide (B0.out.drewN n1)
  have E1 := hide (E0.out.drewN n1)
  clear R0 KR0 B0 E0 HRS
  go_wp2_with fail
  refine (HMK.out _).mono ?_
  rintro e w1 ⟨rfl, rfl⟩
  clear HMK
  go_wp2_with fail
  refine (HL1b.out _).mono ?_
  rintro e w1 ⟨rfl, rfl⟩
  go_wp2_with fail
  refine (HL2.out _).mono ?_
  rintro e w1 ⟨rfl, rfl⟩
  go_wp2_with fail
  refine (HS1.out _ R1.out).mono ?_
  rintro e w2 ⟨rfl, h3, h4⟩
  have R2 := hide h3
  have KR2 := hide (Kept.but KR1.out h4 (by omega))
  have B2 := hide (B1.out.trans h4)
  have E2 := hide (E1.out.but h4 h2)
  clear h3 h4 KR1 B1 R1 E1
  go_wp2_with fail
  refine (HS2.out _ R2.out).mono ?_
  rintro e w3 ⟨rfl, h3, h4⟩
  have R3 := hide h3
  have KR3 := hide (Kept.but KR2.out h4 (by omega))
  have B3 := hide (B2.out.trans h4)
  have E3 := hide (E2.out.but h4 h2)
  clear h3 h4 KR2 B2 R2 E2
  go_wp2_with fail
  refine (HLK.out _).mono ?_
  rintro e w4 ⟨rfl, h4⟩
  have R4 := hide (R3.out.below h4)
  have KR4 := hide (Kept.below KR3.out h4)
  have B4 := hide (B3.out.trans (.of h4))
  have E4 := hide (E3.out.below h4)
  clear h4 KR3 B3 R3 E3
  go_wp2_with fail
  refine (HS3.out _ R4.out).mono ?_
  rintro e w5 ⟨rfl, h3, h4⟩
  have R5 := hide h3
  have KR5 := hide (Kept.but KR4.out h4 (by omega))
  have B5 := hide (B4.out.trans h4)
  have E5 := hide (E4.out.but h4 h2)
  clear h3 h4 KR4 B4 R4 E4
  go_wp2_with fail
  refine (HOD.out _ R5.out).mono ?_
  rintro e w6 ⟨h4, h3, sv, hA, hob, rfl⟩
  have hz2 := KR5.out.lt
  have R6 := hide h3
  have KR6 := hide (Kept.but KR5.out h4 (by omega))
  have B6 := hide (B5.out.trans h4)
  have HA := hide hA
  have HOB : Hid (∀ k, sv.ownBlock = some k → w.heap.size < k) := hide fun k hk => Nat.lt_of_lt_of_le hz2 (hob k hk)
  obtain ⟨sa, sc, rfl⟩ := isA_form hA
  clear h3 h4 KR5 E5 B5 R5 hA hob HOD
  obtain ⟨q0, q1, q2, q3, q4, qf⟩ := KR6.out.tok
  unfold tokV
  generalize hn1 : (⟨EE.1.name.toArray⟩ : ByteArray) = n1 at *
  generalize hn2 : (⟨EE.1.text.toArray⟩ : ByteArray) = n2 at *
  have HN1 := hide hn1
  have HN2 := hide hn2
  clear hn1 hn2
  go_wp2
  refine bodyPost_ret (v := tokV EE.1 (.slice sa EE.1.attrs.length sc)) ?_ rfl ?_
  · rw [results_cell_one rfl]
    go_simp
    unfold tokV
    rw [HN1.out, HN2.out]
  · have := tokE_end2 EE.1 (.slice sa EE.1.attrs.length sc) B6.out R6.out hlt HA.out HOB.out
    unfold put5 at this
    rw [HN1.out, HN2.out] at this
    exact this
theorem data_p8_47_false (s : ByteArray) (hs : s.size ≤ 20000) (b : Nat) (h2 : 2 ≤ b) (r : List UInt8) (f : Bool) (hf : f = false) (hb : beginsB r = true) (h1 : r.getD 1 0 = 47) (hl : letterN (r.getD 2 0).toNat = false) (h3 : ([60, 47, 62] : List UInt8).isPrefixOf r = false) (h4 : ([60, 33, 45, 45] : List UInt8).isPrefixOf r = false) (hk : likeB doctypeF r = false) (w : World) (he : Env w) (hR : RdL w b s r) :
    Calls Tryz.prog 77 #[.pointer (some ⟨b, 0, none⟩), .bool f] w fun e w' => TokE w w' b s (otherL (oddR r)) e := by
  subst hf
  have hD := dataS_of he hR
  have hlt := hD.lt
  have KR0 := hide hD.kr
  have B0 := hide hD.bu
  have R0 := hide hD.rd
  have E0 := hide hD.en
  have hlen := hR.len
  have HRS := hide (rest_any s (by omega) b r _ hD.rd)
  have hMK := markup_any ⟨r.toArray⟩ (by rw [size_list, str_data]; omega)
  have HMK : Hid (∀ w, Calls Tryz.prog 104 #[.string ⟨r.toArray⟩] w fun e w' => e = .returned (.bool (beginsB r)) ∧ w' = w) := hide hMK
  clear hMK hD
  have hl3 : 3 ≤ r.length ∧ ([60] : List UInt8).isPrefixOf r = true := by
    obtain ⟨c, q, rfl, hc⟩ := begins_form r hb
    have : c = 47 := h1
    subst this
    rcases hc with h | h | h | ⟨_, h⟩
    · exact absurd h (by decide)
    · exact absurd h (by decide)
    · exact absurd h (by decide)
    · cases q with
      | nil => exact absurd rfl h
      | cons d q => exact ⟨by simp, by simp [List.isPrefixOf]⟩
  have hsz : (⟨r.toArray⟩ : ByteArray).size = r.length := by rw [size_list, str_data]
  have hi1 : ∀ w, (Instr.index 9 (.string ⟨r.toArray⟩) (.int .i64 1)).run Tryz.prog w = .ok (.int .u8 ((r.getD 1 0).toNat : Int)) w := fun w => by
    have h := run_index_at ⟨r.toArray⟩ 1 1 rfl (by omega) w
    rw [getD_at] at h
    exact h
  have HL1 := hide (letter_any (r.getD 1 0).toNat)
  have hi2 : ∀ w, (Instr.index 9 (.string ⟨r.toArray⟩) (.int .i64 2)).run Tryz.prog w = .ok (.int .u8 ((r.getD 2 0).toNat : Int)) w := fun w => by
    have h := run_index_at ⟨r.toArray⟩ 2 2 rfl (by omega) w
    rw [getD_at] at h
    exact h
  have HL2 := hide (letter_any (r.getD 2 0).toNat)
  rw [hl] at HL2
  rw [hb] at HMK
  rw [h1] at hi1 HL1
  rw [show letterN (47 : UInt8).toNat = false by decide] at HL1
  have hc1 : ∀ w, (Instr.index 9 (.string ⟨r.toArray⟩) (.int .i64 1)).run Tryz.prog w = .ok (.int .u8 47) w := hi1
  have HL1b : Hid (∀ w, Calls Tryz.prog 106 #[.int .u8 47] w fun e w' => e = .returned (.bool false) ∧ w' = w) := HL1
  clear hi1 HL1
  have HS1 := hide (fun w (h : RdL w b s r) => skip_no s (by omega) b r ⟨#[60, 47, 62]⟩ h3 w h)
  have HS2 := hide (fun w (h : RdL w b s r) => skip_no s (by omega) b r ⟨#[60, 33, 45, 45]⟩ h4 w h)
  have hLK := like_any ⟨r.toArray⟩ ⟨#[60, 33, 100, 111, 99, 116, 121, 112, 101]⟩ (by omega)
  have HLK : Hid (∀ w, Calls Tryz.prog 109 #[.string ⟨r.toArray⟩, .string ⟨#[60, 33, 100, 111, 99, 116, 121, 112, 101]⟩] w fun e w' => e = .returned (.bool false) ∧ Below w.heap.size w w') := by
    refine hide fun w => ?_
    rw [← hk]
    exact hLK w
  clear hLK
  have HOD := hide (fun w (h : RdL w b s r) => odd_any s hs b h2 r hl3.2 w h)
  clear hR he hb hsz h1 hl3 h3 h4 hk hl
  generalize otherL (oddR r) = EE at *
  generalize (r.getD 2 0).toNat = c2 at *
  generalize (⟨r.toArray⟩ : ByteArray) = y at *
  go_enter Tryz.func77, Tryz.ntmps77
  go_wp2_with fail
  refine HRS.out.mono ?_
  rintro e w1 ⟨rfl, n1, rfl⟩
  have R1 := hide (R0.out.drewN n1)
  have KR1 := hide (KR0.out.drewN n1)
  have B1 := hide (B0.out.drewN n1)
  have E1 := hide (E0.out.drewN n1)
  clear R0 KR0 B0 E0 HRS
  go_wp2_with fail
  refine (HMK.out _).mono ?_
  rintro e w1 ⟨rfl, rfl⟩
  clear HMK
  go_wp2_with fail
  refine (HL1b.out _).mono ?_
  rintro e w1 ⟨rfl, rfl⟩
  go_wp2_with fail
  refine (HL2.out _).mono ?_
  rintro e w1 ⟨rfl, rfl⟩
  go_wp2_with fail
  refine (HS1.out _ R1.out).mono ?_
  rintro e w2 ⟨rfl, h3, h4⟩
  have R2 := hide h3
  have KR2 := hide (Kept.but KR1.out h4 (by omega))
  have B2 := hide (B1.out.trans h4)
  have E2 := hide (E1.out.but h4 h2)
  clear h3 h4 KR1 B1 R1 E1
  go_wp2_with fail
  refine (HS2.out _ R2.out).mono ?_
  rintro e w3 ⟨rfl, h3, h4⟩
  have R3 := hide h3
  have KR3 := hide (Kept.but KR2.out h4 (by omega))
  have B3 := hide (B2.out.trans h4)
  have E3 := hide (E2.out.but h4 h2)
  clear h3 h4 KR2 B2 R2 E2
  go_wp2_with fail
  refine (HLK.out _).mono ?_
  rintro e w4 ⟨rfl, h4⟩
  have R4 := hide (R3.out.below h4)
  have KR4 := hide (Kept.below KR3.out h4)
  have B4 := hide (B3.out.trans (.of h4))
  have E4 := hide (E3.out.below h4)
  clear h4 KR3 B3 R3 E3
  go_wp2_with fail
  refine (HOD.out _ R4.out).mono ?_
  rintro e w5 ⟨h4, h3, sv, hA, hob, rfl⟩
  have hz2 := KR4.out.lt
  have R5 := hide h3
  have KR5 := hide (Kept.but KR4.out h4 (by omega))
  have B5 := hide (B4.out.trans h4)
  have HA := hide hA
  have HOB : Hid (∀ k, sv.ownBlock = some k → w.heap.size < k) := hide fun k hk => Nat.lt_of_lt_of_le hz2 (hob k hk)
  obtain ⟨sa, sc, rfl⟩ := isA_form hA
  clear h3 h4 KR4 E4 B4 R4 hA hob HOD
  obtain ⟨q0, q1, q2, q3, q4, qf⟩ := KR5.out.tok
  unfold tokV
  generalize hn1 : (⟨EE.1.name.toArray⟩ : ByteArray) = n1 at *
  generalize hn2 : (⟨EE.1.text.toArray⟩ : ByteArray) = n2 at *
  have HN1 := hide hn1
  have HN2 := hide hn2
  clear hn1 hn2
  go_wp2
  refine bodyPost_ret (v := tokV EE.1 (.slice sa EE.1.attrs.length sc)) ?_ rfl ?_
  · rw [results_cell_one rfl]
    go_simp
    unfold tokV
    rw [HN1.out, HN2.out]
  · have := tokE_end2 EE.1 (.slice sa EE.1.attrs.length sc) B5.out R5.out hlt HA.out HOB.out
    unfold put5 at this
    rw [HN1.out, HN2.out] at this
    exact this
end Go.Proofs.YtpppdfjdngmaoaaGreatDoor.S4
