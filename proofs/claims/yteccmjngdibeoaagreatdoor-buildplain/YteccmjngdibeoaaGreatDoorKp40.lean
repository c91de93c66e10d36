import Derived.Test.YteccmjngdibeoaaGreatDoorKp39
set_option linter.unusedVariables false
set_option linter.unusedSimpArgs false
set_option maxRecDepth 4000
namespace Go.Proofs.YteccmjngdibeoaaGreatDoor.S4
open Go.RowKit
theorem tokE_end {w w3 : World} {b : Nat} {s : ByteArray} {V : List UInt8} (t : Tok) (hb : But b w w3) (hr : RdL w3 b s V) (hl : b < w.heap.size) (ha : t.attrs = []) : TokE w (put5 w3 w.heap.size (t, .slice none 0 0)) b s (t, V) (.returned (tokV t (.slice none 0 0))) :=
  ⟨hb.put5 (Nat.le_refl _) _, hr.put5 (by omega) _, .slice none 0 0, .inl ⟨rfl, ha⟩, (fun k hk => by cases hk), rfl⟩
theorem tokE_end2 {w w3 : World} {b : Nat} {s : ByteArray} {V : List UInt8} (t : Tok) (sv : Value) (hb : But b w w3) (hr : RdL w3 b s V) (hl : b < w.heap.size) (hA : IsA w3 sv t.attrs) (ho : ∀ k, sv.ownBlock = some k → w.heap.size < k) : TokE w (put5 w3 w.heap.size (t, sv)) b s (t, V) (.returned (tokV t sv)) :=
  ⟨hb.put5 (Nat.le_refl _) _, hr.put5 (by omega) _, sv, hA.put5 w.heap.size (fun k hk => by have := ho k hk; omega) _, fun k hk => Nat.le_of_lt (ho k hk), rfl⟩
theorem TokE.alloc {w W : World} {b : Nat} {s : ByteArray} {R : Tok × List UInt8} {e : Ending} (h : TokE w W b s R e) (o : Obj) : TokE w (W.alloc o) b s R e := by
  obtain ⟨h1, h2, sv, h3, h4, h5⟩ := h
  exact ⟨h1.alloc o, h2.below (below_alloc W o), sv, h3.alloc o, h4, h5⟩
theorem Kept.tok {w : World} {k : Nat} (h : Kept w k tok0) : w.cell? ⟨k, 0, none⟩ = some (.int .i64 0) ∧ w.cell? ⟨k, 1, none⟩ = some (.string ⟨#[]⟩) ∧ w.cell? ⟨k, 2, none⟩ = some (.slice none 0 0) ∧ w.cell? ⟨k, 3, none⟩ = some (.bool false) ∧ w.cell? ⟨k, 4, none⟩ = some (.string ⟨#[]⟩) ∧ ∀ o, w.frozen? ⟨k, o, none⟩ = false :=
  ⟨h.1 0, h.1 1, h.1 2, h.1 3, h.1 4, h.2⟩
theorem take_to (s : ByteArray) (hs : s.size ≤ 100000) (b p q : Nat) (hq : q ≤ s.size) (hpq : p ≤ q) (w : World) (hR : RdP w b s p) :
    Calls Tryz.prog 108 #[.pointer (some ⟨b, 0, none⟩), .int .i64 (q : Int)] w fun e w' => e = .returned (.string (s.extract p q)) ∧ RdP w' b s q ∧ But b w w' := by
  refine (take_any s hs b p q hq hpq w hR).mono ?_
  rintro e w1 ⟨rfl, rfl⟩
  exact ⟨rfl, hR.set q, (But.refl b w).setCell 1 _⟩
set_option maxHeartbeats 2000000 in
theorem plainText_any (s : ByteArray) (hs : s.size ≤ 20000) (b : Nat) (h2 : 2 ≤ b) (r : List UInt8) (w : World) (he : Env w) (hR : RdL w b s r) :
    Calls Tryz.prog 172 #[.pointer (some ⟨b, 0, none⟩)] w fun e w' => TokE w w' b s ({ kind := 1, text := decL false (spanT r).1 }, (spanT r).2) e := by
  have hlt := hR.lt
  have KR := hide (Kept.new w tok0 64)
  have HB0 := hide ((But.refl b w).alloc (.cells tok0.toArray 64))
  have HE := hide (he.alloc (.cells tok0.toArray 64))
  have hlen := hR.len
  obtain ⟨p, hp, hd, hPw⟩ := hR
  have hP := hPw.below (below_alloc w (.cells tok0.toArray 64))
  have hap := spanT_app r
  have c0 := hPw.c0
  have c1 := hPw.c1
  have HT := hide (fun q hq hpq => take_to s (by omega) b p q hq hpq _ hP)
  have hMK := fun k (hk : k ≤ s.size) => markup_any ⟨(s.data.toList.drop k).toArray⟩ (by rw [size_list, str_data, List.length_drop, ← size_list]; omega)
  have HMK : Hid (∀ k, k ≤ s.size → ∀ w, Calls Tryz.prog 171 #[.string (s.extract k s.size)] w fun e w' => e = .returned (.bool (beginsB (s.data.toList.drop k))) ∧ w' = w) := by
    refine hide fun k hk w => ?_
    rw [rest_is s k hk]
    exact hMK k hk w
  have hlT : (spanT r).1.length ≤ s.size := by
    have h1 := congrArg List.length hap
    rw [List.length_append] at h1
    omega
  have hD := fun w ho => decode_any ⟨(spanT r).1.toArray⟩ (by rw [size_list, str_data]; omega) false w ho
  rw [str_data] at hD
  have HD := hide hD
  have HP := hide hP
  generalize hV : (spanT r).2 = V at *
  generalize (spanT r).1 = T at *
  have HV : Hid ((spanT (s.data.toList.drop p)).2 = V) := hide (by rw [hd]; exact hV)
  have HCUT : Hid (∀ k, p ≤ k → k ≤ s.size → s.data.toList.drop k = V → s.extract p k = ⟨T.toArray⟩) := hide fun k h1 h2 h3 => cutP s p k h1 h2 T V (by rw [hd]; exact hap.symm) h3
  clear hMK hD hV hap hd he hlT hP hPw
  generalize decL false T = D at *
  go_enter Tryz.func172, Tryz.ntmps172
  go_wp2
  go_loop [3] (fun i => ∃ k : Nat, p ≤ k ∧ k ≤ s.size ∧ i = .int .i64 k ∧ Hid ((spanT (s.data.toList.drop k)).2 = V)) (fun i => s.size - (intOf i).toNat)
  case atStart => exact ⟨p, Nat.le_refl _, hp, rfl, HV⟩
  case round =>
    obtain ⟨k, hpk, hk, rfl, HR⟩ := hrel
    by_cases hlt2 : k < s.size
    · have hlt3 : (k : Int) < s.size := by omega
      have hst := spanT_step s k hlt2
      have HQ := hide (HMK.out k hk)
      cases hB : beginsB (s.data.toList.drop k) with
      | false =>
        rw [hB] at HQ hst
        have HR2 : Hid ((spanT (s.data.toList.drop (k + 1))).2 = V) := hide (by rw [← HR.out, hst]; rfl)
        clear hB hst HR
        go_wp2_with fail
        refine (HQ.out _).mono ?_
        rintro e w1 ⟨rfl, rfl⟩
        go_wp2
        go_round
        case rel => exact ⟨k + 1, by omega, by omega, by go_num, HR2⟩
        case measure => simp [intOf]; omega
      | true =>
        rw [hB] at HQ hst
        have HR2 : Hid (s.data.toList.drop k = V) := hide (by rw [← HR.out, hst]; rfl)
        have HC2 := hide (HCUT.out k hpk hk HR2.out)
        clear hB hst HR
        go_wp2_with fail
        refine (HQ.out _).mono ?_
        rintro e w1 ⟨rfl, rfl⟩
        go_wp2_with fail
        refine (HT.out k hk hpk).mono ?_
        rintro e w1 ⟨rfl, h3, h4⟩
        have R1 : Hid (RdL w1 b s V) := hide ⟨k, hk, HR2.out, h3⟩
        have KR1 := hide (Kept.but KR.out h4 (by omega))
        have E1 := hide (HE.out.but h4 h2)
        have B1 := hide (HB0.out.trans h4)
        clear h3 h4 KR HE HB0 HT c0 c1
        rw [HC2.out]
        generalize (⟨T.toArray⟩ : ByteArray) = x at *
        go_wp2_with fail
        refine (HD.out _ E1.out.1).mono ?_
        rintro e w2 ⟨rfl, h4⟩
        have R2 := hide (R1.out.below h4)
        have KR2 := hide (Kept.below KR1.out h4)
        have B2 := hide (B1.out.trans (.of h4))
        clear h4 R1 KR1 B1 E1 HD
        have HTT := hide (textToken_any ⟨D.toArray⟩)
        generalize hdx : (⟨D.toArray⟩ : ByteArray) = dx at *
        have HDX := hide hdx
        clear hdx
        go_wp2_with fail
        refine (HTT.out _).mono ?_
        rintro e w3 ⟨rfl, h4⟩
        have R3 := hide (R2.out.below h4)
        have KR3 := hide (Kept.below KR2.out h4)
        have B3 := hide (B2.out.trans (.of h4))
        clear h4 R2 KR2 B2 HTT
        obtain ⟨q0, q1, q2, q3, q4, qf⟩ := KR3.out.tok
        go_wp2
        refine bodyPost_ret (v := tokV { kind := 1, text := D } (.slice none 0 0)) ?_ rfl ?_
        · rw [results_cell_one rfl]
          go_simp
          rw [← HDX.out]
          rfl
        · have := tokE_end { kind := 1, text := D } B3.out R3.out hlt rfl
          unfold put5 at this
          rw [HDX.out] at this
          exact this
    · have hlt3 : ¬ (k : Int) < s.size := by omega
      have HR2 : Hid (s.data.toList.drop k = V) := hide (by rw [← HR.out, drop_end s k (by omega)]; rfl)
      have HC2 := hide (HCUT.out k hpk hk HR2.out)
      clear HR
      go_wp2_with fail
      refine (HT.out k hk hpk).mono ?_
      rintro e w1 ⟨rfl, h3, h4⟩
      have R1 : Hid (RdL w1 b s V) := hide ⟨k, hk, HR2.out, h3⟩
      have KR1 := hide (Kept.but KR.out h4 (by omega))
      have E1 := hide (HE.out.but h4 h2)
      have B1 := hide (HB0.out.trans h4)
      clear h3 h4 KR HE HB0 HT c0 c1
      rw [HC2.out]
      generalize (⟨T.toArray⟩ : ByteArray) = x at *
      go_wp2_with fail
      refine (HD.out _ E1.out.1).mono ?_
      rintro e w2 ⟨rfl, h4⟩
      have R2 := hide (R1.out.below h4)
      have KR2 := hide (Kept.below KR1.out h4)
      have B2 := hide (B1.out.trans (.of h4))
      clear h4 R1 KR1 B1 E1 HD
      have HTT := hide (textToken_any ⟨D.toArray⟩)
      generalize hdx : (⟨D.toArray⟩ : ByteArray) = dx at *
      have HDX := hide hdx
      clear hdx
      go_wp2_with fail
      refine (HTT.out _).mono ?_
      rintro e w3 ⟨rfl, h4⟩
      have R3 := hide (R2.out.below h4)
      have KR3 := hide (Kept.below KR2.out h4)
      have B3 := hide (B2.out.trans (.of h4))
      clear h4 R2 KR2 B2 HTT
      obtain ⟨q0, q1, q2, q3, q4, qf⟩ := KR3.out.tok
      go_wp2
      refine bodyPost_ret (v := tokV { kind := 1, text := D } (.slice none 0 0)) ?_ rfl ?_
      · rw [results_cell_one rfl]
        go_simp
        rw [← HDX.out]
        rfl
      · have := tokE_end { kind := 1, text := D } B3.out R3.out hlt rfl
        unfold put5 at this
        rw [HDX.out] at this
        exact this
set_option maxHeartbeats 2000000 in
theorem stop_pany (s : ByteArray) (hs : s.size ≤ 20000) (b : Nat) (h2 : 2 ≤ b) (r : List UInt8) (w : World) (he : Env w) (hR : RdL w b s r) :
    Calls Tryz.prog 169 #[.pointer (some ⟨b, 0, none⟩)] w fun e w' => TokE w w' b s (endedL r true) e := by
  have hlt := hR.lt
  have KR := hide (Kept.new w tok0 64)
  have HB0 := hide ((But.refl b w).alloc (.cells tok0.toArray 64))
  have hE : endedL r true = match tailT [] (r.dropWhile nameB) with
      | none => ({ kind := 0 }, [])
      | some (aa, cl, V) => ({ kind := 3, name := lowerL (r.takeWhile nameB) }, V) := by
    unfold endedL
    rw [tagL_tail]
    cases tailT [] (r.dropWhile nameB) <;> rfl
  have hS := start_any s hs b h2 r _ (he.alloc (.cells tok0.toArray 64)) (hR.below (below_alloc w (.cells tok0.toArray 64)))
  rw [hE]
  clear hE hR he
  generalize lowerL (r.takeWhile nameB) = NL at *
  generalize tailT [] (r.dropWhile nameB) = RR at *
  have HS := hide hS
  clear hS
  cases RR with
  | none =>
    go_enter Tryz.func169, Tryz.ntmps169
    go_wp2_with fail
    refine HS.out.mono ?_
    rintro e w1 ⟨h4, rfl, h3⟩
    have hK := Kept.but KR.out h4 (by omega)
    have hz1 : w.heap.size < w1.heap.size := hK.lt
    obtain ⟨q0, q1, q2, q3, q4, qf⟩ := hK.tok
    have R1 := hide h3
    have B1 := hide (HB0.out.trans h4)
    clear h3 h4 KR HB0 HS hK
    unfold tokV
    go_wp2
    refine bodyPost_ret (v := tokV { kind := 0 } (.slice none 0 0)) ?_ rfl ?_
    · rw [results_cell_one rfl]
      go_simp
      rfl
    · exact (tokE_end { kind := 0 } B1.out R1.out hlt rfl).alloc _
  | some x =>
    obtain ⟨aa, cl, V⟩ := x
    go_enter Tryz.func169, Tryz.ntmps169
    go_wp2_with fail
    refine HS.out.mono ?_
    rintro e w1 ⟨h4, sv, hA, hob, rfl, h3⟩
    have hK := Kept.but KR.out h4 (by omega)
    have hz1 : w.heap.size < w1.heap.size := hK.lt
    obtain ⟨q0, q1, q2, q3, q4, qf⟩ := hK.tok
    have R1 := hide h3
    have B1 := hide (HB0.out.trans h4)
    obtain ⟨sa, sc, rfl⟩ := isA_form hA
    clear h3 h4 KR HB0 HS hK hob hA
    unfold tokV
    generalize hnm : (⟨NL.toArray⟩ : ByteArray) = nm at *
    have HNM := hide hnm
    clear hnm
    go_wp2
    refine bodyPost_ret (v := tokV { kind := 3, name := NL } (.slice none 0 0)) ?_ rfl ?_
    · rw [results_cell_one rfl]
      go_simp
      rw [← HNM.out]
      rfl
    · rw [← HNM.out]
      exact (tokE_end { kind := 3, name := NL } B1.out R1.out hlt rfl).alloc _
theorem start_pany (s : ByteArray) (hs : s.size ≤ 20000) (b : Nat) (h2 : 2 ≤ b) (r : List UInt8) (w : World) (he : Env w) (hR : RdL w b s r) :
    Calls Tryz.prog 173 #[.pointer (some ⟨b, 0, none⟩)] w fun e w' => TokE w w' b s (endedL r false) e := by
  have hE : endedL r false = match tailT [] (r.dropWhile nameB) with
      | none => ({ kind := 0 }, [])
      | some (aa, cl, V) => ({ kind := 2, name := lowerL (r.takeWhile nameB), attrs := aa, closed := cl }, V) := by
    unfold endedL
    rw [tagL_tail]
    cases tailT [] (r.dropWhile nameB) <;> rfl
  rw [hE]
  refine (start_any s hs b h2 r w he hR).mono ?_
  intro e w1 h
  generalize tailT [] (r.dropWhile nameB) = RR at *
  cases RR with
  | none =>
    obtain ⟨h1, rfl, h3⟩ := h
    exact ⟨h1, h3, .slice none 0 0, .inl ⟨rfl, rfl⟩, (fun k hk => by cases hk), rfl⟩
  | some x =>
    obtain ⟨aa, cl, V⟩ := x
    obtain ⟨h1, sv, hA, hob, rfl, h3⟩ := h
    exact ⟨h1, h3, sv, hA, hob, rfl⟩
theorem skip_yes (s : ByteArray) (hs : s.size ≤ 100000) (b : Nat) (r : List UInt8) (t : ByteArray) (h : t.data.toList.isPrefixOf r = true) (w : World) (hR : RdL w b s r) :
    Calls Tryz.prog 168 #[.pointer (some ⟨b, 0, none⟩), .string t] w fun e w' => e = .returned (.bool true) ∧ RdL w' b s (r.drop t.data.toList.length) ∧ But b w w' := by
  have := skip_any s hs b r t w hR
  unfold skipL at this
  rw [h] at this
  exact this
theorem skip_no (s : ByteArray) (hs : s.size ≤ 100000) (b : Nat) (r : List UInt8) (t : ByteArray) (h : t.data.toList.isPrefixOf r = false) (w : World) (hR : RdL w b s r) :
    Calls Tryz.prog 168 #[.pointer (some ⟨b, 0, none⟩), .string t] w fun e w' => e = .returned (.bool false) ∧ RdL w' b s r ∧ But b w w' := by
  have := skip_any s hs b r t w hR
  unfold skipL at this
  rw [h] at this
  exact this
end Go.Proofs.YteccmjngdibeoaaGreatDoor.S4
set_option linter.unusedVariables false
set_option linter.unusedSimpArgs false
set_option maxRecDepth 4000
namespace Go.Proofs.YteccmjngdibeoaaGreatDoor.S4
open Go.RowKit
set_option maxHeartbeats 2000000 in
theorem odd_any (s : ByteArray) (hs : s.size ≤ 20000) (b : Nat) (h2 : 2 ≤ b) (r : List UInt8) (h60 : ([60] : List UInt8).isPrefixOf r = true) (w : World) (hR : RdL w b s r) :
    Calls Tryz.prog 178 #[.pointer (some ⟨b, 0, none⟩)] w fun e w' => TokE w w' b s (otherL (oddR r)) e := by
  have hlt := hR.lt
  have KR0 := hide (Kept.new w tok0 64)
  have B0 := hide ((But.refl b w).alloc (.cells tok0.toArray 64))
  have R0 := hide (hR.below (below_alloc w (.cells tok0.toArray 64)))
  have hUP := fun r' w (h : RdL w b s r') => upToG_any s (by omega) b r' w h
  unfold otherL oddR
  cases h33 : ([60, 33] : List UInt8).isPrefixOf r with
  | true =>
    rw [if_pos rfl]
    have HK0 := hide (fun w (h : RdL w b s r) => skip_yes s (by omega) b r ⟨#[60, 33]⟩ h33 w h)
    have HUP := hide (hUP (r.drop 2))
    clear hUP hR
    have HK0b : Hid (∀ w, RdL w b s r → Calls Tryz.prog 168 #[.pointer (some ⟨b, 0, none⟩), .string ⟨#[60, 33]⟩] w fun e w' => e = .returned (.bool true) ∧ RdL w' b s (r.drop 2) ∧ But b w w') := HK0
    generalize r.drop 2 = V at *
    generalize (findR [62] V).1 = X at *
    generalize (findR [62] V).2.drop 1 = V2 at *
    have HCT := hide (commentToken_any ⟨X.toArray⟩)
    generalize hx : (⟨X.toArray⟩ : ByteArray) = x at *
    have HX := hide hx
    clear hx
    go_enter Tryz.func178, Tryz.ntmps178
    go_wp2_with fail
    refine (HK0b.out _ R0.out).mono ?_
    rintro e w1 ⟨rfl, h3, h4⟩
    have R1 := hide h3
    have KR1 := hide (Kept.but KR0.out h4 (by omega))
    have B1 := hide (B0.out.trans h4)
    clear h3 h4 KR0 B0 R0
    go_wp2_with fail
    refine (HUP.out _ R1.out).mono ?_
    rintro e w2 ⟨rfl, h3, h4⟩
    have R2 := hide h3
    have KR2 := hide (Kept.but KR1.out h4 (by omega))
    have B2 := hide (B1.out.trans h4)
    clear h3 h4 KR1 B1 R1
    go_wp2_with fail
    refine (HCT.out _).mono ?_
    rintro e w3 ⟨rfl, h4⟩
    have R3 := hide (R2.out.below h4)
    have KR3 := hide (Kept.below KR2.out h4)
    have B3 := hide (B2.out.trans (.of h4))
    clear h4 KR2 B2 R2
    obtain ⟨q0, q1, q2, q3, q4, qf⟩ := KR3.out.tok
    go_wp2
    refine bodyPost_ret (v := tokV { kind := 4, text := X } (.slice none 0 0)) ?_ rfl ?_
    · rw [results_cell_one rfl]
      go_simp
      rw [← HX.out]
      rfl
    · rw [← HX.out]
      exact tokE_end { kind := 4, text := X } B3.out R3.out hlt rfl
  | false =>
    rw [if_neg (by decide)]
    cases h47 : ([60, 47] : List UInt8).isPrefixOf r with
    | true =>
      rw [if_pos rfl]
      have HK0 := hide (fun w (h : RdL w b s r) => skip_no s (by omega) b r ⟨#[60, 33]⟩ h33 w h)
      have HK1 := hide (fun w (h : RdL w b s r) => skip_yes s (by omega) b r ⟨#[60, 47]⟩ h47 w h)
      have HUP := hide (hUP (r.drop 2))
      clear hUP hR
      have HK1b : Hid (∀ w, RdL w b s r → Calls Tryz.prog 168 #[.pointer (some ⟨b, 0, none⟩), .string ⟨#[60, 47]⟩] w fun e w' => e = .returned (.bool true) ∧ RdL w' b s (r.drop 2) ∧ But b w w') := HK1
      generalize r.drop 2 = V at *
      generalize (findR [62] V).1 = X at *
      generalize (findR [62] V).2.drop 1 = V2 at *
      have HCT := hide (commentToken_any ⟨X.toArray⟩)
      generalize hx : (⟨X.toArray⟩ : ByteArray) = x at *
      have HX := hide hx
      clear hx
      go_enter Tryz.func178, Tryz.ntmps178
      go_wp2_with fail
      refine (HK0.out _ R0.out).mono ?_
      rintro e w1 ⟨rfl, h3, h4⟩
      have R1 := hide h3
      have KR1 := hide (Kept.but KR0.out h4 (by omega))
      have B1 := hide (B0.out.trans h4)
      clear h3 h4 KR0 B0 R0
      go_wp2_with fail
      refine (HK1b.out _ R1.out).mono ?_
      rintro e w2 ⟨rfl, h3, h4⟩
      have R2 := hide h3
      have KR2 := hide (Kept.but KR1.out h4 (by omega))
      have B2 := hide (B1.out.trans h4)
      clear h3 h4 KR1 B1 R1
      go_wp2_with fail
      refine (HUP.out _ R2.out).mono ?_
      rintro e w3 ⟨rfl, h3, h4⟩
      have R3 := hide h3
      have KR3 := hide (Kept.but KR2.out h4 (by omega))
      have B3 := hide (B2.out.trans h4)
      clear h3 h4 KR2 B2 R2
      go_wp2_with fail
      refine (HCT.out _).mono ?_
      rintro e w4 ⟨rfl, h4⟩
      have R4 := hide (R3.out.below h4)
      have KR4 := hide (Kept.below KR3.out h4)
      have B4 := hide (B3.out.trans (.of h4))
      clear h4 KR3 B3 R3
      obtain ⟨q0, q1, q2, q3, q4, qf⟩ := KR4.out.tok
      go_wp2
      refine bodyPost_ret (v := tokV { kind := 4, text := X } (.slice none 0 0)) ?_ rfl ?_
      · rw [results_cell_one rfl]
        go_simp
        rw [← HX.out]
        rfl
      · rw [← HX.out]
        exact tokE_end { kind := 4, text := X } B4.out R4.out hlt rfl
    | false =>
      rw [if_neg (by decide), if_pos h60]
      have HK0 := hide (fun w (h : RdL w b s r) => skip_no s (by omega) b r ⟨#[60, 33]⟩ h33 w h)
      have HK1 := hide (fun w (h : RdL w b s r) => skip_no s (by omega) b r ⟨#[60, 47]⟩ h47 w h)
      have HK2 := hide (fun w (h : RdL w b s r) => skip_yes s (by omega) b r ⟨#[60]⟩ h60 w h)
      have HUP := hide (hUP (r.drop 1))
      clear hUP hR
      have HK2b : Hid (∀ w, RdL w b s r → Calls Tryz.prog 168 #[.pointer (some ⟨b, 0, none⟩), .string ⟨#[60]⟩] w fun e w' => e = .returned (.bool true) ∧ RdL w' b s (r.drop 1) ∧ But b w w') := HK2
      generalize r.drop 1 = V at *
      generalize (findR [62] V).1 = X at *
      generalize (findR [62] V).2.drop 1 = V2 at *
      have HCT := hide (commentToken_any ⟨X.toArray⟩)
      generalize hx : (⟨X.toArray⟩ : ByteArray) = x at *
      have HX := hide hx
      clear hx
      go_enter Tryz.func178, Tryz.ntmps178
      go_wp2_with fail
      refine (HK0.out _ R0.out).mono ?_
      rintro e w1 ⟨rfl, h3, h4⟩
      have R1 := hide h3
      have KR1 := hide (Kept.but KR0.out h4 (by omega))
      have B1 := hide (B0.out.trans h4)
      clear h3 h4 KR0 B0 R0
      go_wp2_with fail
      refine (HK1.out _ R1.out).mono ?_
      rintro e w2 ⟨rfl, h3, h4⟩
      have R2 := hide h3
      have KR2 := hide (Kept.but KR1.out h4 (by omega))
      have B2 := hide (B1.out.trans h4)
      clear h3 h4 KR1 B1 R1
      go_wp2_with fail
      refine (HK2b.out _ R2.out).mono ?_
      rintro e w3 ⟨rfl, h3, h4⟩
      have R3 := hide h3
      have KR3 := hide (Kept.but KR2.out h4 (by omega))
      have B3 := hide (B2.out.trans h4)
      clear h3 h4 KR2 B2 R2
      go_wp2_with fail
      refine (HUP.out _ R3.out).mono ?_
      rintro e w4 ⟨rfl, h3, h4⟩
      have R4 := hide h3
      have KR4 := hide (Kept.but KR3.out h4 (by omega))
      have B4 := hide (B3.out.trans h4)
      clear h3 h4 KR3 B3 R3
      go_wp2_with fail
      refine (HCT.out _).mono ?_
      rintro e w5 ⟨rfl, h4⟩
      have R5 := hide (R4.out.below h4)
      have KR5 := hide (Kept.below KR4.out h4)
      have B5 := hide (B4.out.trans (.of h4))
      clear h4 KR4 B4 R4
      obtain ⟨q0, q1, q2, q3, q4, qf⟩ := KR5.out.tok
      go_wp2
      refine bodyPost_ret (v := tokV { kind := 4, text := X } (.slice none 0 0)) ?_ rfl ?_
      · rw [results_cell_one rfl]
        go_simp
        rw [← HX.out]
        rfl
      · rw [← HX.out]
        exact tokE_end { kind := 4, text := X } B5.out R5.out hlt rfl
theorem index_low : ∀ (l t : List UInt8), -1 ≤ Lib.index l t
  | [], t => by unfold Lib.index; split <;> decide
  | b :: l, t => by
    have := index_low l t
    unfold Lib.index
    split
    · decide
    · split
      · decide
      · omega
theorem cut_find (t : List UInt8) (ht : t ≠ []) : ∀ r : List UInt8, (Lib.cut r t).1 = (findR t r).1
  | [] => by
    unfold Lib.cut
    split <;> simp [findR]
  | c :: r => by
    have ih := cut_find t ht r
    have hlow := index_low r t
    have hidx : Lib.index (c :: r) t = if t.isPrefixOf (c :: r) then 0 else if Lib.index r t == -1 then -1 else Lib.index r t + 1 := by
      rw [Lib.index]
    unfold Lib.cut at ih ⊢
    simp only [findR]
    by_cases hp : t.isPrefixOf (c :: r) = true
    · rw [hidx]
      simp [hp]
    · rw [if_neg hp] at hidx
      rw [if_neg hp]
      by_cases h1 : Lib.index r t = -1
      · rw [h1] at hidx ih
        rw [if_pos (by decide)] at hidx
        rw [hidx, if_neg (by decide)]
        rw [if_neg (by decide)] at ih
        simp only at ih ⊢
        rw [← ih]
      · rw [if_neg (by simpa using h1)] at hidx
        rw [hidx, if_pos (by omega)]
        rw [if_pos (by omega)] at ih
        simp only at ih ⊢
        rw [← ih, show (Lib.index r t + 1).toNat = (Lib.index r t).toNat + 1 by omega, List.take_succ_cons]
theorem Env.drewN {w : World} (h : Env w) (n : Nat) : Env (w.drewN n) := ⟨h.1, h.2⟩
theorem Kept.drewN {w : World} {k : Nat} {cs : List Value} (h : Kept w k cs) (n : Nat) : Kept (w.drewN n) k cs := ⟨h.1, h.2⟩
theorem find_rest (t : List UInt8) : ∀ r : List UInt8, skipL t (findR t r).2 = (findR t r).2.drop t.length
  | [] => by
    unfold skipL
    split <;> simp [findR]
  | c :: r => by
    simp only [findR]
    split
    · rename_i h
      unfold skipL
      rw [if_pos h]
    · exact find_rest t r
set_option maxHeartbeats 2000000 in
theorem cdata_pany (s : ByteArray) (hs : s.size ≤ 20000) (b : Nat) (h2 : 2 ≤ b) (r : List UInt8) (w : World) (he : Env w) (hR : RdL w b s r) :
    Calls Tryz.prog 177 #[.pointer (some ⟨b, 0, none⟩)] w fun e w' => TokE w w' b s (if (findR [93, 93, 62] r).1 = [] then { kind := 0 } else { kind := 1, text := (findR [93, 93, 62] r).1 }, (findR [93, 93, 62] r).2.drop 3) e := by
  have hlt := hR.lt
  have KR0 := hide (Kept.new w tok0 64)
  have B0 := hide ((But.refl b w).alloc (.cells tok0.toArray 64))
  have R0 := hide (hR.below (below_alloc w (.cells tok0.toArray 64)))
  have hlen := hR.len
  have HRS := hide (rest_any s (by omega) b r _ R0.out)
  have hfa := findR_app [93, 93, 62] r
  have HE := hide (he.alloc (.cells tok0.toArray 64))
  have hCut := fun w m hm => Tryz.strings_Cut ⟨r.toArray⟩ ⟨#[93, 93, 62]⟩ m w (by rw [size_list, str_data]; omega) hm
  have HCut : Hid (∀ w, Env w → Calls Tryz.prog 250 #[.string ⟨r.toArray⟩, .string ⟨#[93, 93, 62]⟩] w fun e w' => ∃ y z, e = .returned (.tuple #[.string ⟨(findR [93, 93, 62] r).1.toArray⟩, .string y, .bool z]) ∧ ∃ n, w' = w.drewN n) := by
    refine hide fun w he => ?_
    obtain ⟨m, hm⟩ := he.2
    refine (hCut w m hm).mono ?_
    rintro e w1 ⟨rfl, n, rfl⟩
    refine ⟨⟨(Lib.cut r [93, 93, 62]).2.1.toArray⟩, (Lib.cut r [93, 93, 62]).2.2, ?_, n, rfl⟩
    rw [← cut_find [93, 93, 62] (by decide) r]
  have hsk := fun w (h : RdL w b s (findR [93, 93, 62] r).2) => skip_any s (by omega) b (findR [93, 93, 62] r).2 ⟨#[93, 93, 62]⟩ w h
  have HSK : Hid (∀ w, RdL w b s (findR [93, 93, 62] r).2 → Calls Tryz.prog 168 #[.pointer (some ⟨b, 0, none⟩), .string ⟨#[93, 93, 62]⟩] w fun e w' => (∃ B, e = .returned (.bool B)) ∧ RdL w' b s ((findR [93, 93, 62] r).2.drop 3) ∧ But b w w') := by
    refine hide fun w h => ?_
    refine (hsk w h).mono ?_
    rintro e w1 ⟨rfl, h3, h4⟩
    refine ⟨⟨_, rfl⟩, ?_, h4⟩
    have e1 : skipL (⟨#[93, 93, 62]⟩ : ByteArray).data.toList (findR [93, 93, 62] r).2 = (findR [93, 93, 62] r).2.drop 3 := find_rest [93, 93, 62] r
    rw [e1] at h3
    exact h3
  clear hsk hCut he
  obtain ⟨p, hp, hd, hP⟩ := hR
  have c1 := hP.c1
  have fz := hP.fz
  have hPA := hP.below (below_alloc w (.cells tok0.toArray 64))
  have HPA := hide hPA
  have HD := hide hd
  clear hd hP hPA
  generalize (findR [93, 93, 62] r).1 = T at *
  generalize (findR [93, 93, 62] r).2 = V at *
  have hl := congrArg List.length hfa
  rw [List.length_append] at hl
  have hlp : s.size - p = r.length := by rw [← HD.out, List.length_drop, ← size_list]
  have HV : Hid (s.data.toList.drop (p + T.length) = V) := hide (by rw [← List.drop_drop, HD.out, ← hfa, List.drop_left])
  have hx : (⟨T.toArray⟩ : ByteArray).size = T.length := by rw [size_list, str_data]
  have hnil : (⟨T.toArray⟩ : ByteArray).toList.isEmpty = T.isEmpty := by
    rw [Lib.toList_data]
  have HTT := hide (textToken_any ⟨T.toArray⟩)
  generalize hX : (⟨T.toArray⟩ : ByteArray) = x at *
  have HX := hide hX
  generalize (⟨r.toArray⟩ : ByteArray) = y at *
  clear hX hfa
  have hsum : p + x.size ≤ s.size := by omega
  have hq1 : (p : Int) + x.size ≤ 20000 := by omega
  have HV2 : Hid (s.data.toList.drop (p + x.size) = V) := hide (by rw [hx]; exact HV.out)
  have HRD : Hid (∀ n, RdL (((w.alloc (.cells tok0.toArray 64)).drewN n).setCell ⟨b, 1, none⟩ (.int .i64 ((p : Int) + (x.size : Int)))) b s V) := by
    refine hide fun n => ⟨p + x.size, hsum, HV2.out, ?_⟩
    have h := (HPA.out.drewN n).set (p + x.size)
    rw [show ((p + x.size : Nat) : Int) = (p : Int) + (x.size : Int) by omega] at h
    exact h
  clear hx hl hlp HV HV2 HD HPA R0
  have hgo : ∀ B : Bool, x.toList.isEmpty = B → Calls Tryz.prog 177 #[.pointer (some ⟨b, 0, none⟩)] w fun e w' => TokE w w' b s (if B then { kind := 0 } else { kind := 1, text := T }, V.drop 3) e := by
    intro B hnil2
    clear hnil
    go_enter Tryz.func177, Tryz.ntmps177
    go_wp2_with fail
    refine HRS.out.mono ?_
    rintro e w1 ⟨rfl, n, rfl⟩
    go_wp2_with fail
    refine (HCut.out _ (HE.out.drewN n)).mono ?_
    rintro e w1 ⟨y2, z2, rfl, m, rfl⟩
    go_wp2_with fail
    refine (HSK.out _ (HRD.out _)).mono ?_
    rintro e w3 ⟨⟨B3, rfl⟩, h3, h4⟩
    have R3 := hide h3
    have KR3 := hide (Kept.but ((KR0.out.drewN (n + m)).other ⟨b, 1, none⟩ (by simp only; omega) _) h4 (by omega))
    have BB3 := hide (((B0.out.drewN (n + m)).setCell 1 _).trans h4)
    clear h3 h4 KR0 B0 HSK HRD HCut HRS c1 fz HE
    obtain ⟨q0, q1, q2, q3, q4, qf⟩ := KR3.out.tok
    cases B with
    | true =>
      go_wp2
      refine bodyPost_ret (v := tokV { kind := 0 } (.slice none 0 0)) ?_ rfl ?_
      · rw [results_cell_one rfl]
        go_simp
        rfl
      · exact tokE_end { kind := 0 } BB3.out R3.out hlt rfl
    | false =>
      clear q0 q1 q2 q3 q4 qf
      go_wp2_with fail
      refine (HTT.out _).mono ?_
      rintro e w4 ⟨rfl, h4⟩
      have R4 := hide (R3.out.below h4)
      have KR4 := hide (Kept.below KR3.out h4)
      have B4 := hide (BB3.out.trans (.of h4))
      clear h4 KR3 R3 BB3
      obtain ⟨q0, q1, q2, q3, q4, qf⟩ := KR4.out.tok
      go_wp2
      refine bodyPost_ret (v := tokV { kind := 1, text := T } (.slice none 0 0)) ?_ rfl ?_
      · rw [results_cell_one rfl]
        go_simp
        rw [← HX.out]
        rfl
      · rw [← HX.out]
        exact tokE_end { kind := 1, text := T } B4.out R4.out hlt rfl
  have := hgo _ hnil
  cases T with
  | nil => exact this
  | cons c q => exact this
end Go.Proofs.YteccmjngdibeoaaGreatDoor.S4
set_option linter.unusedVariables false
set_option linter.unusedSimpArgs false
set_option maxRecDepth 4000
namespace Go.Proofs.YteccmjngdibeoaaGreatDoor.S4
open Go.RowKit
set_option maxHeartbeats 1000000 in
theorem like_any (s t : ByteArray) (hs : s.size ≤ 100000) (w : World) :
    Calls Tryz.prog 175 #[.string s, .string t] w fun e w' => e = .returned (.bool (likeB t.data.toList s.data.toList)) ∧ Below w.heap.size w w' := by
  unfold likeB
  rw [← size_list, ← size_list]
  by_cases h : t.size ≤ s.size
  · have hz : (t.size : Int) ≤ s.size := by omega
    have hx : (s.extract 0 t.size).data.toList = s.data.toList.take t.size := by rw [Lib.extract_data]; simp
    have hL := fun w => plower_any (s.extract 0 t.size) (by rw [ByteArray.size_extract]; omega) w
    rw [hx] at hL
    have HL := hide hL
    have heq : ((⟨(lowerL (s.data.toList.take t.size)).toArray⟩ : ByteArray).toList == t.toList) = (lowerL (s.data.toList.take t.size) == t.data.toList) := by rw [Lib.toList_data, Lib.toList_data, str_data]
    rw [show decide (t.size ≤ s.size) = true by simp [h], Bool.true_and]
    clear hL hx
    generalize (lowerL (s.data.toList.take t.size) == t.data.toList) = B at *
    generalize (⟨(lowerL (s.data.toList.take t.size)).toArray⟩ : ByteArray) = y at *
    go_enter Tryz.func175, Tryz.ntmps175
    go_wp2_with fail
    refine (HL.out _).mono ?_
    rintro e w1 ⟨rfl, b1⟩
    have HB := hide b1
    clear b1
    go_wp2
    go_ret
    exact ⟨rfl, HB.out⟩
  · have hz : ¬ (t.size : Int) ≤ s.size := by omega
    rw [show decide (t.size ≤ s.size) = false by simp [h], Bool.false_and]
    go_enter Tryz.func175, Tryz.ntmps175
    go_wp2
    go_ret
    exact ⟨rfl, Below.refl _ _⟩
theorem stop_form (n r q : List UInt8) (h : r = 60 :: 47 :: q) : stopB n r = (likeB (lowerL n) q && (match q[n.length]? with | some c => hasB [32, 47, 62] c | none => false)) := by
  subst h
  unfold stopB likeB
  rw [plower_length]
  have e1 : ([60, 47] : List UInt8).isPrefixOf (60 :: 47 :: q) = true := by simp [List.isPrefixOf]
  rw [e1, Bool.true_and, show (60 :: 47 :: q).drop 2 = q from rfl, show (60 :: 47 :: q)[2 + n.length]? = q[n.length]? by rw [Nat.add_comm]; rfl]
  have e2 : ∀ c, (isSp c || c == 47 || c == 62) = hasB [32, 47, 62] c := fun c => by
    have := has_name c
    unfold nameB at this
    exact Bool.not_inj this
  by_cases hl : n.length < q.length
  · rw [List.getElem?_eq_getElem hl]
    simp only [e2]
    rw [show decide (n.length ≤ q.length) = true by simp; omega, Bool.true_and]
  · rw [List.getElem?_eq_none (by omega)]
    simp
theorem stop_pre (n r : List UInt8) (h : ([60, 47] : List UInt8).isPrefixOf r = false) : stopB n r = false := by
  unfold stopB
  rw [h]
  rfl
theorem pre2 (r : List UInt8) (h : ([60, 47] : List UInt8).isPrefixOf r = true) : ∃ q, r = 60 :: 47 :: q := by
  obtain ⟨q, rfl⟩ := List.isPrefixOf_iff_prefix.1 h
  exact ⟨q, rfl⟩
set_option maxHeartbeats 1000000 in
theorem endTag_any (s : ByteArray) (hs : s.size ≤ 100000) (n : List UInt8) (w : World) :
    Calls Tryz.prog 167 #[.string s, .string ⟨(lowerL n).toArray⟩] w fun e w' => e = .returned (.bool (stopB n s.data.toList)) ∧ Below w.heap.size w w' := by
  have hC := Tryz.strings_CutPrefix s ⟨#[60, 47]⟩
  cases hb : ([60, 47] : List UInt8).isPrefixOf s.data.toList with
  | false =>
    rw [stop_pre n _ hb]
    have HC : Hid (∀ w, Calls Tryz.prog 242 #[.string s, .string ⟨#[60, 47]⟩] w fun e w' => e = .returned (.tuple #[.string s, .bool false]) ∧ w' = w) := by
      refine hide fun w => ?_
      refine (hC w).mono ?_
      rintro e w1 ⟨rfl, rfl⟩
      refine ⟨?_, rfl⟩
      have e1 : Lib.hasPrefix s.data.toList (⟨#[60, 47]⟩ : ByteArray).data.toList = false := hb
      unfold Lib.trimPrefix
      rw [e1, if_neg (by decide), ← str_of s _ rfl]
    clear hC hb
    go_enter Tryz.func167, Tryz.ntmps167
    go_wp2_with fail
    refine (HC.out _).mono ?_
    rintro e w1 ⟨rfl, rfl⟩
    go_wp2
    go_ret
    exact ⟨rfl, Below.refl _ _⟩
  | true =>
    obtain ⟨q, hq⟩ := pre2 _ hb
    rw [stop_form n _ q hq]
    have HC : Hid (∀ w, Calls Tryz.prog 242 #[.string s, .string ⟨#[60, 47]⟩] w fun e w' => e = .returned (.tuple #[.string ⟨q.toArray⟩, .bool true]) ∧ w' = w) := by
      refine hide fun w => ?_
      refine (hC w).mono ?_
      rintro e w1 ⟨rfl, rfl⟩
      refine ⟨?_, rfl⟩
      have e1 : Lib.hasPrefix s.data.toList (⟨#[60, 47]⟩ : ByteArray).data.toList = true := hb
      unfold Lib.trimPrefix
      rw [e1, if_pos rfl, hq]
      rfl
    have hql : q.length ≤ s.size := by rw [size_list, hq]; simp; omega
    have hQ : (⟨q.toArray⟩ : ByteArray).size = q.length := by rw [size_list, str_data]
    have hN : (⟨(lowerL n).toArray⟩ : ByteArray).size = n.length := by rw [size_list, str_data, plower_length]
    have hLK := like_any ⟨q.toArray⟩ ⟨(lowerL n).toArray⟩ (by omega)
    have HLK : Hid (∀ w, Calls Tryz.prog 175 #[.string ⟨q.toArray⟩, .string ⟨(lowerL n).toArray⟩] w fun e w' => e = .returned (.bool (likeB (lowerL n) q)) ∧ Below w.heap.size w w') := hide hLK
    clear hLK hC hb
    by_cases hl : n.length < q.length
    · rw [List.getElem?_eq_getElem hl]
      simp only
      have hix : ∀ w, (Instr.index 9 (.string ⟨q.toArray⟩) (.int .i64 ((⟨(lowerL n).toArray⟩ : ByteArray).size : Int))).run Tryz.prog w = .ok (.int .u8 (q[n.length].toNat : Int)) w := fun w => run_index_at ⟨q.toArray⟩ n.length ((⟨(lowerL n).toArray⟩ : ByteArray).size : Int) (by omega) (by omega) w
      have HH := hide (has_any ⟨#[32, 47, 62]⟩ q[n.length])
      have hgt : ((⟨(lowerL n).toArray⟩ : ByteArray).size : Int) < ((⟨q.toArray⟩ : ByteArray).size : Int) := by omega
      have HHB : Hid (hasB (⟨#[32, 47, 62]⟩ : ByteArray).data.toList q[n.length] = hasB [32, 47, 62] q[n.length]) := rfl
      clear hQ hN
      generalize hasB [32, 47, 62] q[n.length] = H at *
      generalize q[n.length] = c at *
      generalize (⟨q.toArray⟩ : ByteArray) = Q at *
      generalize (⟨(lowerL n).toArray⟩ : ByteArray) = N at *
      have HH2 : Hid (∀ w, Calls Tryz.prog 243 #[.string ⟨#[32, 47, 62]⟩, .int .u8 (c.toNat : Int)] w fun e w' => e = .returned (.bool H) ∧ w' = w) := by
        rw [← HHB.out]; exact HH
      clear HH HHB
      generalize likeB (lowerL n) q = L at *
      cases L with
      | false =>
        go_enter Tryz.func167, Tryz.ntmps167
        go_wp2_with fail
        refine (HC.out _).mono ?_
        rintro e w1 ⟨rfl, rfl⟩
        go_wp2_with fail
        refine (HLK.out _).mono ?_
        rintro e w2 ⟨rfl, b2⟩
        have HB := hide b2
        clear b2
        go_wp2
        go_ret
        exact ⟨rfl, HB.out⟩
      | true =>
        rw [Bool.true_and]
        go_enter Tryz.func167, Tryz.ntmps167
        go_wp2_with fail
        refine (HC.out _).mono ?_
        rintro e w1 ⟨rfl, rfl⟩
        go_wp2_with fail
        refine (HLK.out _).mono ?_
        rintro e w2 ⟨rfl, b2⟩
        have HB := hide b2
        clear b2
        go_wp2_with fail
        refine (HH2.out _).mono ?_
        rintro e w3 ⟨rfl, rfl⟩
        go_wp2
        go_ret
        exact ⟨rfl, HB.out⟩
    · rw [List.getElem?_eq_none (by omega)]
      simp only [Bool.and_false]
      have hgt : ¬ ((⟨(lowerL n).toArray⟩ : ByteArray).size : Int) < ((⟨q.toArray⟩ : ByteArray).size : Int) := by omega
      clear hQ hN HLK
      generalize (⟨q.toArray⟩ : ByteArray) = Q at *
      generalize (⟨(lowerL n).toArray⟩ : ByteArray) = N at *
      go_enter Tryz.func167, Tryz.ntmps167
      go_wp2_with fail
      refine (HC.out _).mono ?_
      rintro e w1 ⟨rfl, rfl⟩
      go_wp2
      go_ret
      exact ⟨rfl, Below.refl _ _⟩
theorem suf_cut (s t : ByteArray) (hs : s.size ≤ 100000) (B : Bool) (h : t.data.toList.isSuffixOf s.data.toList = B) (w : World) :
    Calls Tryz.prog 297 #[.string s, .string t] w fun e w' => e = .returned (.tuple #[.string ⟨(if B then s.data.toList.take (s.data.toList.length - t.data.toList.length) else s.data.toList).toArray⟩, .bool B]) ∧ w' = w := by
  have := Tryz.strings_CutSuffix s t w (by omega)
  unfold Lib.trimSuffix Lib.hasSuffix at this
  rw [h] at this
  exact this
theorem ends_0 (w : World) : (Instr.index 228 (.agg #[.string ⟨#[45, 45, 33]⟩, .string ⟨#[45, 45]⟩, .string ⟨#[45]⟩]) (.int .i64 0)).run Tryz.prog w = .ok (.string ⟨#[45, 45, 33]⟩) w := by kernel_rfl
theorem ends_1 (w : World) : (Instr.index 228 (.agg #[.string ⟨#[45, 45, 33]⟩, .string ⟨#[45, 45]⟩, .string ⟨#[45]⟩]) (.int .i64 1)).run Tryz.prog w = .ok (.string ⟨#[45, 45]⟩) w := by kernel_rfl
theorem ends_2 (w : World) : (Instr.index 228 (.agg #[.string ⟨#[45, 45, 33]⟩, .string ⟨#[45, 45]⟩, .string ⟨#[45]⟩]) (.int .i64 2)).run Tryz.prog w = .ok (.string ⟨#[45]⟩) w := by kernel_rfl
set_option maxHeartbeats 1000000 in
theorem woe_any (s : ByteArray) (hs : s.size ≤ 100000) (w : World) :
    Calls Tryz.prog 249 #[.string s] w fun e w' => e = .returned (.string ⟨(trimC s.data.toList).toArray⟩) ∧ w' = w := by
  unfold trimC
  have i0 := ends_0
  have i1 := ends_1
  have i2 := ends_2
  cases h0 : ([45, 45, 33] : List UInt8).isSuffixOf s.data.toList with
  | true =>
    rw [if_pos rfl]
    have H0 := hide (suf_cut s ⟨#[45, 45, 33]⟩ hs true h0)
    clear h0
    generalize hX : (⟨(s.data.toList.take (s.data.toList.length - 3)).toArray⟩ : ByteArray) = x at *
    have HK : Hid (∀ w, Calls Tryz.prog 297 #[.string s, .string ⟨#[45, 45, 33]⟩] w fun e w' => e = .returned (.tuple #[.string x, .bool true]) ∧ w' = w) := by
      rw [← hX]; exact H0
    clear hX H0
    go_enter Tryz.func249, Tryz.ntmps249
    go_wp2
    refine wp_loop_rounds 4 ?_
    rw [rounds_succ]
    go_wp2_with fail
    refine (HK.out _).mono ?_
    rintro e w1 ⟨rfl, rfl⟩
    go_wp2
    go_ret
    exact ⟨rfl, rfl⟩
  | false =>
    rw [if_neg (by decide)]
    cases h1 : ([45, 45] : List UInt8).isSuffixOf s.data.toList with
    | true =>
      rw [if_pos rfl]
      have H0 := hide (suf_cut s ⟨#[45, 45, 33]⟩ hs false h0)
      have H1 := hide (suf_cut s ⟨#[45, 45]⟩ hs true h1)
      clear h0 h1
      generalize hX : (⟨(s.data.toList.take (s.data.toList.length - 2)).toArray⟩ : ByteArray) = x at *
      have HK : Hid (∀ w, Calls Tryz.prog 297 #[.string s, .string ⟨#[45, 45]⟩] w fun e w' => e = .returned (.tuple #[.string x, .bool true]) ∧ w' = w) := by
        rw [← hX]; exact H1
      clear hX H1
      have HN0 : Hid (∀ w, Calls Tryz.prog 297 #[.string s, .string ⟨#[45, 45, 33]⟩] w fun e w' => e = .returned (.tuple #[.string s, .bool false]) ∧ w' = w) := by
        have e := str_of s _ rfl
        refine hide fun w => ?_
        refine (H0.out w).mono ?_
        rintro e w1 ⟨rfl, rfl⟩
        refine ⟨?_, rfl⟩
        rw [if_neg (by decide), ← str_of s _ rfl]
      clear H0
      go_enter Tryz.func249, Tryz.ntmps249
      go_wp2
      refine wp_loop_rounds 4 ?_
      rw [rounds_succ]
      go_wp2_with fail
      refine (HN0.out _).mono ?_
      rintro e w1 ⟨rfl, rfl⟩
      go_wp2_with fail
      rw [rounds_succ]
      go_wp2_with fail
      refine (HK.out _).mono ?_
      rintro e w1 ⟨rfl, rfl⟩
      go_wp2
      go_ret
      exact ⟨rfl, rfl⟩
    | false =>
      rw [if_neg (by decide)]
      cases h2 : ([45] : List UInt8).isSuffixOf s.data.toList with
      | true =>
        rw [if_pos rfl]
        have H0 := hide (suf_cut s ⟨#[45, 45, 33]⟩ hs false h0)
        have H1 := hide (suf_cut s ⟨#[45, 45]⟩ hs false h1)
        have H2 := hide (suf_cut s ⟨#[45]⟩ hs true h2)
        clear h0 h1 h2
        generalize hX : (⟨(s.data.toList.take (s.data.toList.length - 1)).toArray⟩ : ByteArray) = x at *
        have HK : Hid (∀ w, Calls Tryz.prog 297 #[.string s, .string ⟨#[45]⟩] w fun e w' => e = .returned (.tuple #[.string x, .bool true]) ∧ w' = w) := by
          rw [← hX]; exact H2
        clear hX H2
        have HN0 : Hid (∀ w, Calls Tryz.prog 297 #[.string s, .string ⟨#[45, 45, 33]⟩] w fun e w' => e = .returned (.tuple #[.string s, .bool false]) ∧ w' = w) := by
          have e := str_of s _ rfl
          refine hide fun w => ?_
          refine (H0.out w).mono ?_
          rintro e w1 ⟨rfl, rfl⟩
          refine ⟨?_, rfl⟩
          rw [if_neg (by decide), ← str_of s _ rfl]
        clear H0
        have HN1 : Hid (∀ w, Calls Tryz.prog 297 #[.string s, .string ⟨#[45, 45]⟩] w fun e w' => e = .returned (.tuple #[.string s, .bool false]) ∧ w' = w) := by
          have e := str_of s _ rfl
          refine hide fun w => ?_
          refine (H1.out w).mono ?_
          rintro e w1 ⟨rfl, rfl⟩
          refine ⟨?_, rfl⟩
          rw [if_neg (by decide), ← str_of s _ rfl]
        clear H1
        go_enter Tryz.func249, Tryz.ntmps249
        go_wp2
        refine wp_loop_rounds 4 ?_
        rw [rounds_succ]
        go_wp2_with fail
        refine (HN0.out _).mono ?_
        rintro e w1 ⟨rfl, rfl⟩
        go_wp2_with fail
        rw [rounds_succ]
        go_wp2_with fail
        refine (HN1.out _).mono ?_
        rintro e w1 ⟨rfl, rfl⟩
        go_wp2_with fail
        rw [rounds_succ]
        go_wp2_with fail
        refine (HK.out _).mono ?_
        rintro e w1 ⟨rfl, rfl⟩
        go_wp2
        go_ret
        exact ⟨rfl, rfl⟩
      | false =>
        rw [if_neg (by decide)]
        have H0 := hide (suf_cut s ⟨#[45, 45, 33]⟩ hs false h0)
        have H1 := hide (suf_cut s ⟨#[45, 45]⟩ hs false h1)
        have H2 := hide (suf_cut s ⟨#[45]⟩ hs false h2)
        clear h0 h1 h2
        have HN0 : Hid (∀ w, Calls Tryz.prog 297 #[.string s, .string ⟨#[45, 45, 33]⟩] w fun e w' => e = .returned (.tuple #[.string s, .bool false]) ∧ w' = w) := by
          have e := str_of s _ rfl
          refine hide fun w => ?_
          refine (H0.out w).mono ?_
          rintro e w1 ⟨rfl, rfl⟩
          refine ⟨?_, rfl⟩
          rw [if_neg (by decide), ← str_of s _ rfl]
        clear H0
        have HN1 : Hid (∀ w, Calls Tryz.prog 297 #[.string s, .string ⟨#[45, 45]⟩] w fun e w' => e = .returned (.tuple #[.string s, .bool false]) ∧ w' = w) := by
          have e := str_of s _ rfl
          refine hide fun w => ?_
          refine (H1.out w).mono ?_
          rintro e w1 ⟨rfl, rfl⟩
          refine ⟨?_, rfl⟩
          rw [if_neg (by decide), ← str_of s _ rfl]
        clear H1
        have HN2 : Hid (∀ w, Calls Tryz.prog 297 #[.string s, .string ⟨#[45]⟩] w fun e w' => e = .returned (.tuple #[.string s, .bool false]) ∧ w' = w) := by
          have e := str_of s _ rfl
          refine hide fun w => ?_
          refine (H2.out w).mono ?_
          rintro e w1 ⟨rfl, rfl⟩
          refine ⟨?_, rfl⟩
          rw [if_neg (by decide), ← str_of s _ rfl]
        clear H2
        go_enter Tryz.func249, Tryz.ntmps249
        go_wp2
        refine wp_loop_rounds 4 ?_
        rw [rounds_succ]
        go_wp2_with fail
        refine (HN0.out _).mono ?_
        rintro e w1 ⟨rfl, rfl⟩
        go_wp2_with fail
        rw [rounds_succ]
        go_wp2_with fail
        refine (HN1.out _).mono ?_
        rintro e w1 ⟨rfl, rfl⟩
        go_wp2_with fail
        rw [rounds_succ]
        go_wp2_with fail
        refine (HN2.out _).mono ?_
        rintro e w1 ⟨rfl, rfl⟩
        go_wp2_with fail
        rw [rounds_succ]
        go_wp2
        go_ret
        exact ⟨by rw [← str_of s _ rfl]; rfl, rfl⟩
end Go.Proofs.YteccmjngdibeoaaGreatDoor.S4
