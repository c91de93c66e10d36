/- The program's plainText, stop, oddComment. -/
import Derived.Test.YtlfjmgniflkapaaDoorRdF
set_option linter.unusedVariables false
set_option linter.unusedSimpArgs false
namespace Go.Proofs.YtlfjmgniflkapaaDoor
open Go.RowKit

theorem tokE_end {w w3 : World} {b : Nat} {s : ByteArray} {V : List UInt8} (t : Tok) (hb : But b w w3) (hr : RdL w3 b s V) (hl : b < w.heap.size) (ha : t.attrs = []) : TokE w (put5 w3 w.heap.size (t, .slice none 0 0)) b s (t, V) (.returned (tokV t (.slice none 0 0))) :=
  ⟨hb.put5 (Nat.le_refl _) _, hr.put5 (by omega) _, .slice none 0 0, .inl ⟨rfl, ha⟩, (fun k hk => by cases hk), rfl⟩
theorem tokE_end2 {w w3 : World} {b : Nat} {s : ByteArray} {V : List UInt8} (t : Tok) (sv : Value) (hb : But b w w3) (hr : RdL w3 b s V) (hl : b < w.heap.size) (hA : IsA w3 sv t.attrs) (ho : ∀ k, sv.ownBlock = some k → w.heap.size < k) : TokE w (put5 w3 w.heap.size (t, sv)) b s (t, V) (.returned (tokV t sv)) :=
  ⟨hb.put5 (Nat.le_refl _) _, hr.put5 (by omega) _, sv, hA.put5 w.heap.size (fun k hk => by have := ho k hk; omega) _, fun k hk => Nat.le_of_lt (ho k hk), rfl⟩
theorem TokE.alloc {w W : World} {b : Nat} {s : ByteArray} {R : Tok × List UInt8} {e : Ending} (h : TokE w W b s R e) (o : Obj) : TokE w (W.alloc o) b s R e := by
  obtain ⟨h1, h2, sv, h3, h4, h5⟩ := h
  exact ⟨h1.alloc o, h2.below (below_alloc W o), sv, h3.alloc o, h4, h5⟩
theorem Kept.tok {w : World} {k : Nat} (h : Kept w k tok0) : w.cell? ⟨k, 0, none⟩ = some (.int .i64 0) ∧ w.cell? ⟨k, 1, none⟩ = some (.string ⟨#[]⟩) ∧ w.cell? ⟨k, 2, none⟩ = some (.slice none 0 0) ∧ w.cell? ⟨k, 3, none⟩ = some (.bool false) ∧ w.cell? ⟨k, 4, none⟩ = some (.string ⟨#[]⟩) ∧ ∀ o, w.frozen? ⟨k, o, none⟩ = false :=
  ⟨h.1 0, h.1 1, h.1 2, h.1 3, h.1 4, h.2⟩

theorem take_to (s : ByteArray) (hs : s.size ≤ 100000) (b p q : Nat) (hq : q ≤ s.size) (hpq : p ≤ q) (w : World) (hR : RdP w b s p) :
    Calls Tryd.prog 20 #[.pointer (some ⟨b, 0, none⟩), .int .i64 (q : Int)] w fun e w' => e = .returned (.string (s.extract p q)) ∧ RdP w' b s q ∧ But b w w' := by
  refine (take_any s hs b p q hq hpq w hR).mono ?_
  rintro e w1 ⟨rfl, rfl⟩
  exact ⟨rfl, hR.set q, (But.refl b w).setCell 1 _⟩

set_option maxHeartbeats 2000000 in
theorem plainText_any (s : ByteArray) (hs : s.size ≤ 20000) (b : Nat) (h2 : 2 ≤ b) (r : List UInt8) (w : World) (he : Env w) (hR : RdL w b s r) :
    Calls Tryd.prog 35 #[.pointer (some ⟨b, 0, none⟩)] w fun e w' => TokE w w' b s ({ kind := 1, text := decL false (spanT r).1 }, (spanT r).2) e := by
  have hlt := hR.lt
  have KR := hide (Kept.new w tok0 32)
  have HB0 := hide ((But.refl b w).alloc (.cells tok0.toArray 32))
  have HE := hide (he.alloc (.cells tok0.toArray 32))
  have hlen := hR.len
  obtain ⟨p, hp, hd, hPw⟩ := hR
  have hP := hPw.below (below_alloc w (.cells tok0.toArray 32))
  have hap := spanT_app r
  have c0 := hPw.c0
  have c1 := hPw.c1
  have HT := hide (fun q hq hpq => take_to s (by omega) b p q hq hpq _ hP)
  have hMK := fun k (hk : k ≤ s.size) => markup_any ⟨(s.data.toList.drop k).toArray⟩ (by rw [size_list, str_data, List.length_drop, ← size_list]; omega)
  have HMK : Hid (∀ k, k ≤ s.size → ∀ w, Calls Tryd.prog 34 #[.string (s.extract k s.size)] w fun e w' => e = .returned (.bool (beginsB (s.data.toList.drop k))) ∧ w' = w) := by
    refine hide fun k hk w => ?_
    rw [rest_is s k hk]
    exact hMK k hk w
  have hlT : (spanT r).1.length ≤ s.size := by
    have h1 := congrArg List.length hap
    rw [List.length_append] at h1
    omega
  have hD := fun w ho => decode_any ⟨(spanT r).1.toArray⟩ (by rw [size_list, str_data]; omega) false w ho
  rw [str_data] at hD
  have HD := hide hD
  have HP := hide hP
  generalize hV : (spanT r).2 = V at *
  generalize (spanT r).1 = T at *
  have HV : Hid ((spanT (s.data.toList.drop p)).2 = V) := hide (by rw [hd]; exact hV)
  have HCUT : Hid (∀ k, p ≤ k → k ≤ s.size → s.data.toList.drop k = V → s.extract p k = ⟨T.toArray⟩) := hide fun k h1 h2 h3 => cutP s p k h1 h2 T V (by rw [hd]; exact hap.symm) h3
  clear hMK hD hV hap hd he hlT hP hPw
  generalize decL false T = D at *
  go_enter Tryd.func35, Tryd.ntmps35
  go_wp2
  go_loop [3] (fun i => ∃ k : Nat, p ≤ k ∧ k ≤ s.size ∧ i = .int .i64 k ∧ Hid ((spanT (s.data.toList.drop k)).2 = V)) (fun i => s.size - (intOf i).toNat)
  case atStart => exact ⟨p, Nat.le_refl _, hp, rfl, HV⟩
  case round =>
    obtain ⟨k, hpk, hk, rfl, HR⟩ := hrel
    by_cases hlt2 : k < s.size
    · have hlt3 : (k : Int) < s.size := by omega
      have hst := spanT_step s k hlt2
      have HQ := hide (HMK.out k hk)
      cases hB : beginsB (s.data.toList.drop k) with
      | false =>
        rw [hB] at HQ hst
        have HR2 : Hid ((spanT (s.data.toList.drop (k + 1))).2 = V) := hide (by rw [← HR.out, hst]; rfl)
        clear hB hst HR
        go_wp2_with fail
        refine (HQ.out _).mono ?_
        rintro e w1 ⟨rfl, rfl⟩
        go_wp2
        go_round
        case rel => exact ⟨k + 1, by omega, by omega, by go_num, HR2⟩
        case measure => simp [intOf]; omega
      | true =>
        rw [hB] at HQ hst
        have HR2 : Hid (s.data.toList.drop k = V) := hide (by rw [← HR.out, hst]; rfl)
        have HC2 := hide (HCUT.out k hpk hk HR2.out)
        clear hB hst HR
        go_wp2_with fail
        refine (HQ.out _).mono ?_
        rintro e w1 ⟨rfl, rfl⟩
        go_wp2_with fail
        refine (HT.out k hk hpk).mono ?_
        rintro e w1 ⟨rfl, h3, h4⟩
        have R1 : Hid (RdL w1 b s V) := hide ⟨k, hk, HR2.out, h3⟩
        have KR1 := hide (Kept.but KR.out h4 (by omega))
        have E1 := hide (HE.out.but h4 h2)
        have B1 := hide (HB0.out.trans h4)
        clear h3 h4 KR HE HB0 HT c0 c1
        rw [HC2.out]
        generalize (⟨T.toArray⟩ : ByteArray) = x at *
        go_wp2_with fail
        refine (HD.out _ E1.out.1).mono ?_
        rintro e w2 ⟨rfl, h4⟩
        have R2 := hide (R1.out.below h4)
        have KR2 := hide (Kept.below KR1.out h4)
        have B2 := hide (B1.out.trans (.of h4))
        clear h4 R1 KR1 B1 E1 HD
        have HTT := hide (textToken_any ⟨D.toArray⟩)
        generalize hdx : (⟨D.toArray⟩ : ByteArray) = dx at *
        have HDX := hide hdx
        clear hdx
        go_wp2_with fail
        refine (HTT.out _).mono ?_
        rintro e w3 ⟨rfl, h4⟩
        have R3 := hide (R2.out.below h4)
        have KR3 := hide (Kept.below KR2.out h4)
        have B3 := hide (B2.out.trans (.of h4))
        clear h4 R2 KR2 B2 HTT
        obtain ⟨q0, q1, q2, q3, q4, qf⟩ := KR3.out.tok
        go_wp2
        refine bodyPost_ret (v := tokV { kind := 1, text := D } (.slice none 0 0)) ?_ rfl ?_
        · rw [results_cell_one rfl]
          go_simp
          rw [← HDX.out]
          rfl
        · have := tokE_end { kind := 1, text := D } B3.out R3.out hlt rfl
          unfold put5 at this
          rw [HDX.out] at this
          exact this
    · have hlt3 : ¬ (k : Int) < s.size := by omega
      have HR2 : Hid (s.data.toList.drop k = V) := hide (by rw [← HR.out, drop_end s k (by omega)]; rfl)
      have HC2 := hide (HCUT.out k hpk hk HR2.out)
      clear HR
      go_wp2_with fail
      refine (HT.out k hk hpk).mono ?_
      rintro e w1 ⟨rfl, h3, h4⟩
      have R1 : Hid (RdL w1 b s V) := hide ⟨k, hk, HR2.out, h3⟩
      have KR1 := hide (Kept.but KR.out h4 (by omega))
      have E1 := hide (HE.out.but h4 h2)
      have B1 := hide (HB0.out.trans h4)
      clear h3 h4 KR HE HB0 HT c0 c1
      rw [HC2.out]
      generalize (⟨T.toArray⟩ : ByteArray) = x at *
      go_wp2_with fail
      refine (HD.out _ E1.out.1).mono ?_
      rintro e w2 ⟨rfl, h4⟩
      have R2 := hide (R1.out.below h4)
      have KR2 := hide (Kept.below KR1.out h4)
      have B2 := hide (B1.out.trans (.of h4))
      clear h4 R1 KR1 B1 E1 HD
      have HTT := hide (textToken_any ⟨D.toArray⟩)
      generalize hdx : (⟨D.toArray⟩ : ByteArray) = dx at *
      have HDX := hide hdx
      clear hdx
      go_wp2_with fail
      refine (HTT.out _).mono ?_
      rintro e w3 ⟨rfl, h4⟩
      have R3 := hide (R2.out.below h4)
      have KR3 := hide (Kept.below KR2.out h4)
      have B3 := hide (B2.out.trans (.of h4))
      clear h4 R2 KR2 B2 HTT
      obtain ⟨q0, q1, q2, q3, q4, qf⟩ := KR3.out.tok
      go_wp2
      refine bodyPost_ret (v := tokV { kind := 1, text := D } (.slice none 0 0)) ?_ rfl ?_
      · rw [results_cell_one rfl]
        go_simp
        rw [← HDX.out]
        rfl
      · have := tokE_end { kind := 1, text := D } B3.out R3.out hlt rfl
        unfold put5 at this
        rw [HDX.out] at this
        exact this

set_option maxHeartbeats 2000000 in
theorem stop_pany (s : ByteArray) (hs : s.size ≤ 20000) (b : Nat) (h2 : 2 ≤ b) (r : List UInt8) (w : World) (he : Env w) (hR : RdL w b s r) :
    Calls Tryd.prog 28 #[.pointer (some ⟨b, 0, none⟩)] w fun e w' => TokE w w' b s (endedL r true) e := by
  have hlt := hR.lt
  have KR := hide (Kept.new w tok0 32)
  have HB0 := hide ((But.refl b w).alloc (.cells tok0.toArray 32))
  have hE : endedL r true = match tailT [] (r.dropWhile nameB) with
      | none => ({ kind := 0 }, [])
      | some (aa, cl, V) => ({ kind := 3, name := lowerL (r.takeWhile nameB) }, V) := by
    unfold endedL
    rw [tagL_tail]
    cases tailT [] (r.dropWhile nameB) <;> rfl
  have hS := start_any s hs b h2 r _ (he.alloc (.cells tok0.toArray 32)) (hR.below (below_alloc w (.cells tok0.toArray 32)))
  rw [hE]
  clear hE hR he
  generalize lowerL (r.takeWhile nameB) = NL at *
  generalize tailT [] (r.dropWhile nameB) = RR at *
  have HS := hide hS
  clear hS
  cases RR with
  | none =>
    go_enter Tryd.func28, Tryd.ntmps28
    go_wp2_with fail
    refine HS.out.mono ?_
    rintro e w1 ⟨h4, rfl, h3⟩
    have hK := Kept.but KR.out h4 (by omega)
    have hz1 : w.heap.size < w1.heap.size := hK.lt
    obtain ⟨q0, q1, q2, q3, q4, qf⟩ := hK.tok
    have R1 := hide h3
    have B1 := hide (HB0.out.trans h4)
    clear h3 h4 KR HB0 HS hK
    unfold tokV
    go_wp2
    refine bodyPost_ret (v := tokV { kind := 0 } (.slice none 0 0)) ?_ rfl ?_
    · rw [results_cell_one rfl]
      go_simp
      rfl
    · exact (tokE_end { kind := 0 } B1.out R1.out hlt rfl).alloc _
  | some x =>
    obtain ⟨aa, cl, V⟩ := x
    go_enter Tryd.func28, Tryd.ntmps28
    go_wp2_with fail
    refine HS.out.mono ?_
    rintro e w1 ⟨h4, sv, hA, hob, rfl, h3⟩
    have hK := Kept.but KR.out h4 (by omega)
    have hz1 : w.heap.size < w1.heap.size := hK.lt
    obtain ⟨q0, q1, q2, q3, q4, qf⟩ := hK.tok
    have R1 := hide h3
    have B1 := hide (HB0.out.trans h4)
    obtain ⟨sa, sc, rfl⟩ := isA_form hA
    clear h3 h4 KR HB0 HS hK hob hA
    unfold tokV
    generalize hnm : (⟨NL.toArray⟩ : ByteArray) = nm at *
    have HNM := hide hnm
    clear hnm
    go_wp2
    refine bodyPost_ret (v := tokV { kind := 3, name := NL } (.slice none 0 0)) ?_ rfl ?_
    · rw [results_cell_one rfl]
      go_simp
      rw [← HNM.out]
      rfl
    · rw [← HNM.out]
      exact (tokE_end { kind := 3, name := NL } B1.out R1.out hlt rfl).alloc _
theorem start_pany (s : ByteArray) (hs : s.size ≤ 20000) (b : Nat) (h2 : 2 ≤ b) (r : List UInt8) (w : World) (he : Env w) (hR : RdL w b s r) :
    Calls Tryd.prog 37 #[.pointer (some ⟨b, 0, none⟩)] w fun e w' => TokE w w' b s (endedL r false) e := by
  have hE : endedL r false = match tailT [] (r.dropWhile nameB) with
      | none => ({ kind := 0 }, [])
      | some (aa, cl, V) => ({ kind := 2, name := lowerL (r.takeWhile nameB), attrs := aa, closed := cl }, V) := by
    unfold endedL
    rw [tagL_tail]
    cases tailT [] (r.dropWhile nameB) <;> rfl
  rw [hE]
  refine (start_any s hs b h2 r w he hR).mono ?_
  intro e w1 h
  generalize tailT [] (r.dropWhile nameB) = RR at *
  cases RR with
  | none =>
    obtain ⟨h1, rfl, h3⟩ := h
    exact ⟨h1, h3, .slice none 0 0, .inl ⟨rfl, rfl⟩, (fun k hk => by cases hk), rfl⟩
  | some x =>
    obtain ⟨aa, cl, V⟩ := x
    obtain ⟨h1, sv, hA, hob, rfl, h3⟩ := h
    exact ⟨h1, h3, sv, hA, hob, rfl⟩

theorem skip_yes (s : ByteArray) (hs : s.size ≤ 100000) (b : Nat) (r : List UInt8) (t : ByteArray) (h : t.data.toList.isPrefixOf r = true) (w : World) (hR : RdL w b s r) :
    Calls Tryd.prog 27 #[.pointer (some ⟨b, 0, none⟩), .string t] w fun e w' => e = .returned (.bool true) ∧ RdL w' b s (r.drop t.data.toList.length) ∧ But b w w' := by
  have := skip_any s hs b r t w hR
  unfold skipL at this
  rw [h] at this
  exact this
theorem skip_no (s : ByteArray) (hs : s.size ≤ 100000) (b : Nat) (r : List UInt8) (t : ByteArray) (h : t.data.toList.isPrefixOf r = false) (w : World) (hR : RdL w b s r) :
    Calls Tryd.prog 27 #[.pointer (some ⟨b, 0, none⟩), .string t] w fun e w' => e = .returned (.bool false) ∧ RdL w' b s r ∧ But b w w' := by
  have := skip_any s hs b r t w hR
  unfold skipL at this
  rw [h] at this
  exact this
end Go.Proofs.YtlfjmgniflkapaaDoor
