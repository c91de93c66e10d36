/- The program's start: a tag from its name on. -/
import Derived.Test.YtlfjmgniflkapaaDoorRdD
import Derived.Deep.LoopGhost
set_option linter.unusedVariables false
set_option linter.unusedSimpArgs false
namespace Go.Proofs.YtlfjmgniflkapaaDoor
open Go.RowKit Go.Maps

theorem law9 : Keyed Tryd.prog 9 := string_keyed Tryd.underlying9
theorem zeroU (w : World) : (zeroValue 76).run Tryd.prog w = .ok (.agg #[]) w := by kernel_rfl
theorem stroke_suf (T : List UInt8) : ([47] : List UInt8).isSuffixOf T = (T.getLast? == some 47) := by
  rcases List.eq_nil_or_concat T with rfl | ⟨q, x, rfl⟩
  · rfl
  · rw [List.concat_eq_append, List.getLast?_append, Bool.eq_iff_iff, List.isSuffixOf_iff_suffix]
    constructor
    · intro h
      have := List.IsSuffix.getLast h (by simp)
      simp at this
      simp [this]
    · intro h
      have h2 : x = 47 := by simpa using h
      rw [h2]
      exact List.suffix_append _ _

/-- What start tells. -/
def StartE (w w' : World) (b : Nat) (s : ByteArray) (NL : List UInt8) (RR : Option (AttrL × Bool × List UInt8)) (e : Ending) : Prop :=
  But b w w' ∧ match RR with
    | none => e = .returned (tokV { kind := 0 } (.slice none 0 0)) ∧ RdL w' b s []
    | some (aa, cl, V) => ∃ sv, IsA w' sv aa ∧ (∀ k, sv.ownBlock = some k → w.heap.size ≤ k) ∧ e = .returned (tokV { kind := 2, name := NL, closed := cl } sv) ∧ RdL w' b s V

set_option maxHeartbeats 4000000 in
theorem start_any (s : ByteArray) (hs : s.size ≤ 20000) (b : Nat) (h2 : 2 ≤ b) (r : List UInt8) (w : World) (he : Env w) (hR : RdL w b s r) :
    Calls Tryd.prog 37 #[.pointer (some ⟨b, 0, none⟩)] w fun e w' => StartE w w' b s (lowerL (r.takeWhile nameB)) (tailT [] (r.dropWhile nameB)) e := by
  have hlt := hR.lt
  have hlen := hR.len
  have hT0 := hide ((hR.below (below_alloc w (.cells tok0.toArray 32))))
  have HU := hide (fun w (h : RdL w b s r) => run_has s (by omega) b r ⟨#[32, 47, 62]⟩ nameB has_name w h)
  have hl1 := (List.takeWhile_prefix nameB (l := r)).length_le
  have hl2 := dw_le nameB r
  have hL := fun w => plower_any ⟨(r.takeWhile nameB).toArray⟩ (by rw [size_list, str_data]; omega) w
  rw [str_data] at hL
  have HL := hide hL
  have KR := hide (Kept.new w tok0 32)
  have HB0 := hide ((But.refl b w).alloc (.cells tok0.toArray 32))
  have HE := hide (he.alloc (.cells tok0.toArray 32))
  clear hL hR he
  generalize r.takeWhile nameB = T at *
  generalize lowerL T = NL at *
  generalize r.dropWhile nameB = V at *
  generalize hRR : tailT [] V = RR
  have HRR := hide hRR
  clear hRR
  have hmm := @run_makeMap Tryd.prog
  go_enter Tryd.func37, Tryd.ntmps37
  go_wp2_with fail
  refine (HU.out _ hT0.out).mono ?_
  rintro e w1 ⟨rfl, h3, h4⟩
  have R1 := hide h3
  have KR1 := hide (Kept.but KR.out h4 (by omega))
  have E1 := hide (HE.out.but h4 h2)
  have B1 := hide (HB0.out.trans h4)
  clear h3 h4 KR HE HB0 HU hT0
  generalize (⟨T.toArray⟩ : ByteArray) = x at *
  generalize hnm : (⟨NL.toArray⟩ : ByteArray) = nm at *
  have HNM := hide hnm
  clear hnm
  go_wp2_with fail
  refine (HL.out _).mono ?_
  rintro e w2 ⟨rfl, h4⟩
  have hG2 : w.heap.size < w2.heap.size := Nat.lt_of_lt_of_le KR1.out.lt h4.size
  have HS0 : Hid (StS w ((w2.alloc (.cells #[.int .i64 2, .string nm, .slice none 0 0, .bool false, .string ⟨#[]⟩] 32)).alloc (.map #[] 0)) b s V w2.heap.size nm (.slice none 0 0) []) := by
    refine hide ?_
    have bA := (below_alloc w2 (.cells #[.int .i64 2, .string nm, .slice none 0 0, .bool false, .string ⟨#[]⟩] 32))
    have bM := (below_alloc (w2.alloc (.cells #[.int .i64 2, .string nm, .slice none 0 0, .bool false, .string ⟨#[]⟩] 32)) (.map #[] 0))
    refine { but := ((B1.out.trans (.of h4)).alloc _).alloc _, env := ((E1.out.below h4).alloc _).alloc _, rd := ((R1.out.below h4).below bA).below bM, kr := ((KR1.out.below h4).alloc _).alloc _, kg := (Kept.new w2 _ _).alloc _, lt := hG2, lb := hlt, own := World.ownsRow_nil _ _ _ _, map := ?_ }
    have := World.ownsMap_made (H := Unit) (w2.alloc (.cells #[.int .i64 2, .string nm, .slice none 0 0, .bool false, .string ⟨#[]⟩] 32)) Tryd.prog 9 unitElem
    rw [show (w2.alloc (.cells #[.int .i64 2, .string nm, .slice none 0 0, .bool false, .string ⟨#[]⟩] 32)).heap.size = w2.heap.size + 1 by simp] at this
    exact this
  clear h4 R1 KR1 E1 B1 HL
  generalize hG : w2.heap.size = G at *
  go_wp2
  go_loopg [] V.length (fun g wr => ∃ (r : List UInt8) (aa : AttrL) (sv : Value), g = r.length ∧ aa.length + r.length ≤ s.size ∧ StS w wr b s r G nm sv aa ∧ Hid (tailT aa r = RR))
  case atStart => exact ⟨V, [], _, rfl, by simp; omega, HS0.out, HRR⟩
  case round =>
    obtain ⟨r, aa, sv, rfl, hbd, hS, HK⟩ := hrel
    have hlr := hS.rd.len
    have HS := hide hS
    have HU2 := hide (run_lacks s (by omega) b r ⟨#[32, 47]⟩ passB (fun c => (has_pass c).symm) wr hS.rd)
    have hdw := dw_le passB r
    have HTN := hide (tail_none aa r)
    have HTE := hide (tail_end aa r)
    have HTA := hide (tail_attr aa r)
    have HSB : Hid (strokeB r = ([47] : List UInt8).isSuffixOf (r.takeWhile passB)) := hide (by rw [stroke_suf]; rfl)
    have htw := (List.takeWhile_prefix passB (l := r)).length_le
    clear hS
    generalize r.takeWhile passB = T at *
    generalize hV : r.dropWhile passB = V at *
    go_wp2_with fail
    refine HU2.out.mono ?_
    rintro e w1 ⟨rfl, h3, h4⟩
    have hS1 := HS.out.call h2 h4 h3
    have HDN := hide (done_any s (by omega) b V w1 h3)
    have HS1 := hide hS1
    clear hS1 h3 h4 HS HU2
    generalize hX : (⟨T.toArray⟩ : ByteArray) = X at *
    have HX := hide hX
    clear hX
    cases hVc : V with
    | nil =>
      subst hVc
      have HN : Hid (RR = none) := hide (by rw [← HK.out]; exact HTN.out rfl)
      clear hV HTN HTE HTA HSB HK
      go_wp2_with fail
      refine HDN.out.mono ?_
      rintro e w3 ⟨rfl, n, rfl⟩
      have q : ∀ o, w1.cell? ⟨w.heap.size, o, none⟩ = tok0[o]? := HS1.out.kr.1
      have q0 : w1.cell? ⟨w.heap.size, 0, none⟩ = some (.int .i64 0) := q 0
      have q1 : w1.cell? ⟨w.heap.size, 1, none⟩ = some (.string ⟨#[]⟩) := q 1
      have q2 : w1.cell? ⟨w.heap.size, 2, none⟩ = some (.slice none 0 0) := q 2
      have q3 : w1.cell? ⟨w.heap.size, 3, none⟩ = some (.bool false) := q 3
      have q4 : w1.cell? ⟨w.heap.size, 4, none⟩ = some (.string ⟨#[]⟩) := q 4
      have qf : ∀ o, w1.frozen? ⟨w.heap.size, o, none⟩ = false := HS1.out.kr.2
      clear q
      go_wp2
      refine bodyPost_ret (v := tokV { kind := 0 } (.slice none 0 0)) ?_ rfl ?_
      · rw [results_cell_one rfl]
        go_simp
        rfl
      · rw [HN.out]
        exact ⟨(HS1.out.but.drewN n).put5 (Nat.le_refl _) ({ kind := 0 }, .slice none 0 0), rfl, (HS1.out.rd.drewN n).put5 (by have := HS1.out.lb; omega) ({ kind := 0 }, .slice none 0 0)⟩
    | cons c r2 =>
      subst hVc
      have hSK := fun w (h : RdL w b s (c :: r2)) => skip_any s (by omega) b (c :: r2) ⟨#[62]⟩ w h
      by_cases h62 : c = 62
      · subst h62
        have HN : Hid (RR = some (aa, strokeB r, r2)) := hide (by rw [← HK.out]; exact HTE.out r2 rfl)
        have HSK : Hid (∀ w, RdL w b s (62 :: r2) → Calls Tryd.prog 27 #[.pointer (some ⟨b, 0, none⟩), .string ⟨#[62]⟩] w fun e w' => e = .returned (.bool true) ∧ RdL w' b s r2 ∧ But b w w') := hide hSK
        have hHS := fun w => Tryd.strings_HasSuffix X ⟨#[47]⟩ w (by
          rw [← HX.out, size_list, str_data]
          omega)
        have HHS : Hid (∀ w, Calls Tryd.prog 51 #[.string X, .string ⟨#[47]⟩] w fun e w' => e = .returned (.bool (strokeB r)) ∧ w' = w) := by
          refine hide fun w => ?_
          have := hHS w
          rw [← HX.out, str_data] at this
          rw [HSB.out, ← HX.out]
          exact this
        clear hV HTN HTE HTA HSB HK hSK hHS
        generalize strokeB r = CL at *
        go_wp2_with fail
        refine HDN.out.mono ?_
        rintro e w3 ⟨rfl, n, rfl⟩
        go_wp2_with fail
        refine (HSK.out _ (HS1.out.rd.drewN n)).mono ?_
        rintro e w4 ⟨rfl, h3, h4⟩
        have hS4 := HS1.out.call h2 (((But.refl b w1).drewN n).trans h4) h3
        have HS4 := hide hS4
        clear hS4 h3 h4 HS1 HSK HDN
        go_wp2_with fail
        refine (HHS.out _).mono ?_
        rintro e w5 ⟨rfl, rfl⟩
        obtain ⟨sa, sc, rfl⟩ := owns_form HS4.out.own
        have q0 : w5.cell? ⟨w.heap.size, 0, none⟩ = some (.int .i64 0) := HS4.out.kr.1 0
        have q1 : w5.cell? ⟨w.heap.size, 1, none⟩ = some (.string ⟨#[]⟩) := HS4.out.kr.1 1
        have q2 : w5.cell? ⟨w.heap.size, 2, none⟩ = some (.slice none 0 0) := HS4.out.kr.1 2
        have q3 : w5.cell? ⟨w.heap.size, 3, none⟩ = some (.bool false) := HS4.out.kr.1 3
        have q4 : w5.cell? ⟨w.heap.size, 4, none⟩ = some (.string ⟨#[]⟩) := HS4.out.kr.1 4
        have qf : ∀ o, w5.frozen? ⟨w.heap.size, o, none⟩ = false := HS4.out.kr.2
        have g0 : w5.cell? ⟨G, 0, none⟩ = some (.int .i64 2) := HS4.out.kg.1 0
        have g1 : w5.cell? ⟨G, 1, none⟩ = some (.string nm) := HS4.out.kg.1 1
        have g2 : w5.cell? ⟨G, 2, none⟩ = some (.slice sa aa.length sc) := HS4.out.kg.1 2
        have g3 : w5.cell? ⟨G, 3, none⟩ = some (.bool false) := HS4.out.kg.1 3
        have g4 : w5.cell? ⟨G, 4, none⟩ = some (.string ⟨#[]⟩) := HS4.out.kg.1 4
        have gf : ∀ o, w5.frozen? ⟨G, o, none⟩ = false := HS4.out.kg.2
        have hGR : w.heap.size ≠ G := Nat.ne_of_lt HS4.out.lt
        go_wp2
        refine bodyPost_ret (v := tokV { kind := 2, name := NL, closed := CL } (.slice sa aa.length sc)) ?_ rfl ?_
        · rw [results_cell_one rfl]
          go_simp
          rw [← HNM.out]
          rfl
        · rw [HN.out]
          have hlG := HS4.out.lt
          have hlb := HS4.out.lb
          have hob := owns_block HS4.out.own
          have hA := owns_isA HS4.out.own
          rw [← HNM.out]
          refine ⟨(HS4.out.but.setNew ⟨G, 3, none⟩ (by simp only; omega) _).put5 (Nat.le_refl _) ({ kind := 2, name := NL, closed := CL }, .slice sa aa.length sc), .slice sa aa.length sc, ?_, fun k hk => by have := hob k hk; omega, rfl, ?_⟩
          · exact (hA.set ⟨G, 3, none⟩ _ (fun k hk => by have := hob k hk; simp only; omega)).put5 w.heap.size (fun k hk => by have := hob k hk; omega) ({ kind := 2, name := NL, closed := CL }, .slice sa aa.length sc)
          · exact (HS4.out.rd.other ⟨G, 3, none⟩ (by simp only; omega) _).put5 (by omega) ({ kind := 2, name := NL, closed := CL }, .slice sa aa.length sc)
      · have HN : Hid (tailT (addA aa (attrL c r2).1) (attrL c r2).2 = RR) := hide (by rw [← HK.out]; exact (HTA.out c r2 rfl h62).symm)
        have hpre : ([62] : List UInt8).isPrefixOf (c :: r2) = false := by
          have e : ¬ (62 : UInt8) = c := fun e => h62 e.symm
          simp [List.isPrefixOf, e]
        have HSK : Hid (∀ w, RdL w b s (c :: r2) → Calls Tryd.prog 27 #[.pointer (some ⟨b, 0, none⟩), .string ⟨#[62]⟩] w fun e w' => e = .returned (.bool false) ∧ RdL w' b s (c :: r2) ∧ But b w w') := by
          refine hide fun w h => ?_
          have := hSK w h
          rw [show skipL (⟨#[62]⟩ : ByteArray).data.toList (c :: r2) = c :: r2 by unfold skipL; rw [show (⟨#[62]⟩ : ByteArray).data.toList.isPrefixOf (c :: r2) = false from hpre]; rfl, show (⟨#[62]⟩ : ByteArray).data.toList.isPrefixOf (c :: r2) = false from hpre] at this
          exact this
        have HAT := hide (fun w he (h : RdL w b s (c :: r2)) => attr_any s hs b h2 c r2 w he h)
        have hal := attrL_len c r2
        have hanl := attrL_name c r2
        have hvl := congrArg List.length hV
        simp only [List.length_cons] at hdw
        clear hV HTN HTE HTA HSB HK hSK hpre h62 hvl
        generalize attrL c r2 = AL at *
        obtain ⟨⟨an, av⟩, V'⟩ := AL
        simp only at hal hanl
        go_wp2_with fail
        refine HDN.out.mono ?_
        rintro e w3 ⟨rfl, n, rfl⟩
        go_wp2_with fail
        refine (HSK.out _ (HS1.out.rd.drewN n)).mono ?_
        rintro e w4 ⟨rfl, h3, h4⟩
        have hS4 := HS1.out.call h2 (((But.refl b w1).drewN n).trans h4) h3
        have HS4 := hide hS4
        clear hS4 h3 h4 HS1 HSK HDN
        go_wp2_with fail
        refine (HAT.out _ HS4.out.env HS4.out.rd).mono ?_
        rintro e w5 ⟨rfl, h3, h4⟩
        have HS4b := hide (HS4.out.call h2 h4 h3)
        have hS5 := (HS4.out.call h2 h4 h3).below h2 (below_alloc w5 (.cells #[.string ⟨an.toArray⟩, .string ⟨av.toArray⟩] 36))
        have HS5 := hide hS5
        have KA := hide (Kept.new w5 [.string ⟨an.toArray⟩, .string ⟨av.toArray⟩] 36)
        have hkey : keyOf Tryd.prog 9 (.string ⟨an.toArray⟩) = some (.string an) := by
          have := Go.WideMaps.keyOf_string_mk (P := Tryd.prog) Tryd.underlying9 (s := ⟨an.toArray⟩) (by rw [size_list, str_data]; unfold maxLen; omega)
          rw [str_data] at this
          exact this
        have hown := hS5.map
        have hhas := namesD_has aa an
        clear h3 h4 HS4 HAT
        cases hg : (getA aa an).isSome with
        | true =>
          rw [hg] at hhas
          have hadd : addA aa (an, av) = aa := by unfold addA; rw [if_pos hg]
          have HN2 : Hid (tailT aa V' = RR) := hide (by rw [← HN.out]; show tailT aa V' = tailT (addA aa (an, av)) V'; rw [hadd])
          have HS6 := hide (hS5.below h2 (below_alloc _ (.cells #[] 76)))
          clear hS5 HN hadd hg HS5
          go_wp2_with (first | (at_lookup; refine wpList_lookup_own_unit _ rfl _ _ 74 rfl 9 76 law9 Tryd.underlying74 (zeroU _) (G + 1) aa.length _ rfl hown _ _ rfl hkey ?_) | fail)
          go_roundg V'.length
          case rel => exact ⟨V', aa, sv, rfl, by omega, HS6.out, HN2⟩
          case measure => omega
        | false =>
          rw [hg] at hhas
          have hadd : addA aa (an, av) = aa ++ [(an, av)] := by unfold addA; rw [if_neg (by rw [hg]; decide)]
          have HN2 : Hid (tailT (aa ++ [(an, av)]) V' = RR) := hide (by rw [← HN.out]; show tailT _ V' = tailT (addA aa (an, av)) V'; rw [hadd])
          have hS6 := hS5.below h2 (below_alloc _ (.cells #[] 76))
          have hKA := (KA.out).alloc (.cells #[] 76)
          have hlG := hS6.kg.lt
          have hlM := hS6.map.lt
          have hlW : G + 2 ≤ w5.heap.size := by
            have h5 := (HS5.out.map).lt
            have h6 := (HS4b.out.map).lt
            omega
          obtain ⟨w6, hrun, hown1, hturn⟩ := hS6.map.store law9 Tryd.underlying74 (by unfold maxLen; omega) hkey unitElem_mk
          have hb6 : But (G + 1) ((w5.alloc (.cells #[.string ⟨an.toArray⟩, .string ⟨av.toArray⟩] 36)).alloc (.cells #[] 76)) w6 := ⟨hturn.grown.os, hturn.grown.tape, hturn.grown.output, hturn.grown.size, fun k hk hn => hturn.grown.block k hk (fun e => hn (Option.some.inj e))⟩
          rw [← namesD_snoc aa (an, av)] at hown1
          have hK6 := hKA.but hb6 (by omega)
          have hG6 := hS6.kg.but hb6 (by omega)
          have hO6 := owns_but hS6.own hb6 (by omega)
          have hz6 := hb6.size
          obtain ⟨v', w7, hr, ho, hb7⟩ := append_attr w6 (G + 2) aa.length sv aa (an, av) hO6 (by omega) (by simp at hz6; omega)
          obtain ⟨sa, sc, rfl⟩ := owns_form ho
          have HRUN := hide hr
          have HP := hide (hS6.push h2 hb6 hown1 hb7 ho)
          have g2 : w6.cell? ⟨G, 2, none⟩ = some sv := hG6.1 2
          have a0 : w6.cell? ⟨w5.heap.size, 0, none⟩ = some (.string ⟨an.toArray⟩) := hK6.1 0
          have a1 : w6.cell? ⟨w5.heap.size, 1, none⟩ = some (.string ⟨av.toArray⟩) := hK6.1 1
          have g27 : w7.cell? ⟨G, 2, none⟩ = some sv := by rw [hb7.cell (p := ⟨G, 2, none⟩) (by simp only; omega)]; exact g2
          have gf7 : w7.frozen? ⟨G, 2, none⟩ = false := by rw [hb7.frozen (p := ⟨G, 2, none⟩) (by simp only; omega)]; exact hG6.2 2
          clear hS5 HN hadd hg HS5 hS6 hKA hb6 hown1 hturn hK6 hG6 hO6 hb7 ho hr KA HS4b
          go_wp2_with (first | (at_lookup; refine wpList_lookup_own_unit _ rfl _ _ 74 rfl 9 76 law9 Tryd.underlying74 (zeroU _) (G + 1) aa.length _ rfl hown _ _ rfl hkey ?_) | (at_builtin; refine wpList_append_run rfl _ _ 22 rfl _ _ _ _ rfl rfl HRUN.out ?_) | fail)
          go_roundg V'.length
          case rel => exact ⟨V', aa ++ [(an, av)], _, rfl, by simp; omega, HP.out, HN2⟩
          case measure => omega
end Go.Proofs.YtlfjmgniflkapaaDoor
