import Derived.Test.YtlfjmgniflkapaaGreatDoorBunK
import Derived.Test.YtlfjmgniflkapaaGreatDoorDataL
/- What the document's own data answers; nothing that was there is written. -/
set_option linter.unusedVariables false
set_option linter.unusedSimpArgs false
namespace Go.Proofs.YtlfjmgniflkapaaGreatDoor
open Go.RowKit

theorem TokAt.plain {w w' : World} {e : Ending} {s : ByteArray} {t : Tok} {V : List UInt8} (ht : t.attrs = []) (h : e = .returned (.tuple #[tokV t (.slice none 0 0), .int .i64 (s.size - V.length : Nat)])) : TokAt w w' e s (t, V) :=
  ⟨.slice none 0 0, .inl ⟨rfl, ht⟩, (fun k hk => by cases hk), h⟩
theorem text4 (s : ByteArray) (hs : s.size ≤ 100000) (k : Nat) (hk : k ≤ s.size) (w : World) :
    Calls Tryz.prog 27 #[.string s, .int .i64 (k : Int)] w fun e w' => TokAt w w' e s ({ kind := 1, text := decL false (spanT (s.data.toList.drop k)).1 }, (spanT (s.data.toList.drop k)).2) ∧ Below w.heap.size w w' :=
  (text_any s hs k hk w).mono fun e w' ⟨h1, h2⟩ => ⟨.plain rfl h1, h2⟩
theorem other4 (s : ByteArray) (hs : s.size ≤ 100000) (k : Nat) (hk : k ≤ s.size) (w : World) :
    Calls Tryz.prog 30 #[.string s, .int .i64 (k : Int)] w fun e w' => TokAt w w' e s (otherL (s.data.toList.drop k)) ∧ Below w.heap.size w w' :=
  (other_any s (by omega) k hk w).mono fun e w' ⟨h1, h2⟩ => ⟨.plain rfl h1, h2⟩
theorem comment4 (s : ByteArray) (hs : s.size ≤ 100000) (k : Nat) (hk : k ≤ s.size) (w : World) :
    Calls Tryz.prog 31 #[.string s, .int .i64 (k : Int)] w fun e w' => TokAt w w' e s (commentL (s.data.toList.drop k)) ∧ Below w.heap.size w w' := by
  obtain ⟨T, V, h1, h2⟩ := comment_any s hs k hk w
  rw [h1]
  exact h2.mono fun e w' ⟨h3, h4⟩ => ⟨.plain rfl h3, h4⟩
theorem ended4 (s : ByteArray) (hs : s.size ≤ 100000) (k : Nat) (hk : k ≤ s.size) (w : World) :
    Calls Tryz.prog 16 #[.string s, .int .i64 (k : Int), .int .i64 2] w fun e w' => TokAt w w' e s (endedL (s.data.toList.drop k) false) ∧ Below w.heap.size w w' := ended_any s hs k hk false w
theorem stopped4 (s : ByteArray) (hs : s.size ≤ 100000) (k : Nat) (hk : k ≤ s.size) (w : World) :
    Calls Tryz.prog 16 #[.string s, .int .i64 (k : Int), .int .i64 3] w fun e w' => TokAt w w' e s (endedL (s.data.toList.drop k) true) ∧ Below w.heap.size w w' := ended_any s hs k hk true w

set_option maxHeartbeats 4000000 in
set_option maxRecDepth 50000 in
theorem data_any (s : ByteArray) (hs : s.size ≤ 100000) (p : Nat) (hp : p ≤ s.size) (f : Bool) (w : World) :
    Calls Tryz.prog 14 #[.string s, .int .i64 (p : Int), .bool f] w fun e w' => TokAt w w' e s (dataL f (s.data.toList.drop p)) ∧ Below w.heap.size w w' := by
  generalize hRR : dataL f (s.data.toList.drop p) = RR
  have HRR := hide hRR
  clear hRR
  have HBG := hide (fun k (hk : k ≤ s.size) => begins_any s (by omega) k hk)
  have H1 := hide (fun k (hk : k ≤ s.size) => here_any s ⟨#[60, 47, 62]⟩ (by omega) (by decide) (by decide) k (by omega))
  have H2 := hide (fun k (hk : k ≤ s.size) => here_any s ⟨#[60, 47]⟩ (by omega) (by decide) (by decide) k (by omega))
  have H3 := hide (fun k (hk : k ≤ s.size) => here_any s ⟨#[60, 33, 45, 45]⟩ (by omega) (by decide) (by decide) k (by omega))
  have H4 := hide (fun k (hk : k ≤ s.size) => here_any s ⟨#[60, 33, 91, 67, 68, 65, 84, 65, 91]⟩ (by omega) (by decide) (by decide) k (by omega))
  have H5 := hide (fun k (hk : k ≤ s.size) => here_any s ⟨#[60, 33]⟩ (by omega) (by decide) (by decide) k (by omega))
  have H6 := hide (fun k (hk : k ≤ s.size) => here_any s ⟨#[60, 63]⟩ (by omega) (by decide) (by decide) k (by omega))
  go_enter Tryz.func14, Tryz.ntmps14
  go_wp2
  go_loopw [1] (fun ta wr => ∃ k : Nat, ta = .int .i64 (k : Int) ∧ k ≤ s.size ∧ Below (w.alloc (.cells #[.int .i64 0, .string ⟨#[]⟩, .slice none 0 0, .bool false, .string ⟨#[]⟩] 29)).heap.size (w.alloc (.cells #[.int .i64 0, .string ⟨#[]⟩, .slice none 0 0, .bool false, .string ⟨#[]⟩] 29)) wr ∧ Hid (dataL f (s.data.toList.drop k) = RR)) (fun ta _ => s.size - (intOf ta).toNat)
  case atStart => exact ⟨p, rfl, hp, Below.refl _ _, HRR⟩
  case round =>
    obtain ⟨k, rfl, hk, bwr, HK⟩ := hrel
    have HBW := hide bwr
    clear bwr
    by_cases hlt : k < s.size
    · have hlt2 : (k : Int) < s.size := by omega
      have hne : s.data.toList.drop k ≠ [] := by rw [drop_cons s k hlt]; simp
      have hll : (s.data.toList.drop k).length = s.size - k := by rw [List.length_drop, ← size_list]
      have Q0 := hide (HBG.out k hk)
      cases hb0 : beginsB (s.data.toList.drop k) with
      | false =>
        rw [hb0] at Q0
        have hv := data_text f _ hne hb0
        rw [HK.out] at hv
        have HL := hide (text4 s hs k hk)
        rw [← hv] at HL
        clear hv hb0 hne hll HBG H1 H2 H3 H4 H5 H6 HK HRR
        go_wp2_with fail
        refine (Q0.out _).mono ?_
        rintro e w1 ⟨rfl, rfl⟩
        go_wp2_with fail
        refine (HL.out _).mono ?_
        rintro e w1 ⟨⟨sv, hA, hob, rfl⟩, b1⟩
        have hsz := HBW.out.size
        have bb := HBW.out.trans (b1.mono hsz)
        obtain ⟨hcell, hfz⟩ := bcell bb
        have hz : w.heap.size < w1.heap.size := by have := bb.size; simp at this; omega
        have HBB := hide bb
        have HA := hide hA
        have hob2 : ∀ k, sv.ownBlock = some k → w.heap.size + 1 ≤ k := fun k hk => by have := hob k hk; simp at hsz; omega
        have HOB := hide hob2
        obtain ⟨sa, sn, sc, rfl⟩ : ∃ a n c, sv = .slice a n c := by
          rcases hA with ⟨h, _⟩ | ⟨b, o, cap, h, _⟩
          · exact ⟨_, _, _, h⟩
          · exact ⟨_, _, _, h⟩
        clear b1 hA hob hob2 bb hsz
        unfold tokV
        go_wp2_with fail
        all_goals (try simp only [Exit.inBlock, Exit.then])
        refine bodyPost_ret (v := .tuple #[tokV RR.1 (.slice sa sn sc), .int .i64 (s.size - RR.2.length : Nat)]) ?_ rfl ⟨⟨.slice sa sn sc, ?_, (fun k hk => by have := HOB.out k hk; omega), rfl⟩, ?_⟩
        · rw [results_cell_tmp rfl]
          go_simp
          rfl
        · have hn : ∀ k, (Value.slice sa sn sc).ownBlock = some k → k ≠ w.heap.size := fun k hk => by have := HOB.out k hk; omega
          exact ((((HA.out.set _ _ hn).set _ _ hn).set _ _ hn).set _ _ hn).set _ _ hn
        · exact below_set5 _ HBB.out _ _ _ _ _
      | true =>
        rw [hb0] at Q0
        have hb2 : 2 ≤ s.size - k := by
          obtain ⟨c, q, hq, _⟩ := begins_form _ hb0
          rw [hq] at hll
          simp at hll
          omega
        have Q1 : Hid (∀ w, Calls Tryz.prog 28 #[.string s, .int .i64 (k : Int), .string ⟨#[60, 47, 62]⟩] w fun e w' => e = .returned (.bool (([60, 47, 62] : List UInt8).isPrefixOf (s.data.toList.drop k))) ∧ w' = w) := hide (H1.out k hk)
        cases hb1 : ([60, 47, 62] : List UInt8).isPrefixOf (s.data.toList.drop k) with
        | true =>
          rw [hb1] at Q1
          have hv := data_skip f _ hne hb0 hb1
          have hpl := (List.isPrefixOf_iff_prefix.1 hb1).length_le
          rw [hll] at hpl
          have hpl3 : 3 ≤ s.size - k := hpl
          rw [HK.out, List.drop_drop] at hv
          have HK2 := hide hv.symm
          clear hv hpl hb0 hb1 hne hll HBG H1 H2 H3 H4 H5 H6 HK HRR
          go_wp2_with fail
          refine (Q0.out _).mono ?_
          rintro e w1 ⟨rfl, rfl⟩
          go_wp2_with fail
          refine (Q1.out _).mono ?_
          rintro e w1 ⟨rfl, rfl⟩
          go_wp2
          go_roundw
          case rel => exact ⟨k + 3, by go_num, by omega, HBW.out, HK2⟩
          case measure => simp [intOf]; omega
        | false =>
          have Q2 : Hid (∀ w, Calls Tryz.prog 28 #[.string s, .int .i64 (k : Int), .string ⟨#[60, 47]⟩] w fun e w' => e = .returned (.bool (([60, 47] : List UInt8).isPrefixOf (s.data.toList.drop k))) ∧ w' = w) := hide (H2.out k hk)
          rw [hb1] at Q1
          cases hb2' : ([60, 47] : List UInt8).isPrefixOf (s.data.toList.drop k) with
          | true =>
            rw [hb2'] at Q2
            have hk2 : k + 2 < s.size := by
              obtain ⟨c, q, hq, hc⟩ := begins_form _ hb0
              rw [hq] at hb2' hll
              simp [List.isPrefixOf] at hb2'
              subst hb2'
              rcases hc with hc | hc | hc | ⟨_, hc⟩
              · exact absurd hc (by decide)
              · exact absurd hc (by decide)
              · exact absurd hc (by decide)
              · cases q with
                | nil => exact absurd rfl hc
                | cons x y => simp at hll; omega
            have hg : (s.data.toList.drop k).getD 2 0 = s[k + 2] := by
              rw [List.getD_eq_getElem?_getD, drop_at s k 2 hk2]
              rfl
            have hv := data_end f _ hne hb0 hb1 hb2'
            rw [HK.out, hg, List.drop_drop] at hv
            have hix := index4_at s (k + 2) ((k : Int) + 2) (by omega) hk2
            have QL := hide (rletter_any (s[k + 2]).toNat)
            have hk2i : (k : Int) + 2 < s.size := by omega
            cases hlet : letterN (s[k + 2]).toNat with
            | true =>
              rw [hlet, if_pos rfl] at hv
              rw [hlet] at QL
              have HL := hide (stopped4 s hs (k + 2) (by omega))
              rw [← hv] at HL
              clear hv hg hlet hb0 hb1 hb2' hne hll HBG H1 H2 H3 H4 H5 H6 HK HRR
              go_wp2_with fail
              refine (Q0.out _).mono ?_
              rintro e w1 ⟨rfl, rfl⟩
              go_wp2_with fail
              refine (Q1.out _).mono ?_
              rintro e w1 ⟨rfl, rfl⟩
              go_wp2_with fail
              refine (Q2.out _).mono ?_
              rintro e w1 ⟨rfl, rfl⟩
              go_wp2_with fail
              refine (QL.out _).mono ?_
              rintro e w1 ⟨rfl, rfl⟩
              go_wp2_with fail
              refine (HL.out _).mono ?_
              rintro e w1 ⟨⟨sv, hA, hob, rfl⟩, b1⟩
              have hsz := HBW.out.size
              have bb := HBW.out.trans (b1.mono hsz)
              obtain ⟨hcell, hfz⟩ := bcell bb
              have hz : w.heap.size < w1.heap.size := by have := bb.size; simp at this; omega
              have HBB := hide bb
              have HA := hide hA
              have hob2 : ∀ k, sv.ownBlock = some k → w.heap.size + 1 ≤ k := fun k hk => by have := hob k hk; simp at hsz; omega
              have HOB := hide hob2
              obtain ⟨sa, sn, sc, rfl⟩ : ∃ a n c, sv = .slice a n c := by
                rcases hA with ⟨h, _⟩ | ⟨b, o, cap, h, _⟩
                · exact ⟨_, _, _, h⟩
                · exact ⟨_, _, _, h⟩
              clear b1 hA hob hob2 bb hsz
              unfold tokV
              go_wp2_with fail
              all_goals (try simp only [Exit.inBlock, Exit.then])
              refine bodyPost_ret (v := .tuple #[tokV RR.1 (.slice sa sn sc), .int .i64 (s.size - RR.2.length : Nat)]) ?_ rfl ⟨⟨.slice sa sn sc, ?_, (fun k hk => by have := HOB.out k hk; omega), rfl⟩, ?_⟩
              · rw [results_cell_tmp rfl]
                go_simp
                rfl
              · have hn : ∀ k, (Value.slice sa sn sc).ownBlock = some k → k ≠ w.heap.size := fun k hk => by have := HOB.out k hk; omega
                exact ((((HA.out.set _ _ hn).set _ _ hn).set _ _ hn).set _ _ hn).set _ _ hn
              · exact below_set5 _ HBB.out _ _ _ _ _
            | false =>
              rw [hlet, if_neg (by decide)] at hv
              rw [hlet] at QL
              have HL := hide (other4 s hs (k + 2) (by omega))
              rw [← hv] at HL
              clear hv hg hlet hb0 hb1 hb2' hne hll HBG H1 H2 H3 H4 H5 H6 HK HRR
              go_wp2_with fail
              refine (Q0.out _).mono ?_
              rintro e w1 ⟨rfl, rfl⟩
              go_wp2_with fail
              refine (Q1.out _).mono ?_
              rintro e w1 ⟨rfl, rfl⟩
              go_wp2_with fail
              refine (Q2.out _).mono ?_
              rintro e w1 ⟨rfl, rfl⟩
              go_wp2_with fail
              refine (QL.out _).mono ?_
              rintro e w1 ⟨rfl, rfl⟩
              go_wp2_with fail
              refine (HL.out _).mono ?_
              rintro e w1 ⟨⟨sv, hA, hob, rfl⟩, b1⟩
              have hsz := HBW.out.size
              have bb := HBW.out.trans (b1.mono hsz)
              obtain ⟨hcell, hfz⟩ := bcell bb
              have hz : w.heap.size < w1.heap.size := by have := bb.size; simp at this; omega
              have HBB := hide bb
              have HA := hide hA
              have hob2 : ∀ k, sv.ownBlock = some k → w.heap.size + 1 ≤ k := fun k hk => by have := hob k hk; simp at hsz; omega
              have HOB := hide hob2
              obtain ⟨sa, sn, sc, rfl⟩ : ∃ a n c, sv = .slice a n c := by
                rcases hA with ⟨h, _⟩ | ⟨b, o, cap, h, _⟩
                · exact ⟨_, _, _, h⟩
                · exact ⟨_, _, _, h⟩
              clear b1 hA hob hob2 bb hsz
              unfold tokV
              go_wp2_with fail
              all_goals (try simp only [Exit.inBlock, Exit.then])
              refine bodyPost_ret (v := .tuple #[tokV RR.1 (.slice sa sn sc), .int .i64 (s.size - RR.2.length : Nat)]) ?_ rfl ⟨⟨.slice sa sn sc, ?_, (fun k hk => by have := HOB.out k hk; omega), rfl⟩, ?_⟩
              · rw [results_cell_tmp rfl]
                go_simp
                rfl
              · have hn : ∀ k, (Value.slice sa sn sc).ownBlock = some k → k ≠ w.heap.size := fun k hk => by have := HOB.out k hk; omega
                exact ((((HA.out.set _ _ hn).set _ _ hn).set _ _ hn).set _ _ hn).set _ _ hn
              · exact below_set5 _ HBB.out _ _ _ _ _
          | false =>
            rw [hb2'] at Q2
            have Q3 : Hid (∀ w, Calls Tryz.prog 28 #[.string s, .int .i64 (k : Int), .string ⟨#[60, 33, 45, 45]⟩] w fun e w' => e = .returned (.bool (([60, 33, 45, 45] : List UInt8).isPrefixOf (s.data.toList.drop k))) ∧ w' = w) := hide (H3.out k hk)
            cases hb3 : ([60, 33, 45, 45] : List UInt8).isPrefixOf (s.data.toList.drop k) with
            | true =>
              rw [hb3] at Q3
              have hpl := (List.isPrefixOf_iff_prefix.1 hb3).length_le
              rw [hll] at hpl
              have hpl4 : 4 ≤ s.size - k := hpl
              have hv := data_comment f _ hne hb0 hb1 hb2' hb3
              rw [HK.out, List.drop_drop] at hv
              have HL := hide (comment4 s hs (k + 4) (by omega))
              rw [← hv] at HL
              clear hv hpl hb0 hb1 hb2' hb3 hne hll HBG H1 H2 H3 H4 H5 H6 HK HRR
              go_wp2_with fail
              refine (Q0.out _).mono ?_
              rintro e w1 ⟨rfl, rfl⟩
              go_wp2_with fail
              refine (Q1.out _).mono ?_
              rintro e w1 ⟨rfl, rfl⟩
              go_wp2_with fail
              refine (Q2.out _).mono ?_
              rintro e w1 ⟨rfl, rfl⟩
              go_wp2_with fail
              refine (Q3.out _).mono ?_
              rintro e w1 ⟨rfl, rfl⟩
              go_wp2_with fail
              refine (HL.out _).mono ?_
              rintro e w1 ⟨⟨sv, hA, hob, rfl⟩, b1⟩
              have hsz := HBW.out.size
              have bb := HBW.out.trans (b1.mono hsz)
              obtain ⟨hcell, hfz⟩ := bcell bb
              have hz : w.heap.size < w1.heap.size := by have := bb.size; simp at this; omega
              have HBB := hide bb
              have HA := hide hA
              have hob2 : ∀ k, sv.ownBlock = some k → w.heap.size + 1 ≤ k := fun k hk => by have := hob k hk; simp at hsz; omega
              have HOB := hide hob2
              obtain ⟨sa, sn, sc, rfl⟩ : ∃ a n c, sv = .slice a n c := by
                rcases hA with ⟨h, _⟩ | ⟨b, o, cap, h, _⟩
                · exact ⟨_, _, _, h⟩
                · exact ⟨_, _, _, h⟩
              clear b1 hA hob hob2 bb hsz
              unfold tokV
              go_wp2_with fail
              all_goals (try simp only [Exit.inBlock, Exit.then])
              refine bodyPost_ret (v := .tuple #[tokV RR.1 (.slice sa sn sc), .int .i64 (s.size - RR.2.length : Nat)]) ?_ rfl ⟨⟨.slice sa sn sc, ?_, (fun k hk => by have := HOB.out k hk; omega), rfl⟩, ?_⟩
              · rw [results_cell_tmp rfl]
                go_simp
                rfl
              · have hn : ∀ k, (Value.slice sa sn sc).ownBlock = some k → k ≠ w.heap.size := fun k hk => by have := HOB.out k hk; omega
                exact ((((HA.out.set _ _ hn).set _ _ hn).set _ _ hn).set _ _ hn).set _ _ hn
              · exact below_set5 _ HBB.out _ _ _ _ _
            | false =>
              rw [hb3] at Q3
              have Q4 : Hid (∀ w, Calls Tryz.prog 28 #[.string s, .int .i64 (k : Int), .string ⟨#[60, 33, 91, 67, 68, 65, 84, 65, 91]⟩] w fun e w' => e = .returned (.bool (([60, 33, 91, 67, 68, 65, 84, 65, 91] : List UInt8).isPrefixOf (s.data.toList.drop k))) ∧ w' = w) := hide (H4.out k hk)
              have Q5 : Hid (∀ w, Calls Tryz.prog 28 #[.string s, .int .i64 (k : Int), .string ⟨#[60, 33]⟩] w fun e w' => e = .returned (.bool (([60, 33] : List UInt8).isPrefixOf (s.data.toList.drop k))) ∧ w' = w) := hide (H5.out k hk)
              have Q6 : Hid (∀ w, Calls Tryz.prog 28 #[.string s, .int .i64 (k : Int), .string ⟨#[60, 63]⟩] w fun e w' => e = .returned (.bool (([60, 63] : List UInt8).isPrefixOf (s.data.toList.drop k))) ∧ w' = w) := hide (H6.out k hk)
              cases hb4 : (f && cdataM.isPrefixOf (s.data.toList.drop k)) with
              | true =>
                obtain ⟨rfl, hb4'⟩ : f = true ∧ cdataM.isPrefixOf (s.data.toList.drop k) = true := by simpa using hb4
                rw [show ([60, 33, 91, 67, 68, 65, 84, 65, 91] : List UInt8).isPrefixOf (s.data.toList.drop k) = true from hb4'] at Q4
                have hpl := (List.isPrefixOf_iff_prefix.1 hb4').length_le
                rw [hll] at hpl
                have hpl9 : 9 ≤ s.size - k := hpl
                have hv := data_cdata _ hne hb0 hb1 hb2' hb3 hb4'
                rw [HK.out, List.drop_drop] at hv
                have hcd := cdata_any s (by omega) (k + 9) (by omega)
                have hap := findR_app [93, 93, 62] (s.data.toList.drop (k + 9))
                generalize hT : (findR [93, 93, 62] (s.data.toList.drop (k + 9))).1 = T at *
                generalize hV : (findR [93, 93, 62] (s.data.toList.drop (k + 9))).2 = V at *
                have hbk := drop_back s (k + 9) (by omega) (T ++ V.take 3) (V.drop 3) (by rw [List.append_assoc, List.take_append_drop]; exact hap)
                have hE1 : k + 9 ≤ s.size - (V.drop 3).length := hbk.2.1
                have hE2 : s.size - (V.drop 3).length ≤ s.size := hbk.2.2.1
                have HC := hide hcd
                by_cases hTe : T = []
                · subst hTe
                  rw [if_pos rfl, ← hbk.1] at hv
                  have HK2 := hide hv.symm
                  clear hv hpl hb0 hb1 hb2' hb3 hb4 hb4' hne hll hT hV hap hbk hcd HBG H1 H2 H3 H4 H5 H6 HK HRR
                  generalize s.size - (V.drop 3).length = E at *
                  go_wp2_with fail
                  refine (Q0.out _).mono ?_
                  rintro e w1 ⟨rfl, rfl⟩
                  go_wp2_with fail
                  refine (Q1.out _).mono ?_
                  rintro e w1 ⟨rfl, rfl⟩
                  go_wp2_with fail
                  refine (Q2.out _).mono ?_
                  rintro e w1 ⟨rfl, rfl⟩
                  go_wp2_with fail
                  refine (Q3.out _).mono ?_
                  rintro e w1 ⟨rfl, rfl⟩
                  go_wp2_with fail
                  refine (Q4.out _).mono ?_
                  rintro e w1 ⟨rfl, rfl⟩
                  go_wp2_with fail
                  refine (HC.out _).mono ?_
                  rintro e w1 ⟨rfl, b1⟩
                  have HB2 := hide ((HBW.out.trans (b1.mono HBW.out.size)).alloc (HBW.out.trans (b1.mono HBW.out.size)).size (.cells #[.int .i64 1, .string ⟨#[]⟩, .slice none 0 0, .bool false, .string ⟨#[]⟩] 29))
                  unfold tokV
                  go_wp2_with fail
                  go_roundw
                  case rel => exact ⟨E, rfl, hE2, HB2.out, HK2⟩
                  case measure => simp [intOf]; omega
                · rw [if_neg hTe] at hv
                  have hTb : T.isEmpty = false := by cases T with | nil => exact absurd rfl hTe | cons a b => rfl
                  clear hpl hb0 hb1 hb2' hb3 hb4 hb4' hne hll hT hV hap hbk hcd HBG H1 H2 H3 H4 H5 H6 HK HRR
                  subst hv
                  generalize hNN : s.size - (V.drop 3).length = E at *
                  have HNN := hide hNN
                  clear hNN
                  go_wp2_with fail
                  refine (Q0.out _).mono ?_
                  rintro e w1 ⟨rfl, rfl⟩
                  go_wp2_with fail
                  refine (Q1.out _).mono ?_
                  rintro e w1 ⟨rfl, rfl⟩
                  go_wp2_with fail
                  refine (Q2.out _).mono ?_
                  rintro e w1 ⟨rfl, rfl⟩
                  go_wp2_with fail
                  refine (Q3.out _).mono ?_
                  rintro e w1 ⟨rfl, rfl⟩
                  go_wp2_with fail
                  refine (Q4.out _).mono ?_
                  rintro e w1 ⟨rfl, rfl⟩
                  go_wp2_with fail
                  refine (HC.out _).mono ?_
                  rintro e w1 ⟨rfl, b1⟩
                  have bb := HBW.out.trans (b1.mono HBW.out.size)
                  obtain ⟨hcell, hfz⟩ := bcell bb
                  have hz : w.heap.size < w1.heap.size := by have := bb.size; simp at this; omega
                  have HBB := hide bb
                  clear bb b1
                  unfold tokV
                  go_wp2_with fail
                  all_goals (try simp only [Exit.inBlock, Exit.then])
                  refine bodyPost_ret (v := .tuple #[tokV { kind := 1, text := T } (.slice none 0 0), .int .i64 (E : Int)]) ?_ rfl ⟨TokAt.plain rfl (by rw [HNN.out]), ?_⟩
                  · rw [results_cell_tmp rfl]
                    go_simp
                    rfl
                  · have h := below_set5 _ HBB.out (.int .i64 1) (.string ⟨#[]⟩) (.slice none 0 0) (.bool false) (.string ⟨T.toArray⟩)
                    exact h.alloc h.size _
              | false =>
                cases f
                · cases hb5 : ([60, 33] : List UInt8).isPrefixOf (s.data.toList.drop k) with
                  | true =>
                    rw [hb5] at Q5
                    have hv := data_bang false _ hne hb0 hb1 hb2' hb3 hb4 hb5
                    rw [HK.out, List.drop_drop, List.drop_drop, hll] at hv
                    by_cases h9 : k + 9 ≤ s.size
                    · have h9i : (k : Int) + 9 ≤ s.size := by omega
                      have hlow := rlower_any (s.extract (k + 2) (k + 9)) (by rw [ByteArray.size_extract]; omega)
                      rw [show (s.extract (k + 2) (k + 9)).data.toList = (s.data.toList.drop (k + 2)).take 7 by rw [Lib.extract_data, show k + 9 - (k + 2) = 7 by omega]] at hlow
                      generalize lowerL ((s.data.toList.drop (k + 2)).take 7) = LW at *
                      have HLW := hide hlow
                      by_cases hd : LW = doctypeM
                      · have hdb : ((⟨LW.toArray⟩ : ByteArray).toList == [100, 111, 99, 116, 121, 112, 101]) = true := by rw [Lib.toList_data, str_data, hd]; rfl
                        have hdb2 : (LW == [100, 111, 99, 116, 121, 112, 101]) = true := by rw [hd]; rfl
                        rw [if_pos ⟨by omega, hd⟩] at hv
                        have HO := hide (other_any s (by omega) (k + 9) h9)
                        have hv2 : RR = ({ kind := 5 }, (findR [62] (s.data.toList.drop (k + 9))).2.drop 1) := hv
                        clear hv hd hlow hb0 hb1 hb2' hb3 hb4 hb5 hne hll HBG H1 H2 H3 H4 H5 H6 HK HRR
                        generalize (findR [62] (s.data.toList.drop (k + 9))).1 = T at *
                        generalize (findR [62] (s.data.toList.drop (k + 9))).2.drop 1 = V at *
                        subst hv2
                        go_wp2_with fail
                        refine (Q0.out _).mono ?_
                        rintro e w1 ⟨rfl, rfl⟩
                        go_wp2_with fail
                        refine (Q1.out _).mono ?_
                        rintro e w1 ⟨rfl, rfl⟩
                        go_wp2_with fail
                        refine (Q2.out _).mono ?_
                        rintro e w1 ⟨rfl, rfl⟩
                        go_wp2_with fail
                        refine (Q3.out _).mono ?_
                        rintro e w1 ⟨rfl, rfl⟩
                        go_wp2_with fail
                        refine (Q5.out _).mono ?_
                        rintro e w1 ⟨rfl, rfl⟩
                        go_wp2_with fail
                        refine (HLW.out _).mono ?_
                        rintro e w2 ⟨rfl, b2⟩
                        go_wp2_with fail
                        refine (HO.out _).mono ?_
                        rintro e w1 ⟨rfl, b1⟩
                        have b12 := b2.trans (b1.mono b2.size)
                        have bb := HBW.out.trans (b12.mono HBW.out.size)
                        obtain ⟨hcell, hfz⟩ := bcell bb
                        have hz : w.heap.size < w1.heap.size := by have := bb.size; simp at this; omega
                        have HBB := hide bb
                        clear bb b1 b2 b12
                        unfold tokV
                        go_wp2_with fail
                        all_goals (try simp only [Exit.inBlock, Exit.then])
                        refine bodyPost_ret (v := .tuple #[tokV { kind := 5 } (.slice none 0 0), .int .i64 (s.size - V.length : Nat)]) ?_ rfl ⟨TokAt.plain rfl rfl, ?_⟩
                        · rw [results_cell_tmp rfl]
                          go_simp
                          rfl
                        · have h := below_set5 _ HBB.out (.int .i64 5) (.string ⟨#[]⟩) (.slice none 0 0) (.bool false) (.string ⟨#[]⟩)
                          first | exact h | exact h.alloc h.size _
                      · have hdb : ((⟨LW.toArray⟩ : ByteArray).toList == [100, 111, 99, 116, 121, 112, 101]) = false := by rw [Lib.toList_data, str_data]; exact beq_eq_false_iff_ne.2 hd
                        have hdb2 : (LW == [100, 111, 99, 116, 121, 112, 101]) = false := beq_eq_false_iff_ne.2 hd
                        rw [if_neg (fun h => hd h.2)] at hv
                        have HL := hide (other4 s hs (k + 2) (by omega))
                        rw [← hv] at HL
                        clear hv hd hlow hb0 hb1 hb2' hb3 hb4 hb5 hne hll HBG H1 H2 H3 H4 H5 H6 HK HRR
                        go_wp2_with fail
                        refine (Q0.out _).mono ?_
                        rintro e w1 ⟨rfl, rfl⟩
                        go_wp2_with fail
                        refine (Q1.out _).mono ?_
                        rintro e w1 ⟨rfl, rfl⟩
                        go_wp2_with fail
                        refine (Q2.out _).mono ?_
                        rintro e w1 ⟨rfl, rfl⟩
                        go_wp2_with fail
                        refine (Q3.out _).mono ?_
                        rintro e w1 ⟨rfl, rfl⟩
                        go_wp2_with fail
                        refine (Q5.out _).mono ?_
                        rintro e w1 ⟨rfl, rfl⟩
                        go_wp2_with fail
                        refine (HLW.out _).mono ?_
                        rintro e w2 ⟨rfl, b2⟩
                        have HBW2 := hide (HBW.out.trans (b2.mono HBW.out.size))
                        clear b2
                        go_wp2_with fail
                        refine (HL.out _).mono ?_
                        rintro e w1 ⟨⟨sv, hA, hob, rfl⟩, b1⟩
                        have hsz := HBW2.out.size
                        have bb := HBW2.out.trans (b1.mono hsz)
                        obtain ⟨hcell, hfz⟩ := bcell bb
                        have hz : w.heap.size < w1.heap.size := by have := bb.size; simp at this; omega
                        have HBB := hide bb
                        have HA := hide hA
                        have hob2 : ∀ k, sv.ownBlock = some k → w.heap.size + 1 ≤ k := fun k hk => by have := hob k hk; simp at hsz; omega
                        have HOB := hide hob2
                        obtain ⟨sa, sn, sc, rfl⟩ : ∃ a n c, sv = .slice a n c := by
                          rcases hA with ⟨h, _⟩ | ⟨b, o, cap, h, _⟩
                          · exact ⟨_, _, _, h⟩
                          · exact ⟨_, _, _, h⟩
                        clear b1 hA hob hob2 bb hsz
                        unfold tokV
                        go_wp2_with fail
                        all_goals (try simp only [Exit.inBlock, Exit.then])
                        refine bodyPost_ret (v := .tuple #[tokV RR.1 (.slice sa sn sc), .int .i64 (s.size - RR.2.length : Nat)]) ?_ rfl ⟨⟨.slice sa sn sc, ?_, (fun k hk => by have := HOB.out k hk; omega), rfl⟩, ?_⟩
                        · rw [results_cell_tmp rfl]
                          go_simp
                          rfl
                        · have hn : ∀ k, (Value.slice sa sn sc).ownBlock = some k → k ≠ w.heap.size := fun k hk => by have := HOB.out k hk; omega
                          exact ((((HA.out.set _ _ hn).set _ _ hn).set _ _ hn).set _ _ hn).set _ _ hn
                        · exact below_set5 _ HBB.out _ _ _ _ _
                    · have h9i : ¬ (k : Int) + 9 ≤ s.size := by omega
                      rw [if_neg (fun h => by have := h.1; omega)] at hv
                      have HL := hide (other4 s hs (k + 2) (by omega))
                      rw [← hv] at HL
                      clear hv hb0 hb1 hb2' hb3 hb4 hb5 hne hll HBG H1 H2 H3 H4 H5 H6 HK HRR
                      go_wp2_with fail
                      refine (Q0.out _).mono ?_
                      rintro e w1 ⟨rfl, rfl⟩
                      go_wp2_with fail
                      refine (Q1.out _).mono ?_
                      rintro e w1 ⟨rfl, rfl⟩
                      go_wp2_with fail
                      refine (Q2.out _).mono ?_
                      rintro e w1 ⟨rfl, rfl⟩
                      go_wp2_with fail
                      refine (Q3.out _).mono ?_
                      rintro e w1 ⟨rfl, rfl⟩
                      go_wp2_with fail
                      refine (Q5.out _).mono ?_
                      rintro e w1 ⟨rfl, rfl⟩
                      go_wp2_with fail
                      refine (HL.out _).mono ?_
                      rintro e w1 ⟨⟨sv, hA, hob, rfl⟩, b1⟩
                      have hsz := HBW.out.size
                      have bb := HBW.out.trans (b1.mono hsz)
                      obtain ⟨hcell, hfz⟩ := bcell bb
                      have hz : w.heap.size < w1.heap.size := by have := bb.size; simp at this; omega
                      have HBB := hide bb
                      have HA := hide hA
                      have hob2 : ∀ k, sv.ownBlock = some k → w.heap.size + 1 ≤ k := fun k hk => by have := hob k hk; simp at hsz; omega
                      have HOB := hide hob2
                      obtain ⟨sa, sn, sc, rfl⟩ : ∃ a n c, sv = .slice a n c := by
                        rcases hA with ⟨h, _⟩ | ⟨b, o, cap, h, _⟩
                        · exact ⟨_, _, _, h⟩
                        · exact ⟨_, _, _, h⟩
                      clear b1 hA hob hob2 bb hsz
                      unfold tokV
                      go_wp2_with fail
                      all_goals (try simp only [Exit.inBlock, Exit.then])
                      refine bodyPost_ret (v := .tuple #[tokV RR.1 (.slice sa sn sc), .int .i64 (s.size - RR.2.length : Nat)]) ?_ rfl ⟨⟨.slice sa sn sc, ?_, (fun k hk => by have := HOB.out k hk; omega), rfl⟩, ?_⟩
                      · rw [results_cell_tmp rfl]
                        go_simp
                        rfl
                      · have hn : ∀ k, (Value.slice sa sn sc).ownBlock = some k → k ≠ w.heap.size := fun k hk => by have := HOB.out k hk; omega
                        exact ((((HA.out.set _ _ hn).set _ _ hn).set _ _ hn).set _ _ hn).set _ _ hn
                      · exact below_set5 _ HBB.out _ _ _ _ _
                  | false =>
                    rw [hb5] at Q5
                    cases hb6 : ([60, 63] : List UInt8).isPrefixOf (s.data.toList.drop k) with
                    | true =>
                      rw [hb6] at Q6
                      have hv := data_ask false _ hne hb0 hb1 hb2' hb3 hb4 hb5 hb6
                      rw [HK.out, List.drop_drop] at hv
                      have HL := hide (other4 s hs (k + 1) (by omega))
                      rw [← hv] at HL
                      clear hv hb0 hb1 hb2' hb3 hb4 hb5 hb6 hne hll HBG H1 H2 H3 H4 H5 H6 HK HRR
                      go_wp2_with fail
                      refine (Q0.out _).mono ?_
                      rintro e w1 ⟨rfl, rfl⟩
                      go_wp2_with fail
                      refine (Q1.out _).mono ?_
                      rintro e w1 ⟨rfl, rfl⟩
                      go_wp2_with fail
                      refine (Q2.out _).mono ?_
                      rintro e w1 ⟨rfl, rfl⟩
                      go_wp2_with fail
                      refine (Q3.out _).mono ?_
                      rintro e w1 ⟨rfl, rfl⟩
                      go_wp2_with fail
                      refine (Q5.out _).mono ?_
                      rintro e w1 ⟨rfl, rfl⟩
                      go_wp2_with fail
                      refine (Q6.out _).mono ?_
                      rintro e w1 ⟨rfl, rfl⟩
                      go_wp2_with fail
                      refine (HL.out _).mono ?_
                      rintro e w1 ⟨⟨sv, hA, hob, rfl⟩, b1⟩
                      have hsz := HBW.out.size
                      have bb := HBW.out.trans (b1.mono hsz)
                      obtain ⟨hcell, hfz⟩ := bcell bb
                      have hz : w.heap.size < w1.heap.size := by have := bb.size; simp at this; omega
                      have HBB := hide bb
                      have HA := hide hA
                      have hob2 : ∀ k, sv.ownBlock = some k → w.heap.size + 1 ≤ k := fun k hk => by have := hob k hk; simp at hsz; omega
                      have HOB := hide hob2
                      obtain ⟨sa, sn, sc, rfl⟩ : ∃ a n c, sv = .slice a n c := by
                        rcases hA with ⟨h, _⟩ | ⟨b, o, cap, h, _⟩
                        · exact ⟨_, _, _, h⟩
                        · exact ⟨_, _, _, h⟩
                      clear b1 hA hob hob2 bb hsz
                      unfold tokV
                      go_wp2_with fail
                      all_goals (try simp only [Exit.inBlock, Exit.then])
                      refine bodyPost_ret (v := .tuple #[tokV RR.1 (.slice sa sn sc), .int .i64 (s.size - RR.2.length : Nat)]) ?_ rfl ⟨⟨.slice sa sn sc, ?_, (fun k hk => by have := HOB.out k hk; omega), rfl⟩, ?_⟩
                      · rw [results_cell_tmp rfl]
                        go_simp
                        rfl
                      · have hn : ∀ k, (Value.slice sa sn sc).ownBlock = some k → k ≠ w.heap.size := fun k hk => by have := HOB.out k hk; omega
                        exact ((((HA.out.set _ _ hn).set _ _ hn).set _ _ hn).set _ _ hn).set _ _ hn
                      · exact below_set5 _ HBB.out _ _ _ _ _
                    | false =>
                      rw [hb6] at Q6
                      have hv := data_tag false _ hne hb0 hb1 hb2' hb3 hb4 hb5 hb6
                      rw [HK.out, List.drop_drop] at hv
                      have HL := hide (ended4 s hs (k + 1) (by omega))
                      rw [← hv] at HL
                      clear hv hb0 hb1 hb2' hb3 hb4 hb5 hb6 hne hll HBG H1 H2 H3 H4 H5 H6 HK HRR
                      go_wp2_with fail
                      refine (Q0.out _).mono ?_
                      rintro e w1 ⟨rfl, rfl⟩
                      go_wp2_with fail
                      refine (Q1.out _).mono ?_
                      rintro e w1 ⟨rfl, rfl⟩
                      go_wp2_with fail
                      refine (Q2.out _).mono ?_
                      rintro e w1 ⟨rfl, rfl⟩
                      go_wp2_with fail
                      refine (Q3.out _).mono ?_
                      rintro e w1 ⟨rfl, rfl⟩
                      go_wp2_with fail
                      refine (Q5.out _).mono ?_
                      rintro e w1 ⟨rfl, rfl⟩
                      go_wp2_with fail
                      refine (Q6.out _).mono ?_
                      rintro e w1 ⟨rfl, rfl⟩
                      go_wp2_with fail
                      refine (HL.out _).mono ?_
                      rintro e w1 ⟨⟨sv, hA, hob, rfl⟩, b1⟩
                      have hsz := HBW.out.size
                      have bb := HBW.out.trans (b1.mono hsz)
                      obtain ⟨hcell, hfz⟩ := bcell bb
                      have hz : w.heap.size < w1.heap.size := by have := bb.size; simp at this; omega
                      have HBB := hide bb
                      have HA := hide hA
                      have hob2 : ∀ k, sv.ownBlock = some k → w.heap.size + 1 ≤ k := fun k hk => by have := hob k hk; simp at hsz; omega
                      have HOB := hide hob2
                      obtain ⟨sa, sn, sc, rfl⟩ : ∃ a n c, sv = .slice a n c := by
                        rcases hA with ⟨h, _⟩ | ⟨b, o, cap, h, _⟩
                        · exact ⟨_, _, _, h⟩
                        · exact ⟨_, _, _, h⟩
                      clear b1 hA hob hob2 bb hsz
                      unfold tokV
                      go_wp2_with fail
                      all_goals (try simp only [Exit.inBlock, Exit.then])
                      refine bodyPost_ret (v := .tuple #[tokV RR.1 (.slice sa sn sc), .int .i64 (s.size - RR.2.length : Nat)]) ?_ rfl ⟨⟨.slice sa sn sc, ?_, (fun k hk => by have := HOB.out k hk; omega), rfl⟩, ?_⟩
                      · rw [results_cell_tmp rfl]
                        go_simp
                        rfl
                      · have hn : ∀ k, (Value.slice sa sn sc).ownBlock = some k → k ≠ w.heap.size := fun k hk => by have := HOB.out k hk; omega
                        exact ((((HA.out.set _ _ hn).set _ _ hn).set _ _ hn).set _ _ hn).set _ _ hn
                      · exact below_set5 _ HBB.out _ _ _ _ _
                · rw [show ([60, 33, 91, 67, 68, 65, 84, 65, 91] : List UInt8).isPrefixOf (s.data.toList.drop k) = false from hb4] at Q4
                  cases hb5 : ([60, 33] : List UInt8).isPrefixOf (s.data.toList.drop k) with
                  | true =>
                    rw [hb5] at Q5
                    have hv := data_bang true _ hne hb0 hb1 hb2' hb3 hb4 hb5
                    rw [HK.out, List.drop_drop, List.drop_drop, hll] at hv
                    by_cases h9 : k + 9 ≤ s.size
                    · have h9i : (k : Int) + 9 ≤ s.size := by omega
                      have hlow := rlower_any (s.extract (k + 2) (k + 9)) (by rw [ByteArray.size_extract]; omega)
                      rw [show (s.extract (k + 2) (k + 9)).data.toList = (s.data.toList.drop (k + 2)).take 7 by rw [Lib.extract_data, show k + 9 - (k + 2) = 7 by omega]] at hlow
                      generalize lowerL ((s.data.toList.drop (k + 2)).take 7) = LW at *
                      have HLW := hide hlow
                      by_cases hd : LW = doctypeM
                      · have hdb : ((⟨LW.toArray⟩ : ByteArray).toList == [100, 111, 99, 116, 121, 112, 101]) = true := by rw [Lib.toList_data, str_data, hd]; rfl
                        have hdb2 : (LW == [100, 111, 99, 116, 121, 112, 101]) = true := by rw [hd]; rfl
                        rw [if_pos ⟨by omega, hd⟩] at hv
                        have HO := hide (other_any s (by omega) (k + 9) h9)
                        have hv2 : RR = ({ kind := 5 }, (findR [62] (s.data.toList.drop (k + 9))).2.drop 1) := hv
                        clear hv hd hlow hb0 hb1 hb2' hb3 hb4 hb5 hne hll HBG H1 H2 H3 H4 H5 H6 HK HRR
                        generalize (findR [62] (s.data.toList.drop (k + 9))).1 = T at *
                        generalize (findR [62] (s.data.toList.drop (k + 9))).2.drop 1 = V at *
                        subst hv2
                        go_wp2_with fail
                        refine (Q0.out _).mono ?_
                        rintro e w1 ⟨rfl, rfl⟩
                        go_wp2_with fail
                        refine (Q1.out _).mono ?_
                        rintro e w1 ⟨rfl, rfl⟩
                        go_wp2_with fail
                        refine (Q2.out _).mono ?_
                        rintro e w1 ⟨rfl, rfl⟩
                        go_wp2_with fail
                        refine (Q3.out _).mono ?_
                        rintro e w1 ⟨rfl, rfl⟩
                        go_wp2_with fail
                        refine (Q4.out _).mono ?_
                        rintro e w1 ⟨rfl, rfl⟩
                        go_wp2_with fail
                        refine (Q5.out _).mono ?_
                        rintro e w1 ⟨rfl, rfl⟩
                        go_wp2_with fail
                        refine (HLW.out _).mono ?_
                        rintro e w2 ⟨rfl, b2⟩
                        go_wp2_with fail
                        refine (HO.out _).mono ?_
                        rintro e w1 ⟨rfl, b1⟩
                        have b12 := b2.trans (b1.mono b2.size)
                        have bb := HBW.out.trans (b12.mono HBW.out.size)
                        obtain ⟨hcell, hfz⟩ := bcell bb
                        have hz : w.heap.size < w1.heap.size := by have := bb.size; simp at this; omega
                        have HBB := hide bb
                        clear bb b1 b2 b12
                        unfold tokV
                        go_wp2_with fail
                        all_goals (try simp only [Exit.inBlock, Exit.then])
                        refine bodyPost_ret (v := .tuple #[tokV { kind := 5 } (.slice none 0 0), .int .i64 (s.size - V.length : Nat)]) ?_ rfl ⟨TokAt.plain rfl rfl, ?_⟩
                        · rw [results_cell_tmp rfl]
                          go_simp
                          rfl
                        · have h := below_set5 _ HBB.out (.int .i64 5) (.string ⟨#[]⟩) (.slice none 0 0) (.bool false) (.string ⟨#[]⟩)
                          first | exact h | exact h.alloc h.size _
                      · have hdb : ((⟨LW.toArray⟩ : ByteArray).toList == [100, 111, 99, 116, 121, 112, 101]) = false := by rw [Lib.toList_data, str_data]; exact beq_eq_false_iff_ne.2 hd
                        have hdb2 : (LW == [100, 111, 99, 116, 121, 112, 101]) = false := beq_eq_false_iff_ne.2 hd
                        rw [if_neg (fun h => hd h.2)] at hv
                        have HL := hide (other4 s hs (k + 2) (by omega))
                        rw [← hv] at HL
                        clear hv hd hlow hb0 hb1 hb2' hb3 hb4 hb5 hne hll HBG H1 H2 H3 H4 H5 H6 HK HRR
                        go_wp2_with fail
                        refine (Q0.out _).mono ?_
                        rintro e w1 ⟨rfl, rfl⟩
                        go_wp2_with fail
                        refine (Q1.out _).mono ?_
                        rintro e w1 ⟨rfl, rfl⟩
                        go_wp2_with fail
                        refine (Q2.out _).mono ?_
                        rintro e w1 ⟨rfl, rfl⟩
                        go_wp2_with fail
                        refine (Q3.out _).mono ?_
                        rintro e w1 ⟨rfl, rfl⟩
                        go_wp2_with fail
                        refine (Q4.out _).mono ?_
                        rintro e w1 ⟨rfl, rfl⟩
                        go_wp2_with fail
                        refine (Q5.out _).mono ?_
                        rintro e w1 ⟨rfl, rfl⟩
                        go_wp2_with fail
                        refine (HLW.out _).mono ?_
                        rintro e w2 ⟨rfl, b2⟩
                        have HBW2 := hide (HBW.out.trans (b2.mono HBW.out.size))
                        clear b2
                        go_wp2_with fail
                        refine (HL.out _).mono ?_
                        rintro e w1 ⟨⟨sv, hA, hob, rfl⟩, b1⟩
                        have hsz := HBW2.out.size
                        have bb := HBW2.out.trans (b1.mono hsz)
                        obtain ⟨hcell, hfz⟩ := bcell bb
                        have hz : w.heap.size < w1.heap.size := by have := bb.size; simp at this; omega
                        have HBB := hide bb
                        have HA := hide hA
                        have hob2 : ∀ k, sv.ownBlock = some k → w.heap.size + 1 ≤ k := fun k hk => by have := hob k hk; simp at hsz; omega
                        have HOB := hide hob2
                        obtain ⟨sa, sn, sc, rfl⟩ : ∃ a n c, sv = .slice a n c := by
                          rcases hA with ⟨h, _⟩ | ⟨b, o, cap, h, _⟩
                          · exact ⟨_, _, _, h⟩
                          · exact ⟨_, _, _, h⟩
                        clear b1 hA hob hob2 bb hsz
                        unfold tokV
                        go_wp2_with fail
                        all_goals (try simp only [Exit.inBlock, Exit.then])
                        refine bodyPost_ret (v := .tuple #[tokV RR.1 (.slice sa sn sc), .int .i64 (s.size - RR.2.length : Nat)]) ?_ rfl ⟨⟨.slice sa sn sc, ?_, (fun k hk => by have := HOB.out k hk; omega), rfl⟩, ?_⟩
                        · rw [results_cell_tmp rfl]
                          go_simp
                          rfl
                        · have hn : ∀ k, (Value.slice sa sn sc).ownBlock = some k → k ≠ w.heap.size := fun k hk => by have := HOB.out k hk; omega
                          exact ((((HA.out.set _ _ hn).set _ _ hn).set _ _ hn).set _ _ hn).set _ _ hn
                        · exact below_set5 _ HBB.out _ _ _ _ _
                    · have h9i : ¬ (k : Int) + 9 ≤ s.size := by omega
                      rw [if_neg (fun h => by have := h.1; omega)] at hv
                      have HL := hide (other4 s hs (k + 2) (by omega))
                      rw [← hv] at HL
                      clear hv hb0 hb1 hb2' hb3 hb4 hb5 hne hll HBG H1 H2 H3 H4 H5 H6 HK HRR
                      go_wp2_with fail
                      refine (Q0.out _).mono ?_
                      rintro e w1 ⟨rfl, rfl⟩
                      go_wp2_with fail
                      refine (Q1.out _).mono ?_
                      rintro e w1 ⟨rfl, rfl⟩
                      go_wp2_with fail
                      refine (Q2.out _).mono ?_
                      rintro e w1 ⟨rfl, rfl⟩
                      go_wp2_with fail
                      refine (Q3.out _).mono ?_
                      rintro e w1 ⟨rfl, rfl⟩
                      go_wp2_with fail
                      refine (Q4.out _).mono ?_
                      rintro e w1 ⟨rfl, rfl⟩
                      go_wp2_with fail
                      refine (Q5.out _).mono ?_
                      rintro e w1 ⟨rfl, rfl⟩
                      go_wp2_with fail
                      refine (HL.out _).mono ?_
                      rintro e w1 ⟨⟨sv, hA, hob, rfl⟩, b1⟩
                      have hsz := HBW.out.size
                      have bb := HBW.out.trans (b1.mono hsz)
                      obtain ⟨hcell, hfz⟩ := bcell bb
                      have hz : w.heap.size < w1.heap.size := by have := bb.size; simp at this; omega
                      have HBB := hide bb
                      have HA := hide hA
                      have hob2 : ∀ k, sv.ownBlock = some k → w.heap.size + 1 ≤ k := fun k hk => by have := hob k hk; simp at hsz; omega
                      have HOB := hide hob2
                      obtain ⟨sa, sn, sc, rfl⟩ : ∃ a n c, sv = .slice a n c := by
                        rcases hA with ⟨h, _⟩ | ⟨b, o, cap, h, _⟩
                        · exact ⟨_, _, _, h⟩
                        · exact ⟨_, _, _, h⟩
                      clear b1 hA hob hob2 bb hsz
                      unfold tokV
                      go_wp2_with fail
                      all_goals (try simp only [Exit.inBlock, Exit.then])
                      refine bodyPost_ret (v := .tuple #[tokV RR.1 (.slice sa sn sc), .int .i64 (s.size - RR.2.length : Nat)]) ?_ rfl ⟨⟨.slice sa sn sc, ?_, (fun k hk => by have := HOB.out k hk; omega), rfl⟩, ?_⟩
                      · rw [results_cell_tmp rfl]
                        go_simp
                        rfl
                      · have hn : ∀ k, (Value.slice sa sn sc).ownBlock = some k → k ≠ w.heap.size := fun k hk => by have := HOB.out k hk; omega
                        exact ((((HA.out.set _ _ hn).set _ _ hn).set _ _ hn).set _ _ hn).set _ _ hn
                      · exact below_set5 _ HBB.out _ _ _ _ _
                  | false =>
                    rw [hb5] at Q5
                    cases hb6 : ([60, 63] : List UInt8).isPrefixOf (s.data.toList.drop k) with
                    | true =>
                      rw [hb6] at Q6
                      have hv := data_ask true _ hne hb0 hb1 hb2' hb3 hb4 hb5 hb6
                      rw [HK.out, List.drop_drop] at hv
                      have HL := hide (other4 s hs (k + 1) (by omega))
                      rw [← hv] at HL
                      clear hv hb0 hb1 hb2' hb3 hb4 hb5 hb6 hne hll HBG H1 H2 H3 H4 H5 H6 HK HRR
                      go_wp2_with fail
                      refine (Q0.out _).mono ?_
                      rintro e w1 ⟨rfl, rfl⟩
                      go_wp2_with fail
                      refine (Q1.out _).mono ?_
                      rintro e w1 ⟨rfl, rfl⟩
                      go_wp2_with fail
                      refine (Q2.out _).mono ?_
                      rintro e w1 ⟨rfl, rfl⟩
                      go_wp2_with fail
                      refine (Q3.out _).mono ?_
                      rintro e w1 ⟨rfl, rfl⟩
                      go_wp2_with fail
                      refine (Q4.out _).mono ?_
                      rintro e w1 ⟨rfl, rfl⟩
                      go_wp2_with fail
                      refine (Q5.out _).mono ?_
                      rintro e w1 ⟨rfl, rfl⟩
                      go_wp2_with fail
                      refine (Q6.out _).mono ?_
                      rintro e w1 ⟨rfl, rfl⟩
                      go_wp2_with fail
                      refine (HL.out _).mono ?_
                      rintro e w1 ⟨⟨sv, hA, hob, rfl⟩, b1⟩
                      have hsz := HBW.out.size
                      have bb := HBW.out.trans (b1.mono hsz)
                      obtain ⟨hcell, hfz⟩ := bcell bb
                      have hz : w.heap.size < w1.heap.size := by have := bb.size; simp at this; omega
                      have HBB := hide bb
                      have HA := hide hA
                      have hob2 : ∀ k, sv.ownBlock = some k → w.heap.size + 1 ≤ k := fun k hk => by have := hob k hk; simp at hsz; omega
                      have HOB := hide hob2
                      obtain ⟨sa, sn, sc, rfl⟩ : ∃ a n c, sv = .slice a n c := by
                        rcases hA with ⟨h, _⟩ | ⟨b, o, cap, h, _⟩
                        · exact ⟨_, _, _, h⟩
                        · exact ⟨_, _, _, h⟩
                      clear b1 hA hob hob2 bb hsz
                      unfold tokV
                      go_wp2_with fail
                      all_goals (try simp only [Exit.inBlock, Exit.then])
                      refine bodyPost_ret (v := .tuple #[tokV RR.1 (.slice sa sn sc), .int .i64 (s.size - RR.2.length : Nat)]) ?_ rfl ⟨⟨.slice sa sn sc, ?_, (fun k hk => by have := HOB.out k hk; omega), rfl⟩, ?_⟩
                      · rw [results_cell_tmp rfl]
                        go_simp
                        rfl
                      · have hn : ∀ k, (Value.slice sa sn sc).ownBlock = some k → k ≠ w.heap.size := fun k hk => by have := HOB.out k hk; omega
                        exact ((((HA.out.set _ _ hn).set _ _ hn).set _ _ hn).set _ _ hn).set _ _ hn
                      · exact below_set5 _ HBB.out _ _ _ _ _
                    | false =>
                      rw [hb6] at Q6
                      have hv := data_tag true _ hne hb0 hb1 hb2' hb3 hb4 hb5 hb6
                      rw [HK.out, List.drop_drop] at hv
                      have HL := hide (ended4 s hs (k + 1) (by omega))
                      rw [← hv] at HL
                      clear hv hb0 hb1 hb2' hb3 hb4 hb5 hb6 hne hll HBG H1 H2 H3 H4 H5 H6 HK HRR
                      go_wp2_with fail
                      refine (Q0.out _).mono ?_
                      rintro e w1 ⟨rfl, rfl⟩
                      go_wp2_with fail
                      refine (Q1.out _).mono ?_
                      rintro e w1 ⟨rfl, rfl⟩
                      go_wp2_with fail
                      refine (Q2.out _).mono ?_
                      rintro e w1 ⟨rfl, rfl⟩
                      go_wp2_with fail
                      refine (Q3.out _).mono ?_
                      rintro e w1 ⟨rfl, rfl⟩
                      go_wp2_with fail
                      refine (Q4.out _).mono ?_
                      rintro e w1 ⟨rfl, rfl⟩
                      go_wp2_with fail
                      refine (Q5.out _).mono ?_
                      rintro e w1 ⟨rfl, rfl⟩
                      go_wp2_with fail
                      refine (Q6.out _).mono ?_
                      rintro e w1 ⟨rfl, rfl⟩
                      go_wp2_with fail
                      refine (HL.out _).mono ?_
                      rintro e w1 ⟨⟨sv, hA, hob, rfl⟩, b1⟩
                      have hsz := HBW.out.size
                      have bb := HBW.out.trans (b1.mono hsz)
                      obtain ⟨hcell, hfz⟩ := bcell bb
                      have hz : w.heap.size < w1.heap.size := by have := bb.size; simp at this; omega
                      have HBB := hide bb
                      have HA := hide hA
                      have hob2 : ∀ k, sv.ownBlock = some k → w.heap.size + 1 ≤ k := fun k hk => by have := hob k hk; simp at hsz; omega
                      have HOB := hide hob2
                      obtain ⟨sa, sn, sc, rfl⟩ : ∃ a n c, sv = .slice a n c := by
                        rcases hA with ⟨h, _⟩ | ⟨b, o, cap, h, _⟩
                        · exact ⟨_, _, _, h⟩
                        · exact ⟨_, _, _, h⟩
                      clear b1 hA hob hob2 bb hsz
                      unfold tokV
                      go_wp2_with fail
                      all_goals (try simp only [Exit.inBlock, Exit.then])
                      refine bodyPost_ret (v := .tuple #[tokV RR.1 (.slice sa sn sc), .int .i64 (s.size - RR.2.length : Nat)]) ?_ rfl ⟨⟨.slice sa sn sc, ?_, (fun k hk => by have := HOB.out k hk; omega), rfl⟩, ?_⟩
                      · rw [results_cell_tmp rfl]
                        go_simp
                        rfl
                      · have hn : ∀ k, (Value.slice sa sn sc).ownBlock = some k → k ≠ w.heap.size := fun k hk => by have := HOB.out k hk; omega
                        exact ((((HA.out.set _ _ hn).set _ _ hn).set _ _ hn).set _ _ hn).set _ _ hn
                      · exact below_set5 _ HBB.out _ _ _ _ _
    · have hke : k = s.size := by omega
      have hv : RR = ({ kind := 0 }, []) := by
        rw [← HK.out, drop_end s k (by omega)]
        rfl
      subst hv
      have hlt2 : ¬ (k : Int) < s.size := by omega
      clear HK HRR H1 H2 H3 H4 H5 H6 HBG
      obtain ⟨hcell, hfz⟩ := bcell HBW.out
      have hz : w.heap.size < wr.heap.size := by have := HBW.out.size; simp at this; omega
      go_wp2
      all_goals (try simp only [Exit.inBlock, Exit.then])
      refine bodyPost_ret (v := .tuple #[tokV { kind := 0 } (.slice none 0 0), .int .i64 (s.size : Int)]) ?_ rfl ⟨TokAt.plain rfl rfl, ?_⟩
      · rw [results_cell_tmp rfl]
        go_simp
        rfl
      · exact below_set5 _ HBW.out _ _ _ _ _
end Go.Proofs.YtlfjmgniflkapaaGreatDoor
