/- What the document's own comment answers where its text is not empty at once; nothing that was there is written. -/
import Derived.Test.YtlfjmgniflkapaaGreatDoorWalkF4
import Derived.Deep.QuietTactic
import Derived.BigQuiet
set_option linter.unusedVariables false
set_option linter.unusedSimpArgs false
namespace Go.Proofs.YtlfjmgniflkapaaGreatDoor
open Go.RowKit

set_option maxHeartbeats 2000000 in
theorem comment_3 (s : ByteArray) (hs : s.size ≤ 100000) (p : Nat) (hp : p ≤ s.size) (h1 : hereL s ⟨#[62]⟩ p = false) (h2 : hereL s ⟨#[45, 62]⟩ p = false) (w : World) :
    Calls Tryz.prog 31 #[.string s, .int .i64 (p : Int)] w fun e w' => e = .returned (.tuple #[tokV { kind := 4, text := (restC (s.data.toList.drop p)).1 } (.slice none 0 0), .int .i64 (s.size - (restC (s.data.toList.drop p)).2.length : Nat)]) ∧ Below w.heap.size w w' := by
  have HH := hide (here_any s ⟨#[62]⟩ (by omega) (by decide) (by decide) p (by omega))
  have HG := hide (here_any s ⟨#[45, 62]⟩ (by omega) (by decide) (by decide) p (by omega))
  rw [h1] at HH
  rw [h2] at HG
  clear h1 h2
  have H3 := hide (fun k (hk : k ≤ s.size) => here_any s ⟨#[45, 45, 62]⟩ (by omega) (by decide) (by decide) k (by omega))
  have H4 := hide (fun k (hk : k ≤ s.size) => here_any s ⟨#[45, 45, 33, 62]⟩ (by omega) (by decide) (by decide) k (by omega))
  generalize hL : s.data.toList.drop p = L at *
  have HLd : Hid (∀ j, s.data.toList.drop (p + j) = L.drop j) := hide (fun j => by rw [← hL, List.drop_drop])
  have hLl : L.length = s.size - p := by rw [← hL, List.length_drop, ← size_list]
  have HLx : Hid (∀ j, s.extract p (p + j) = ⟨(L.take j).toArray⟩) := hide (fun j => str_of _ _ (by rw [Lib.extract_data, hL, Nat.add_sub_cancel_left]))
  have HX : Hid ((s.extract p s.size).data.toList = L) := hide (by rw [Lib.extract_data, hL, List.take_of_length_le (by omega)])
  have HXs : Hid ((s.extract p s.size).size = s.size - p) := hide (by rw [ByteArray.size_extract]; omega)
  have HRS := hide (restC_some L)
  have HRN := hide (restC_none L)
  generalize restC L = R at *
  clear hL
  go_enter Tryz.func31, Tryz.ntmps31
  go_wp2_with fail
  refine (HH.out _).mono ?_
  rintro e w1 ⟨rfl, rfl⟩
  go_wp2_with fail
  refine (HG.out _).mono ?_
  rintro e w1 ⟨rfl, rfl⟩
  go_wp2
  go_loop [6] (fun i => ∃ j : Nat, p + j ≤ s.size ∧ i = .int .i64 ((p + j : Nat) : Int) ∧ Hid (PreC L (L.drop j) j)) (fun i => s.size - (intOf i).toNat)
  case atStart => exact ⟨0, hp, rfl, hide (preC_start L)⟩
  case round =>
    obtain ⟨j, hj, rfl, HP⟩ := hrel
    by_cases hlt : p + j < s.size
    · have hlt2 : ((p + j : Nat) : Int) < s.size := by omega
      have h3 := H3.out (p + j) (by omega)
      have h4 := H4.out (p + j) (by omega)
      rw [show hereL s ⟨#[45, 45, 62]⟩ (p + j) = [45, 45, 62].isPrefixOf (L.drop j) by unfold hereL; rw [HLd.out j]] at h3
      rw [show hereL s ⟨#[45, 45, 33, 62]⟩ (p + j) = [45, 45, 33, 62].isPrefixOf (L.drop j) by unfold hereL; rw [HLd.out j]] at h4
      have Q3 := hide h3
      have Q4 := hide h4
      have hdl : (L.drop j).length = s.size - p - j := by rw [List.length_drop, hLl]
      clear h3 h4
      cases hb3 : ([45, 45, 62] : List UInt8).isPrefixOf (L.drop j) with
      | true =>
        have hR := HRS.out _ (preC_3 L j hb3 HP.out)
        have hpl := (List.isPrefixOf_iff_prefix.1 hb3).length_le
        rw [hdl] at hpl
        rw [hb3] at Q3
        have hN : s.size - R.2.length = p + j + 3 := by
          rw [hR]
          simp only [List.length_drop, hLl, List.length_cons, List.length_nil] at hpl ⊢
          omega
        have HT : Hid (s.extract p (p + j) = ⟨R.1.toArray⟩) := hide (by rw [hR]; exact HLx.out j)
        clear hR hb3 hpl hdl HP Q4 HRS HRN
        generalize hx : p + j = x at *
        go_wp2_with fail
        refine (Q3.out _).mono ?_
        rintro e w1 ⟨rfl, rfl⟩
        go_wp2
        all_goals (try simp only [Exit.inBlock, Exit.then])
        all_goals refine bodyPost_ret (v := .tuple #[tokV { kind := 4, text := R.1 } (.slice none 0 0), .int .i64 (s.size - R.2.length : Nat)]) ?_ rfl ⟨rfl, below_alloc _ _⟩
        all_goals (rw [results_cell_tmp rfl]; go_simp)
        all_goals (rw [HT.out]; rfl)
      | false =>
        rw [hb3] at Q3
        cases hb4 : ([45, 45, 33, 62] : List UInt8).isPrefixOf (L.drop j) with
        | true =>
          have hR := HRS.out _ (preC_4 L j hb3 hb4 HP.out)
          have hpl := (List.isPrefixOf_iff_prefix.1 hb4).length_le
          rw [hdl] at hpl
          rw [hb4] at Q4
          have hN : s.size - R.2.length = p + j + 4 := by
            rw [hR]
            simp only [List.length_drop, hLl, List.length_cons, List.length_nil] at hpl ⊢
            omega
          have HT : Hid (s.extract p (p + j) = ⟨R.1.toArray⟩) := hide (by rw [hR]; exact HLx.out j)
          clear hR hb3 hb4 hpl hdl HP HRS HRN
          generalize hx : p + j = x at *
          go_wp2_with fail
          refine (Q3.out _).mono ?_
          rintro e w1 ⟨rfl, rfl⟩
          go_wp2_with fail
          refine (Q4.out _).mono ?_
          rintro e w1 ⟨rfl, rfl⟩
          go_wp2
          all_goals (try simp only [Exit.inBlock, Exit.then])
          all_goals refine bodyPost_ret (v := .tuple #[tokV { kind := 4, text := R.1 } (.slice none 0 0), .int .i64 (s.size - R.2.length : Nat)]) ?_ rfl ⟨rfl, below_alloc _ _⟩
          all_goals (rw [results_cell_tmp rfl]; go_simp)
          all_goals (rw [HT.out]; rfl)
        | false =>
          rw [hb4] at Q4
          have HP2 : Hid (PreC L (L.drop (j + 1)) (j + 1)) := by
            refine hide ?_
            have hj2 : j < L.length := by omega
            have hdc := List.drop_eq_getElem_cons hj2
            rw [hdc] at hb3 hb4
            exact preC_step L j _ _ hdc hb3 hb4 HP.out
          clear hb3 hb4 hdl HP HRS HRN
          generalize hx : p + j = x at *
          go_wp2_with fail
          refine (Q3.out _).mono ?_
          rintro e w1 ⟨rfl, rfl⟩
          go_wp2_with fail
          refine (Q4.out _).mono ?_
          rintro e w1 ⟨rfl, rfl⟩
          go_wp2
          go_round
          case rel => exact ⟨j + 1, by omega, by (refine congrArg _ ?_; omega), HP2⟩
          case measure => simp [intOf]; omega
    · have hlt2 : ¬ ((p + j : Nat) : Int) < s.size := by omega
      have hR := HRN.out (preC_end L j (by have := HP.out; rw [List.drop_eq_nil_of_le (by omega)] at this; exact this))
      have S3 : Hid (∀ w, Calls Tryz.prog 28 #[.string (s.extract p s.size), .int .i64 (((s.extract p s.size).size : Int) - 3), .string ⟨#[45, 45, 33]⟩] w fun e w' => e = .returned (.bool (([45, 45, 33] : List UInt8).isSuffixOf (s.extract p s.size).data.toList)) ∧ w' = w) := hide (suf_any (s.extract p s.size) ⟨#[45, 45, 33]⟩ (by rw [HXs.out]; omega) (by decide) (by decide))
      have S2 : Hid (∀ w, Calls Tryz.prog 28 #[.string (s.extract p s.size), .int .i64 (((s.extract p s.size).size : Int) - 2), .string ⟨#[45, 45]⟩] w fun e w' => e = .returned (.bool (([45, 45] : List UInt8).isSuffixOf (s.extract p s.size).data.toList)) ∧ w' = w) := hide (suf_any (s.extract p s.size) ⟨#[45, 45]⟩ (by rw [HXs.out]; omega) (by decide) (by decide))
      have S1 : Hid (∀ w, Calls Tryz.prog 28 #[.string (s.extract p s.size), .int .i64 (((s.extract p s.size).size : Int) - 1), .string ⟨#[45]⟩] w fun e w' => e = .returned (.bool (([45] : List UInt8).isSuffixOf (s.extract p s.size).data.toList)) ∧ w' = w) := hide (suf_any (s.extract p s.size) ⟨#[45]⟩ (by rw [HXs.out]; omega) (by decide) (by decide))
      have hT3 := trim_3 (s.extract p s.size)
      have hT2 := trim_2 (s.extract p s.size)
      have hT1 := trim_1 (s.extract p s.size)
      have hT0 := trim_0 (s.extract p s.size)
      have hxs := HXs.out
      rw [HX.out] at S3 S2 S1 hT3 hT2 hT1 hT0
      have hE : R = (trimC L, []) := hR
      have hN : s.size - R.2.length = s.size := by rw [hE]; rfl
      have hTR : trimC L = R.1 := by rw [hE]
      rw [hTR] at hT3 hT2 hT1 hT0
      have HT3 := hide hT3
      have HT2 := hide hT2
      have HT1 := hide hT1
      have HT0 := hide hT0
      clear hT3 hT2 hT1 hT0 hR hE hTR HP H3 H4 HRS HRN HX HXs HLx HLd
      have L3 : ([45, 45, 33] : List UInt8).isSuffixOf L = true → 3 ≤ s.size - p := fun h => by
        have := (List.isSuffixOf_iff_suffix.1 h).length_le
        rw [hLl] at this
        exact this
      have L2 : ([45, 45] : List UInt8).isSuffixOf L = true → 2 ≤ s.size - p := fun h => by
        have := (List.isSuffixOf_iff_suffix.1 h).length_le
        rw [hLl] at this
        exact this
      have L1 : ([45] : List UInt8).isSuffixOf L = true → 1 ≤ s.size - p := fun h => by
        have := (List.isSuffixOf_iff_suffix.1 h).length_le
        rw [hLl] at this
        exact this
      rw [← hxs] at L3 L2 L1
      have hts : (s.extract p s.size).size ≤ 100000 := by omega
      clear hxs
      generalize hx : s.extract p s.size = t at *
      generalize ([45, 45, 33] : List UInt8).isSuffixOf L = B3 at *
      generalize ([45, 45] : List UInt8).isSuffixOf L = B2 at *
      generalize ([45] : List UInt8).isSuffixOf L = B1 at *
      have HL3 := hide L3
      have HL2 := hide L2
      have HL1 := hide L1
      clear L3 L2 L1
      go_wp2
      go_loopw [9] (fun ti wr => ∃ i : Nat, i ≤ 3 ∧ ti = .int .i64 (i : Int) ∧ Below ((w.alloc (.cells #[.int .i64 0, .string ⟨#[]⟩, .slice none 0 0, .bool false, .string ⟨#[]⟩] 29)).alloc (.cells #[.string ⟨#[45, 45, 33]⟩, .string ⟨#[45, 45]⟩, .string ⟨#[45]⟩] 9)).heap.size ((w.alloc (.cells #[.int .i64 0, .string ⟨#[]⟩, .slice none 0 0, .bool false, .string ⟨#[]⟩] 29)).alloc (.cells #[.string ⟨#[45, 45, 33]⟩, .string ⟨#[45, 45]⟩, .string ⟨#[45]⟩] 9)) wr ∧ Hid ((1 ≤ i → B3 = false) ∧ (2 ≤ i → B2 = false) ∧ (3 ≤ i → B1 = false))) (fun ti _ => 3 - (intOf ti).toNat)
      case atStart => exact ⟨0, by omega, rfl, Below.refl _ _, hide ⟨by omega, by omega, by omega⟩⟩
      case round =>
        obtain ⟨i, hi, rfl, bw, HB⟩ := hrel
        obtain ⟨hcell, hfz⟩ := bcell bw
        have hz : w.heap.size + 1 < wr.heap.size := by have := bw.size; simp at this; omega
        have hcA := fun o => hcell w.heap.size o (by simp; omega)
        have hcB := fun o => hcell (w.heap.size + 1) o (by simp)
        have hfA := fun o => hfz w.heap.size o (by simp; omega)
        have HBW := hide bw
        clear bw hcell hfz
        simp [World.cell?_alloc_mark] at hcA
        rcases (by omega : i = 0 ∨ i = 1 ∨ i = 2 ∨ i = 3) with rfl | rfl | rfl | rfl
        · cases B3
          · clear HT3 HT2 HT1 HT0
            have hwr : IntKind.i64.wrap ((t.size : Int) - 3) = (t.size : Int) - 3 := by rw [IntKind.wrap_i64]; omega
            go_wp2_with fail
            go_quiet ((go_at_call 28; exact Calls.quiet_of_same (S3.out _)))
            go_wp2
            go_roundw
            case rel => exact ⟨1, by omega, rfl, below_drewN HBW.out _, hide ⟨fun _ => by trivial, by omega, by omega⟩⟩
            case measure => simp [intOf]
          · have HT := hide (HT3.out rfl)
            have hle := HL3.out rfl
            clear HT3 HT2 HT1 HT0 HB
            have hwr : IntKind.i64.wrap ((t.size : Int) - 3) = (t.size : Int) - 3 := by rw [IntKind.wrap_i64]; omega
            go_wp2_with fail
            go_quiet ((go_at_call 28; exact Calls.quiet_of_same (S3.out _)))
            go_wp2
            all_goals (try simp only [Exit.inBlock, Exit.then])
            refine bodyPost_ret (v := .tuple #[tokV { kind := 4, text := R.1 } (.slice none 0 0), .int .i64 (s.size - R.2.length : Nat)]) ?_ rfl ⟨rfl, below_set5b (((below_alloc w _).alloc (by simp) _).trans ((below_drewN HBW.out _).mono (by simp; omega))) _ _ _ _ _⟩
            rw [results_cell_tmp rfl]
            go_simp
            rw [HT.out]; rfl
        · obtain ⟨q3, _, _⟩ := HB.out
          have q3 := q3 (by omega)
          subst q3
          cases B2
          · clear HT3 HT2 HT1 HT0
            have hwr : IntKind.i64.wrap ((t.size : Int) - 2) = (t.size : Int) - 2 := by rw [IntKind.wrap_i64]; omega
            go_wp2_with fail
            go_quiet ((go_at_call 28; exact Calls.quiet_of_same (S2.out _)))
            go_wp2
            go_roundw
            case rel => exact ⟨2, by omega, rfl, below_drewN HBW.out _, hide ⟨fun _ => by trivial, fun _ => by trivial, by omega⟩⟩
            case measure => simp [intOf]
          · have HT := hide (HT2.out rfl rfl)
            have hle := HL2.out rfl
            clear HT3 HT2 HT1 HT0 HB
            have hwr : IntKind.i64.wrap ((t.size : Int) - 2) = (t.size : Int) - 2 := by rw [IntKind.wrap_i64]; omega
            go_wp2_with fail
            go_quiet ((go_at_call 28; exact Calls.quiet_of_same (S2.out _)))
            go_wp2
            all_goals (try simp only [Exit.inBlock, Exit.then])
            refine bodyPost_ret (v := .tuple #[tokV { kind := 4, text := R.1 } (.slice none 0 0), .int .i64 (s.size - R.2.length : Nat)]) ?_ rfl ⟨rfl, below_set5b (((below_alloc w _).alloc (by simp) _).trans ((below_drewN HBW.out _).mono (by simp; omega))) _ _ _ _ _⟩
            rw [results_cell_tmp rfl]
            go_simp
            rw [HT.out]; rfl
        · obtain ⟨q3, q2, _⟩ := HB.out
          have q3 := q3 (by omega)
          have q2 := q2 (by omega)
          subst q3 q2
          cases B1
          · clear HT3 HT2 HT1 HT0
            have hwr : IntKind.i64.wrap ((t.size : Int) - 1) = (t.size : Int) - 1 := by rw [IntKind.wrap_i64]; omega
            go_wp2_with fail
            go_quiet ((go_at_call 28; exact Calls.quiet_of_same (S1.out _)))
            go_wp2
            go_roundw
            case rel => exact ⟨3, by omega, rfl, below_drewN HBW.out _, hide ⟨fun _ => by trivial, fun _ => by trivial, fun _ => by trivial⟩⟩
            case measure => simp [intOf]
          · have HT := hide (HT1.out rfl rfl rfl)
            have hle := HL1.out rfl
            clear HT3 HT2 HT1 HT0 HB
            have hwr : IntKind.i64.wrap ((t.size : Int) - 1) = (t.size : Int) - 1 := by rw [IntKind.wrap_i64]; omega
            go_wp2_with fail
            go_quiet ((go_at_call 28; exact Calls.quiet_of_same (S1.out _)))
            go_wp2
            all_goals (try simp only [Exit.inBlock, Exit.then])
            refine bodyPost_ret (v := .tuple #[tokV { kind := 4, text := R.1 } (.slice none 0 0), .int .i64 (s.size - R.2.length : Nat)]) ?_ rfl ⟨rfl, below_set5b (((below_alloc w _).alloc (by simp) _).trans ((below_drewN HBW.out _).mono (by simp; omega))) _ _ _ _ _⟩
            rw [results_cell_tmp rfl]
            go_simp
            rw [HT.out]; rfl
        · obtain ⟨q3, q2, q1⟩ := HB.out
          have q3 := q3 (by omega)
          have q2 := q2 (by omega)
          have q1 := q1 (by omega)
          subst q3 q2 q1
          have HT := hide (HT0.out rfl rfl rfl)
          clear HT3 HT2 HT1 HT0 HB
          go_wp2
          all_goals (try simp only [Exit.inBlock, Exit.then])
          refine bodyPost_ret (v := .tuple #[tokV { kind := 4, text := R.1 } (.slice none 0 0), .int .i64 (s.size : Int)]) ?_ rfl ⟨rfl, below_set5b (((below_alloc w _).alloc (by simp) _).trans (HBW.out.mono (by simp; omega))) _ _ _ _ _⟩
          rw [results_cell_tmp rfl]
          go_simp
          exact congrArg (fun x : ByteArray => Value.agg #[.int .i64 4, .string ⟨#[]⟩, .slice none 0 0, .bool false, .string x]) HT.out

theorem comment_any (s : ByteArray) (hs : s.size ≤ 100000) (p : Nat) (hp : p ≤ s.size) (w : World) : ∃ T V : List UInt8, commentL (s.data.toList.drop p) = ({ kind := 4, text := T }, V) ∧
    Calls Tryz.prog 31 #[.string s, .int .i64 (p : Int)] w fun e w' => e = .returned (.tuple #[tokV { kind := 4, text := T } (.slice none 0 0), .int .i64 (s.size - V.length : Nat)]) ∧ Below w.heap.size w w' := by
  have hl : (s.data.toList.drop p).length = s.size - p := by rw [List.length_drop, ← size_list]
  cases h1 : hereL s ⟨#[62]⟩ p with
  | true =>
    have h1' : ([62] : List UInt8).isPrefixOf (s.data.toList.drop p) = true := h1
    have hpl := (List.isPrefixOf_iff_prefix.1 h1').length_le
    refine ⟨[], (s.data.toList.drop p).drop 1, by unfold commentL; rw [if_pos h1'], ?_⟩
    rw [show s.size - ((s.data.toList.drop p).drop 1).length = p + 1 by rw [List.length_drop, hl]; simp at hpl; omega]
    exact comment_1 s hs p hp h1 w
  | false =>
    have h1' : ([62] : List UInt8).isPrefixOf (s.data.toList.drop p) = false := h1
    cases h2 : hereL s ⟨#[45, 62]⟩ p with
    | true =>
      have h2' : ([45, 62] : List UInt8).isPrefixOf (s.data.toList.drop p) = true := h2
      have hpl := (List.isPrefixOf_iff_prefix.1 h2').length_le
      refine ⟨[], (s.data.toList.drop p).drop 2, by unfold commentL; rw [if_neg (by rw [h1']; decide), if_pos h2'], ?_⟩
      rw [show s.size - ((s.data.toList.drop p).drop 2).length = p + 2 by rw [List.length_drop, hl]; simp at hpl; omega]
      exact comment_2 s hs p hp h1 h2 w
    | false =>
      have h2' : ([45, 62] : List UInt8).isPrefixOf (s.data.toList.drop p) = false := h2
      refine ⟨(restC (s.data.toList.drop p)).1, (restC (s.data.toList.drop p)).2, ?_, comment_3 s hs p hp h1 h2 w⟩
      unfold commentL restC
      rw [if_neg (by rw [h1']; decide), if_neg (by rw [h2']; decide)]
      cases findC (s.data.toList.drop p) <;> rfl
end Go.Proofs.YtlfjmgniflkapaaGreatDoor
