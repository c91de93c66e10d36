import Derived.Test.YtfohijnkeefcfaaGreatDoorKn04
import Derived.Test.YtfohijnkeefcfaaGreatDoorKn05
import Derived.Test.YtfohijnkeefcfaaGreatDoorKn30
import Derived.BigCall
set_option linter.unusedVariables false
set_option linter.unusedSimpArgs false
set_option maxRecDepth 100000
set_option maxHeartbeats 8000000
namespace Go.Proofs.YtfohijnkeefcfaaGreatDoor.S4
open Go.RowKit
theorem trim_str (n : ByteArray) (hn : n.size <= 1000000) (w : World) : Calls Tryz.prog 232 #[.string n, .string ⟨#[59]⟩] w fun e w' => e = .returned (.string ⟨(trimL n.data.toList).toArray⟩) /\ w' = w := Tryz.strings_TrimSuffix n ⟨#[59]⟩ w (by omega)
theorem named_found (n : ByteArray) (hn : n.size <= 1000000) (w : World) :
    Calls Tryz.prog 189 #[.string n] w fun e w' => e = .returned (.tuple #[.string (if foundC n.data.toList = 0 then ⟨#[]⟩ else Utf8.encode (foundC n.data.toList : Nat)), .bool (!decide (foundC n.data.toList = 0))]) /\ w' = w := by
  have HT := hide (trim_str n hn)
  have ho := openC_le (trimL n.data.toList)
  have hc := closeC_le n.data.toList
  have h1 := open_any ⟨(trimL n.data.toList).toArray⟩
  rw [str_data] at h1
  have H1 := hide h1
  clear h1 hn
  have H2 := hide (closed_any n)
  unfold foundC
  generalize openC (trimL n.data.toList) = a at *
  generalize (⟨(trimL n.data.toList).toArray⟩ : ByteArray) = t at *
  generalize closeC n.data.toList = b at *
  by_cases ha : a = 0
  · subst ha
    rw [if_pos rfl]
    by_cases hb : b = 0
    · subst hb
      rw [if_pos rfl, decide_eq_true rfl]
      go_enter Tryz.func189, Tryz.ntmps189
      go_wp2_with fail
      refine (HT.out _).mono ?_
      rintro e w1 ⟨rfl, rfl⟩
      go_wp2_with fail
      refine (H1.out _).mono ?_
      rintro e w1 ⟨rfl, rfl⟩
      go_wp2_with fail
      refine (H2.out _).mono ?_
      rintro e w1 ⟨rfl, rfl⟩
      go_wp2
      go_ret2
      exact ⟨rfl, rfl⟩
    · have e1 := ne_lit b 0 (by omega)
      rw [if_neg hb, decide_eq_false hb]
      clear hb
      go_enter Tryz.func189, Tryz.ntmps189
      go_wp2_with fail
      refine (HT.out _).mono ?_
      rintro e w1 ⟨rfl, rfl⟩
      go_wp2_with fail
      refine (H1.out _).mono ?_
      rintro e w1 ⟨rfl, rfl⟩
      go_wp2_with fail
      refine (H2.out _).mono ?_
      rintro e w1 ⟨rfl, rfl⟩
      go_wp2
      go_ret2
      exact ⟨rfl, rfl⟩
  · have e1 := ne_lit a 0 (by omega)
    rw [if_neg ha, if_neg ha, decide_eq_false ha]
    clear ha
    go_enter Tryz.func189, Tryz.ntmps189
    go_wp2_with fail
    refine (HT.out _).mono ?_
    rintro e w1 ⟨rfl, rfl⟩
    go_wp2_with fail
    refine (H1.out _).mono ?_
    rintro e w1 ⟨rfl, rfl⟩
    go_wp2
    go_ret2
    exact ⟨rfl, rfl⟩
theorem found_le (l : List UInt8) : foundC l <= 9000 := by
  have ho := openC_le (trimL l)
  have hc := closeC_le l
  unfold foundC
  split <;> assumption
end Go.Proofs.YtfohijnkeefcfaaGreatDoor.S4
namespace Go.Proofs.YtfohijnkeefcfaaGreatDoor.S4
open Go.RowKit
def nameL (attr : Bool) (r : List UInt8) : List UInt8 × Nat :=
  match longL r with
  | none => ([], 0)
  | some (c, n) => if attr && !(r[n - 1]? == some 59) && barredB r[n]? then ([], 0) else (Lib.encodeRune (c : Int), n + 1)
theorem name_none (attr : Bool) (r : List UInt8) (h : longL r = longK 0 r) : nameL attr r = ([], 0) := by
  unfold nameL
  rw [h]
  rfl
theorem name_hit (attr : Bool) (r : List UInt8) (k : Nat) (h : longL r = longK (k + 1) r) (hk : k + 1 <= r.length) (hf : foundC (r.take (k + 1)) ≠ 0) :
    nameL attr r = if attr && !(r[k]? == some 59) && barredB r[k + 1]? then ([], 0) else (Lib.encodeRune (foundC (r.take (k + 1)) : Nat), k + 2) := by
  unfold nameL
  rw [h, longK_hit k r hk hf]
  rfl
theorem barred_goes (c : UInt8) : barredB (some c) = goesN c.toNat := rfl
theorem ret_pair2 {a b : ByteArray} {x y : Int} (h1 : a = b) (h : x = y) : Ending.returned (.tuple #[.string a, .int .i64 x]) = .returned (.tuple #[.string b, .int .i64 y]) := by rw [h1, h]
theorem run_index_at (s : ByteArray) (i : Nat) (z : Int) (hz : z = i) (h : i < s.size) (w : World) :
    (Instr.index 9 (.string s) (.int .i64 z)).run Tryz.prog w = .ok (.int .u8 (s[i].toNat : Int)) w := by
  subst hz
  simp [Instr.index, asIntOf, run_underlying Tryz.underlying9, h]
theorem name_any (s : ByteArray) (hs : s.size <= 1000000) (h1 : 1 <= s.size) (attr : Bool) (w : World) :
    Calls Tryz.prog 147 #[.string s, .bool attr] w fun e w' => e = .returned (.tuple #[.string ⟨(nameL attr (s.data.toList.drop 1)).1.toArray⟩, .int .i64 ((nameL attr (s.data.toList.drop 1)).2 : Nat)]) /\ w' = w := by
  have hll : (s.data.toList.drop 1).length = s.size - 1 := by rw [List.length_drop, <- size_list]
  have HNA := hide (fun (y : Nat) (hy : y <= s.size) => named_found (s.extract 1 y) (by rw [ByteArray.size_extract]; omega))
  have HTK := hide (fun (y : Nat) => show (s.extract 1 y).data.toList = (s.data.toList.drop 1).take (y - 1) from Lib.extract_data s 1 y)
  have HGO := hide (fun (c : UInt8) => goes_any c.toNat)
  have HNO := hide (name_none attr (s.data.toList.drop 1))
  have HHI := hide (name_hit attr (s.data.toList.drop 1))
  have hst := longL_min (s.data.toList.drop 1)
  rw [hll] at hst
  have HST := hide hst
  clear hst
  have HLE := hide (fun (l : List UInt8) => found_le l)
  have HDA := hide (fun (k q : Nat) (hq : 1 + k = q) (h : q < s.size) => drop_at2 s 1 k q hq h)
  have HDE := hide (fun (k : Nat) (h : s.size <= 1 + k) => drop_at_end s 1 k h)
  generalize nameL attr (s.data.toList.drop 1) = R at *
  generalize s.data.toList.drop 1 = L at *
  go_enter Tryz.func147, Tryz.ntmps147
  go_wp2
  go_loop [6] (fun te => ∃ x : Nat, te = .int .i64 (x : Int) /\ 1 <= x /\ x <= s.size /\ x <= 9 /\ Hid (longL L = longK (x - 1) L)) (fun te => (intOf te).toNat)
  case atStart =>
    refine ⟨min (s.size - 1) 8 + 1, ?_, by omega, by omega, by omega, HST⟩
    refine congrArg _ ?_
    omega
  case round =>
    obtain ⟨x, rfl, hx1, hxs, hx9, HLK⟩ := hrel
    by_cases hx : x = 1
    · subst hx
      have HRR := hide (HNO.out HLK.out)
      clear HLK HNO HHI HNA HTK HGO HST HLE HDA HDE
      go_wp2
      go_ret2
      rw [HRR.out]
      exact ⟨rfl, rfl⟩
    · obtain ⟨k, rfl⟩ : ∃ k, x = k + 2 := ⟨x - 2, by omega⟩
      have HN := hide (HNA.out (k + 2) hxs)
      rw [HTK.out (k + 2), show k + 2 - 1 = k + 1 by omega] at HN
      have hfl := HLE.out (L.take (k + 1))
      have hx2 : (1 : Int) < ((k + 2 : Nat) : Int) := by omega
      by_cases hf : foundC (L.take (k + 1)) = 0
      · have HL2 : Hid (longL L = longK k L) := hide (by rw [HLK.out]; exact longK_miss k L (by omega) hf)
        rw [hf] at HN
        clear hf hfl HLK HNO HHI HNA HTK HGO HST HLE HDA HDE
        generalize hxx : k + 2 = x at *
        go_wp2_with fail
        refine (HN.out _).mono ?_
        rintro e w1 ⟨rfl, rfl⟩
        go_wp2
        go_round
        case rel => exact ⟨k + 1, by (refine congrArg _ ?_; omega), by omega, by omega, by omega, HL2⟩
        case measure => simp [intOf]; omega
      · have hRR := HHI.out k HLK.out (by omega) hf
        have he := encode_str (foundC (L.take (k + 1))) (by omega) (by omega)
        rw [if_neg hf, decide_eq_false hf, he] at HN
        clear he
        generalize foundC (L.take (k + 1)) = F at *
        generalize Lib.encodeRune (F : Int) = T at *
        rw [HDA.out k (k + 1) (by omega) (by omega)] at hRR
        have hix := run_index_at s (k + 1) (((k + 2 : Nat) : Int) - 1) (by omega) (by omega)
        cases attr
        · have HRR : Hid (R = (T, k + 2)) := hide (by rw [hRR]; rfl)
          clear HLK HNO HHI HNA HTK HST HLE HDA HDE hf HGO hRR hix
          generalize hxx : k + 2 = x at *
          go_wp2_with fail
          refine (HN.out _).mono ?_
          rintro e w1 ⟨rfl, rfl⟩
          go_wp2
          go_ret2
          rw [HRR.out]
          exact ⟨ret_pair2 rfl (by first | rfl | omega), rfl⟩
        · by_cases h59 : (s[k + 1]).toNat = 59
          · have HRR : Hid (R = (T, k + 2)) := hide (by rw [hRR, UInt8.toNat_inj.1 (show (s[k + 1]).toNat = (59 : UInt8).toNat from h59)]; rfl)
            rw [h59] at hix
            clear h59
            clear HLK HNO HHI HNA HTK HST HLE HDA HDE hf HGO hRR
            generalize hxx : k + 2 = x at *
            go_wp2_with fail
            refine (HN.out _).mono ?_
            rintro e w1 ⟨rfl, rfl⟩
            go_wp2
            go_ret2
            rw [HRR.out]
            exact ⟨ret_pair2 rfl (by first | rfl | omega), rfl⟩
          · have hb : (some s[k + 1] == some 59) = false := by
              rw [beq_eq_false_iff_ne]
              intro h
              exact h59 (by rw [Option.some.inj h]; rfl)
            rw [hb] at hRR
            have e1 : ¬ (((s[k + 1]).toNat : Int) = 59) := by omega
            generalize (s[k + 1]).toNat = cc at *
            clear h59 hb
            by_cases hlt : k + 2 < s.size
            · rw [HDA.out (k + 1) (k + 2) (by omega) hlt, barred_goes] at hRR
              have hlt2 : ((k + 2 : Nat) : Int) < s.size := by omega
              have hix2 := run_index_at s (k + 2) ((k + 2 : Nat) : Int) rfl hlt
              generalize (s[k + 2]).toNat = gg at *
              rcases (by omega : (gg < 48) \/ (48 <= gg /\ gg <= 57) \/ (57 < gg /\ gg < 61) \/ (gg = 61) \/ (61 < gg /\ gg < 65) \/ (65 <= gg /\ gg <= 90) \/ (90 < gg /\ gg < 97) \/ (97 <= gg /\ gg <= 122) \/ (122 < gg)) with h | h | h | h | h | h | h | h | h
              · have hg : goesN gg = false := by simp [goesN, letterN, greatN, figureN]; omega
                have HRR : Hid (R = (T, k + 2)) := hide (by rw [hRR, hg]; rfl)
                have d0 : ¬ (gg : Int) = 61 := by omega
                have b0 := ne_lit gg 61 d0
                have d1 : ¬ (65 : Int) <= gg := by omega
                have d2 : ¬ (97 : Int) <= gg := by omega
                have d3 : ¬ (48 : Int) <= gg := by omega
                clear h hg
                clear HLK HNO HHI HNA HTK HST HLE HDA HDE hf HGO hRR
                generalize hxx : k + 2 = x at *
                go_wp2_with fail
                refine (HN.out _).mono ?_
                rintro e w1 ⟨rfl, rfl⟩
                go_wp2
                go_ret2
                rw [HRR.out]
                exact ⟨ret_pair2 rfl (by first | rfl | omega), rfl⟩
              · have hg : goesN gg = true := by simp [goesN, letterN, greatN, figureN]; omega
                have HRR : Hid (R = ([], 0)) := hide (by rw [hRR, hg]; rfl)
                have d0 : ¬ (gg : Int) = 61 := by omega
                have b0 := ne_lit gg 61 d0
                have d1 : ¬ (65 : Int) <= gg := by omega
                have d2 : ¬ (97 : Int) <= gg := by omega
                have d3 : (48 : Int) <= gg := by omega
                have d4 : (gg : Int) <= 57 := by omega
                clear h hg
                clear HLK HNO HHI HNA HTK HST HLE HDA HDE hf HGO hRR
                generalize hxx : k + 2 = x at *
                go_wp2_with fail
                refine (HN.out _).mono ?_
                rintro e w1 ⟨rfl, rfl⟩
                go_wp2
                go_ret2
                rw [HRR.out]
                exact ⟨ret_pair2 rfl (by first | rfl | omega), rfl⟩
              · have hg : goesN gg = false := by simp [goesN, letterN, greatN, figureN]; omega
                have HRR : Hid (R = (T, k + 2)) := hide (by rw [hRR, hg]; rfl)
                have d0 : ¬ (gg : Int) = 61 := by omega
                have b0 := ne_lit gg 61 d0
                have d1 : ¬ (65 : Int) <= gg := by omega
                have d2 : ¬ (97 : Int) <= gg := by omega
                have d3 : (48 : Int) <= gg := by omega
                have d4 : ¬ (gg : Int) <= 57 := by omega
                clear h hg
                clear HLK HNO HHI HNA HTK HST HLE HDA HDE hf HGO hRR
                generalize hxx : k + 2 = x at *
                go_wp2_with fail
                refine (HN.out _).mono ?_
                rintro e w1 ⟨rfl, rfl⟩
                go_wp2
                go_ret2
                rw [HRR.out]
                exact ⟨ret_pair2 rfl (by first | rfl | omega), rfl⟩
              · have hg : goesN gg = true := by simp [goesN, letterN, greatN, figureN]; omega
                have HRR : Hid (R = ([], 0)) := hide (by rw [hRR, hg]; rfl)
                subst h
                clear hg
                clear HLK HNO HHI HNA HTK HST HLE HDA HDE hf HGO hRR
                generalize hxx : k + 2 = x at *
                go_wp2_with fail
                refine (HN.out _).mono ?_
                rintro e w1 ⟨rfl, rfl⟩
                go_wp2
                go_ret2
                rw [HRR.out]
                exact ⟨ret_pair2 rfl (by first | rfl | omega), rfl⟩
              · have hg : goesN gg = false := by simp [goesN, letterN, greatN, figureN]; omega
                have HRR : Hid (R = (T, k + 2)) := hide (by rw [hRR, hg]; rfl)
                have d0 : ¬ (gg : Int) = 61 := by omega
                have b0 := ne_lit gg 61 d0
                have d1 : ¬ (65 : Int) <= gg := by omega
                have d2 : ¬ (97 : Int) <= gg := by omega
                have d3 : (48 : Int) <= gg := by omega
                have d4 : ¬ (gg : Int) <= 57 := by omega
                clear h hg
                clear HLK HNO HHI HNA HTK HST HLE HDA HDE hf HGO hRR
                generalize hxx : k + 2 = x at *
                go_wp2_with fail
                refine (HN.out _).mono ?_
                rintro e w1 ⟨rfl, rfl⟩
                go_wp2
                go_ret2
                rw [HRR.out]
                exact ⟨ret_pair2 rfl (by first | rfl | omega), rfl⟩
              · have hg : goesN gg = true := by simp [goesN, letterN, greatN, figureN]; omega
                have HRR : Hid (R = ([], 0)) := hide (by rw [hRR, hg]; rfl)
                have d0 : ¬ (gg : Int) = 61 := by omega
                have b0 := ne_lit gg 61 d0
                have d1 : (65 : Int) <= gg := by omega
                have d2 : (gg : Int) <= 90 := by omega
                clear h hg
                clear HLK HNO HHI HNA HTK HST HLE HDA HDE hf HGO hRR
                generalize hxx : k + 2 = x at *
                go_wp2_with fail
                refine (HN.out _).mono ?_
                rintro e w1 ⟨rfl, rfl⟩
                go_wp2
                go_ret2
                rw [HRR.out]
                exact ⟨ret_pair2 rfl (by first | rfl | omega), rfl⟩
              · have hg : goesN gg = false := by simp [goesN, letterN, greatN, figureN]; omega
                have HRR : Hid (R = (T, k + 2)) := hide (by rw [hRR, hg]; rfl)
                have d0 : ¬ (gg : Int) = 61 := by omega
                have b0 := ne_lit gg 61 d0
                have d1 : (65 : Int) <= gg := by omega
                have d2 : ¬ (gg : Int) <= 90 := by omega
                have d3 : ¬ (97 : Int) <= gg := by omega
                have d4 : (48 : Int) <= gg := by omega
                have d5 : ¬ (gg : Int) <= 57 := by omega
                clear h hg
                clear HLK HNO HHI HNA HTK HST HLE HDA HDE hf HGO hRR
                generalize hxx : k + 2 = x at *
                go_wp2_with fail
                refine (HN.out _).mono ?_
                rintro e w1 ⟨rfl, rfl⟩
                go_wp2
                go_ret2
                rw [HRR.out]
                exact ⟨ret_pair2 rfl (by first | rfl | omega), rfl⟩
              · have hg : goesN gg = true := by simp [goesN, letterN, greatN, figureN]; omega
                have HRR : Hid (R = ([], 0)) := hide (by rw [hRR, hg]; rfl)
                have d0 : ¬ (gg : Int) = 61 := by omega
                have b0 := ne_lit gg 61 d0
                have d1 : (65 : Int) <= gg := by omega
                have d2 : ¬ (gg : Int) <= 90 := by omega
                have d3 : (97 : Int) <= gg := by omega
                have d4 : (gg : Int) <= 122 := by omega
                clear h hg
                clear HLK HNO HHI HNA HTK HST HLE HDA HDE hf HGO hRR
                generalize hxx : k + 2 = x at *
                go_wp2_with fail
                refine (HN.out _).mono ?_
                rintro e w1 ⟨rfl, rfl⟩
                go_wp2
                go_ret2
                rw [HRR.out]
                exact ⟨ret_pair2 rfl (by first | rfl | omega), rfl⟩
              · have hg : goesN gg = false := by simp [goesN, letterN, greatN, figureN]; omega
                have HRR : Hid (R = (T, k + 2)) := hide (by rw [hRR, hg]; rfl)
                have d0 : ¬ (gg : Int) = 61 := by omega
                have b0 := ne_lit gg 61 d0
                have d1 : (65 : Int) <= gg := by omega
                have d2 : ¬ (gg : Int) <= 90 := by omega
                have d3 : (97 : Int) <= gg := by omega
                have d4 : ¬ (gg : Int) <= 122 := by omega
                have d5 : (48 : Int) <= gg := by omega
                have d6 : ¬ (gg : Int) <= 57 := by omega
                clear h hg
                clear HLK HNO HHI HNA HTK HST HLE HDA HDE hf HGO hRR
                generalize hxx : k + 2 = x at *
                go_wp2_with fail
                refine (HN.out _).mono ?_
                rintro e w1 ⟨rfl, rfl⟩
                go_wp2
                go_ret2
                rw [HRR.out]
                exact ⟨ret_pair2 rfl (by first | rfl | omega), rfl⟩
            · rw [HDE.out (k + 1) (by omega)] at hRR
              have hlt2 : ¬ ((k + 2 : Nat) : Int) < s.size := by omega
              have HRR : Hid (R = (T, k + 2)) := hide (by rw [hRR]; rfl)
              clear HLK HNO HHI HNA HTK HST HLE HDA HDE hf HGO hRR
              generalize hxx : k + 2 = x at *
              go_wp2_with fail
              refine (HN.out _).mono ?_
              rintro e w1 ⟨rfl, rfl⟩
              go_wp2
              go_ret2
              rw [HRR.out]
              exact ⟨ret_pair2 rfl (by first | rfl | omega), rfl⟩
end Go.Proofs.YtfohijnkeefcfaaGreatDoor.S4
namespace Go.Proofs.YtfohijnkeefcfaaGreatDoor.S4
open Go.RowKit
theorem atL_num (attr : Bool) (r : List UInt8) (h : Lib.hasPrefix (38 :: r) [38, 35] = true) : atL attr (38 :: r) = if (numL ((38 :: r).drop 2)).2 = 0 then ([38], 1) else numL ((38 :: r).drop 2) := by
  cases r with
  | nil => exact absurd h (by decide)
  | cons c q =>
    have hc : c = 35 := by
      simp [Lib.hasPrefix, List.isPrefixOf] at h
      exact h.symm
    subst hc
    simp only [atL, if_true]
    unfold refL
    rw [if_pos (show (35 :: q : List UInt8).head? = some 35 from rfl)]
    rfl
theorem atL_name (attr : Bool) (r : List UInt8) (h : Lib.hasPrefix (38 :: r) [38, 35] = false) : atL attr (38 :: r) = if (nameL attr ((38 :: r).drop 1)).2 = 0 then ([38], 1) else nameL attr ((38 :: r).drop 1) := by
  have hh : ¬ r.head? = some 35 := by
    cases r with
    | nil => simp
    | cons c q =>
      intro hc
      simp only [List.head?_cons, Option.some.injEq] at hc
      subst hc
      simp [Lib.hasPrefix, List.isPrefixOf] at h
  simp only [atL, if_true, List.drop_succ_cons, List.drop_zero]
  unfold refL nameL
  rw [if_neg hh]
  cases longL r with
  | none => rfl
  | some p =>
    obtain ⟨c, n⟩ := p
    simp only
    split
    · rfl
    · rw [if_neg (by simp)]
theorem two_le (t : ByteArray) (h : Lib.hasPrefix t.data.toList [38, 35] = true) : 2 <= t.size := by
  have h1 := List.isPrefixOf_iff_prefix.1 (show List.isPrefixOf [38, 35] t.data.toList = true from h)
  have := h1.length_le
  rw [size_list]
  simpa using this
theorem at_in (s : ByteArray) (hs : s.size <= 1000000) (p : Nat) (hp : p < s.size) (h38 : (s[p]).toNat = 38) (attr : Bool) (w : World) (ho : OldOk w) :
    Calls Tryz.prog 93 #[.string s, .int .i64 (p : Int), .bool attr] w fun e w' => e = .returned (.tuple #[.string ⟨((atL attr (s.data.toList.drop p)).1).toArray⟩, .int .i64 ((atL attr (s.data.toList.drop p)).2 : Nat)]) /\ w' = w := by
  have hx : (s.extract p s.size).data.toList = s.data.toList.drop p := by
    rw [Lib.extract_data, List.take_of_length_le (by rw [List.length_drop, <- size_list]; omega)]
  have hsz : (s.extract p s.size).size = s.size - p := by rw [ByteArray.size_extract]; omega
  have hdc := drop_cons s p hp
  rw [UInt8.toNat_inj.1 (show (s[p]).toNat = (38 : UInt8).toNat from h38)] at hdc
  have HH : Hid (∀ w, Calls Tryz.prog 59 #[.string (s.extract p s.size), .string ⟨#[38, 35]⟩] w fun e w' => e = .returned (.bool (Lib.hasPrefix (s.data.toList.drop p) [38, 35])) /\ w' = w) := by
    refine hide fun w => ?_
    have := Tryz.strings_HasPrefix (s.extract p s.size) ⟨#[38, 35]⟩ w
    rw [hx] at this
    exact this
  have h38b := eq_lit _ 38 (by omega : ((s[p]).toNat : Int) = 38)
  have hix := run_index_at s p (p : Int) rfl hp
  rw [h38] at hix
  have d0 : ¬ (p : Int) < 0 := by omega
  have d1 : ¬ (s.size : Int) <= p := by omega
  have hp2 : (p : Int) < s.size := by omega
  cases hb : Lib.hasPrefix (s.data.toList.drop p) [38, 35] with
  | true =>
    have hn := num_any (s.extract p s.size) (by omega) (two_le _ (by rw [hx]; exact hb)) w ho
    rw [hx] at hn
    have hR := hdc ▸ atL_num attr (s.data.toList.drop (p + 1)) (hdc ▸ hb)
    rw [hb] at HH
    rw [hR]
    have HN := hide hn
    clear hn hR hb ho h38 hdc hx h38b
    generalize numL (List.drop 2 (s.data.toList.drop p)) = R at *
    obtain ⟨T, n⟩ := R
    by_cases hn0 : n = 0
    · subst hn0
      have HN' : Hid (Calls Tryz.prog 146 #[.string (s.extract p s.size)] w fun e w' => e = .returned (.tuple #[.string ⟨T.toArray⟩, .int .i64 0]) /\ w' = w) := HN
      clear HN
      rw [if_pos rfl]
      go_enter Tryz.func93, Tryz.ntmps93
      go_wp2_with fail
      refine (HH.out _).mono ?_
      rintro e w1 ⟨rfl, rfl⟩
      go_wp2_with fail
      refine HN'.out.mono ?_
      rintro e w1 ⟨rfl, rfl⟩
      go_wp2
      go_ret2
      exact ⟨rfl, rfl⟩
    · have HN' : Hid (Calls Tryz.prog 146 #[.string (s.extract p s.size)] w fun e w' => e = .returned (.tuple #[.string ⟨T.toArray⟩, .int .i64 (n : Int)]) /\ w' = w) := HN
      clear HN
      rw [if_neg hn0]
      have e1 := ne_lit n 0 (by omega)
      clear hn0
      go_enter Tryz.func93, Tryz.ntmps93
      go_wp2_with fail
      refine (HH.out _).mono ?_
      rintro e w1 ⟨rfl, rfl⟩
      go_wp2_with fail
      refine HN'.out.mono ?_
      rintro e w1 ⟨rfl, rfl⟩
      go_wp2
      go_ret2
      exact ⟨rfl, rfl⟩
  | false =>
    have hn := name_any (s.extract p s.size) (by omega) (by omega) attr w
    rw [hx] at hn
    have hR := hdc ▸ atL_name attr (s.data.toList.drop (p + 1)) (hdc ▸ hb)
    rw [hb] at HH
    rw [hR]
    have HN := hide hn
    clear hn hR hb ho h38 hdc hx h38b
    generalize nameL attr (List.drop 1 (s.data.toList.drop p)) = R at *
    obtain ⟨T, n⟩ := R
    by_cases hn0 : n = 0
    · subst hn0
      have HN' : Hid (Calls Tryz.prog 147 #[.string (s.extract p s.size), .bool attr] w fun e w' => e = .returned (.tuple #[.string ⟨T.toArray⟩, .int .i64 0]) /\ w' = w) := HN
      clear HN
      rw [if_pos rfl]
      go_enter Tryz.func93, Tryz.ntmps93
      go_wp2_with fail
      refine (HH.out _).mono ?_
      rintro e w1 ⟨rfl, rfl⟩
      go_wp2_with fail
      refine HN'.out.mono ?_
      rintro e w1 ⟨rfl, rfl⟩
      go_wp2
      go_ret2
      exact ⟨rfl, rfl⟩
    · have HN' : Hid (Calls Tryz.prog 147 #[.string (s.extract p s.size), .bool attr] w fun e w' => e = .returned (.tuple #[.string ⟨T.toArray⟩, .int .i64 (n : Int)]) /\ w' = w) := HN
      clear HN
      rw [if_neg hn0]
      have e1 := ne_lit n 0 (by omega)
      clear hn0
      go_enter Tryz.func93, Tryz.ntmps93
      go_wp2_with fail
      refine (HH.out _).mono ?_
      rintro e w1 ⟨rfl, rfl⟩
      go_wp2_with fail
      refine HN'.out.mono ?_
      rintro e w1 ⟨rfl, rfl⟩
      go_wp2
      go_ret2
      exact ⟨rfl, rfl⟩
theorem at_same (s : ByteArray) (hs : s.size <= 1000000) (z : Int) (attr : Bool) (w : World) (ho : OldOk w) :
    Calls Tryz.prog 93 #[.string s, .int .i64 z, .bool attr] w fun e w' => e = .returned (.tuple #[.string ⟨((atZ attr s.data.toList z).1).toArray⟩, .int .i64 ((atZ attr s.data.toList z).2 : Nat)]) /\ w' = w := by
  have hl := size_list s
  by_cases h0 : z < 0
  · rw [atZ_out attr _ z (.inl h0)]
    clear ho hl
    go_enter Tryz.func93, Tryz.ntmps93
    go_wp2
    go_ret2
    exact ⟨rfl, rfl⟩
  · by_cases h1 : (s.size : Int) <= z
    · rw [atZ_out attr _ z (.inr (by omega))]
      clear ho hl
      go_enter Tryz.func93, Tryz.ntmps93
      go_wp2
      go_ret2
      exact ⟨rfl, rfl⟩
    · obtain ⟨p, rfl⟩ : ∃ p : Nat, z = (p : Int) := ⟨z.toNat, by omega⟩
      have hp : p < s.size := by omega
      rw [atZ_in attr _ p (by omega)]
      by_cases hc : (s[p]).toNat = 38
      · exact at_in s hs p hp hc attr w ho
      · rw [at_other attr s p hp hc]
        have hix := run_index_at s p (p : Int) rfl hp
        have e1 := ne_lit _ 38 (by omega : ((s[p]).toNat : Int) ≠ 38)
        have e2 : ¬ ((s[p]).toNat : Int) = 38 := by omega
        generalize (s[p]).toNat = cc at *
        clear ho hl hc
        go_enter Tryz.func93, Tryz.ntmps93
        go_wp2
        go_ret2
        exact ⟨rfl, rfl⟩
end Go.Proofs.YtfohijnkeefcfaaGreatDoor.S4
namespace Go.Proofs.YtfohijnkeefcfaaGreatDoor.S4
open Go.RowKit
theorem byteCells_one (c : UInt8) : Lib.byteCells [c] = [.int .u8 (c.toNat : Int)] := rfl
theorem strCells_list (T : List UInt8) : Lib.strCells ⟨T.toArray⟩ = Lib.byteCells T := by
  simp [Lib.strCells, Lib.byteCells]
theorem decode_any (s : ByteArray) (hs : s.size <= 100000) (attr : Bool) (w : World) (ho : OldOk w) :
    Calls Tryz.prog 67 #[.string s, .bool attr] w fun e w' => e = .returned (.string ⟨(decL attr s.data.toList).toArray⟩) /\ Below w.heap.size w w' := by
  have HAT := hide (fun (z : Int) (W : World) (hb : Below w.heap.size w W) => at_same s (by omega) z attr W (ho.below hb))
  have HD : Hid (decL attr s.data.toList = decL attr s.data.toList) := rfl
  clear ho
  generalize hR : decL attr s.data.toList = R at *
  have HR := hide hR
  clear hR HD
  go_enter Tryz.func67, Tryz.ntmps67
  go_wp2
  go_loopw [6] (fun te wr => ∃ (pos : Nat) (acc : List UInt8), te = .int .i64 pos /\ Lib.IsBuilderF 66 5 w.heap.size w.heap.size (Lib.byteCells acc) wr /\ Below w.heap.size w wr /\ pos <= s.size /\ acc.length <= 4 * pos /\ Hid (acc ++ decL attr (s.data.toList.drop pos) = R)) (fun te _ => s.size - (intOf te).toNat)
  case atStart =>
    refine ⟨0, [], rfl, Lib.IsBuilderF.of (Lib.fresh_isBuilder 66 5 w), (Below.refl _ w).alloc (Nat.le_refl _) _, by omega, by simp, hide ?_⟩
    rw [List.drop_zero, List.nil_append]
    exact HR.out
  case round =>
    obtain ⟨pos, acc, rfl, hI, hbw, hps, hal, HN⟩ := hrel
    have hwz : w.heap.size <= wr.heap.size := hbw.size
    by_cases hp : pos < s.size
    · have hp2 : (pos : Int) < s.size := by omega
      have hat := HAT.out (pos : Int) wr hbw
      rw [atZ_in attr _ pos (by rw [<- size_list]; exact hp)] at hat
      by_cases hc : (s[pos]).toNat = 38
      · rw [at_amp attr s pos hp hc] at hat
        have hdc := drop_cons s pos hp
        rw [UInt8.toNat_inj.1 (show (s[pos]).toNat = (38 : UInt8).toNat from hc)] at hdc
        have hbd := refL_bd attr (s.data.toList.drop (pos + 1))
        have h4 := refL_len attr (s.data.toList.drop (pos + 1))
        rw [List.length_drop, <- size_list] at hbd
        have HN2 : Hid ((acc ++ (refL attr (s.data.toList.drop (pos + 1))).1) ++ decL attr (s.data.toList.drop (pos + (refL attr (s.data.toList.drop (pos + 1))).2)) = R) := by
          refine hide ?_
          rw [<- HN.out, hdc, decL_amp, <- hdc, List.drop_drop, List.append_assoc]
        clear HN hdc hc
        generalize refL attr (s.data.toList.drop (pos + 1)) = Q at *
        obtain ⟨T, n⟩ := Q
        have HA : Hid (Calls Tryz.prog 93 #[.string s, .int .i64 (pos : Int), .bool attr] wr fun e w' => e = .returned (.tuple #[.string ⟨T.toArray⟩, .int .i64 (n : Int)]) /\ w' = wr) := hide hat
        have HN3 : Hid ((acc ++ T) ++ decL attr (s.data.toList.drop (pos + n)) = R) := HN2
        have hb1 : 1 <= n := hbd.1
        have hb2 : n <= s.size - (pos + 1) + 1 := hbd.2.1
        have h4' : T.length <= 4 := h4
        clear hat HN2 hbd h4
        have e1 := ne_lit n 0 (by omega)
        have hts : (⟨T.toArray⟩ : ByteArray).size = T.length := by rw [size_list, str_data]
        have hsc := strCells_list T
        generalize (⟨T.toArray⟩ : ByteArray) = t at *
        go_wp2_with fail
        refine HA.out.mono ?_
        rintro e w1 ⟨rfl, rfl⟩
        go_wp2_with fail
        refine (Tryz.Builder_WriteString_k w.heap.size w.heap.size _ t _ hI (by rw [Lib.byteCells_length]; omega) hwz).mono ?_
        rintro e W1 ⟨rfl, k1, b1, _⟩
        go_wp2
        go_roundw
        case rel =>
          refine ⟨pos + n, acc ++ T, by go_num, ?_, hbw.trans b1, by omega, by rw [List.length_append]; omega, HN3⟩
          rw [Lib.byteCells_append, <- hsc]
          exact Or.inr k1
        case measure => simp [intOf]; omega
      · rw [at_other attr s pos hp hc] at hat
        have hdc := drop_cons s pos hp
        have HN2 : Hid ((acc ++ [s[pos]]) ++ decL attr (s.data.toList.drop (pos + 1)) = R) := by
          refine hide ?_
          rw [<- HN.out, hdc, decL_other _ _ _ (fun e => hc (by rw [e]; rfl)), List.append_assoc]
          rfl
        have HA : Hid (Calls Tryz.prog 93 #[.string s, .int .i64 (pos : Int), .bool attr] wr fun e w' => e = .returned (.tuple #[.string ⟨#[]⟩, .int .i64 0]) /\ w' = wr) := hide hat
        have hix := run_index_at s pos (pos : Int) rfl hp
        have hb1 := byteCells_one s[pos]
        generalize s[pos] = c at *
        clear HN hdc hc hat
        go_wp2_with fail
        refine HA.out.mono ?_
        rintro e w1 ⟨rfl, rfl⟩
        go_wp2_with fail
        refine (Tryz.Builder_WriteByte_k w.heap.size w.heap.size _ _ _ hI (by rw [Lib.byteCells_length]; omega) hwz).mono ?_
        rintro e W1 ⟨rfl, k1, b1, _⟩
        go_wp2
        go_roundw
        case rel =>
          refine ⟨pos + 1, acc ++ [c], by go_num, ?_, hbw.trans b1, by omega, by rw [List.length_append]; simp; omega, HN2⟩
          rw [Lib.byteCells_append, hb1]
          exact Or.inr k1
        case measure => simp [intOf]; omega
    · have hp2 : ¬ (pos : Int) < s.size := by omega
      have HE : Hid (acc = R) := by
        refine hide ?_
        rw [<- HN.out, drop_end s pos (by omega), decL_nil, List.append_nil]
      clear HN
      go_wp2_with fail
      refine (Tryz.Builder_String_any_k w.heap.size w.heap.size acc _ hI hwz).mono ?_
      rintro e W1 ⟨rfl, _, b1, _⟩
      go_wp2
      go_ret
      exact ⟨ret_str HE.out, hbw.trans b1⟩
end Go.Proofs.YtfohijnkeefcfaaGreatDoor.S4
