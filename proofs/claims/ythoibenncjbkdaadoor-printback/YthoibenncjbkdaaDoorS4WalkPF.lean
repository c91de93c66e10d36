/- What the program's byName answers, of whatever text that begins with &; the world stays as it was. -/
import Derived.Test.YthoibenncjbkdaaDoorS4WalkPC
set_option linter.unusedVariables false
set_option linter.unusedSimpArgs false
set_option maxRecDepth 4000
namespace Go.Proofs.YthoibenncjbkdaaDoor.S4
open Go.RowKit

/-- The name at the front, behind the &: what it stands for and how many bytes it has with the &; ([], 0) where none is taken. -/
def nameL (attr : Bool) (r : List UInt8) : List UInt8 × Nat :=
  match longL r with
  | none => ([], 0)
  | some (c, n) => if attr && !(r[n - 1]? == some 59) && barredB r[n]? then ([], 0) else (Lib.encodeRune (c : Int), n + 1)
theorem name_none (attr : Bool) (r : List UInt8) (h : longL r = longK 0 r) : nameL attr r = ([], 0) := by
  unfold nameL
  rw [h]
  rfl
theorem name_hit (attr : Bool) (r : List UInt8) (k : Nat) (h : longL r = longK (k + 1) r) (hk : k + 1 ≤ r.length) (hf : foundC (r.take (k + 1)) ≠ 0) :
    nameL attr r = if attr && !(r[k]? == some 59) && barredB r[k + 1]? then ([], 0) else (Lib.encodeRune (foundC (r.take (k + 1)) : Nat), k + 2) := by
  unfold nameL
  rw [h, longK_hit k r hk hf]
  rfl
theorem barred_goes (c : UInt8) : barredB (some c) = goesN c.toNat := rfl
theorem ret_pair2 {a b : ByteArray} {x y : Int} (h1 : a = b) (h : x = y) : Ending.returned (.tuple #[.string a, .int .i64 x]) = .returned (.tuple #[.string b, .int .i64 y]) := by rw [h1, h]
theorem run_index_at (s : ByteArray) (i : Nat) (z : Int) (hz : z = i) (h : i < s.size) (w : World) :
    (Instr.index 9 (.string s) (.int .i64 z)).run Tryd.prog w = .ok (.int .u8 (s[i].toNat : Int)) w := by
  subst hz
  simp [Instr.index, asIntOf, run_underlying Tryd.underlying9, h]

set_option maxHeartbeats 1500000 in
theorem name_any (s : ByteArray) (hs : s.size ≤ 1000000) (h1 : 1 ≤ s.size) (attr : Bool) (w : World) :
    Calls Tryd.prog 18 #[.string s, .bool attr] w fun e w' => e = .returned (.tuple #[.string ⟨(nameL attr (s.data.toList.drop 1)).1.toArray⟩, .int .i64 ((nameL attr (s.data.toList.drop 1)).2 : Nat)]) ∧ w' = w := by
  have hll : (s.data.toList.drop 1).length = s.size - 1 := by rw [List.length_drop, ← size_list]
  have HNA := hide (fun (y : Nat) (hy : y ≤ s.size) => named_found (s.extract 1 y) (by rw [ByteArray.size_extract]; omega))
  have HTK := hide (fun (y : Nat) => show (s.extract 1 y).data.toList = (s.data.toList.drop 1).take (y - 1) from Lib.extract_data s 1 y)
  have HGO := hide (fun (c : UInt8) => goes_any c.toNat)
  have HNO := hide (name_none attr (s.data.toList.drop 1))
  have HHI := hide (name_hit attr (s.data.toList.drop 1))
  have hst := longL_min (s.data.toList.drop 1)
  rw [hll] at hst
  have HST := hide hst
  clear hst
  have HLE := hide (fun (l : List UInt8) => found_le l)
  have HDA := hide (fun (k q : Nat) (hq : 1 + k = q) (h : q < s.size) => drop_at2 s 1 k q hq h)
  have HDE := hide (fun (k : Nat) (h : s.size ≤ 1 + k) => drop_at_end s 1 k h)
  generalize nameL attr (s.data.toList.drop 1) = R at *
  generalize s.data.toList.drop 1 = L at *
  go_enter Tryd.func18, Tryd.ntmps18
  go_wp2
  go_loop [6] (fun te => ∃ x : Nat, te = .int .i64 (x : Int) ∧ 1 ≤ x ∧ x ≤ s.size ∧ x ≤ 9 ∧ Hid (longL L = longK (x - 1) L)) (fun te => (intOf te).toNat)
  case atStart =>
    refine ⟨min (s.size - 1) 8 + 1, ?_, by omega, by omega, by omega, HST⟩
    refine congrArg _ ?_
    omega
  case round =>
    obtain ⟨x, rfl, hx1, hxs, hx9, HLK⟩ := hrel
    by_cases hx : x = 1
    · subst hx
      have HRR := hide (HNO.out HLK.out)
      clear HLK HNO HHI HNA HTK HGO HST HLE HDA HDE
      go_wp2
      go_ret2
      rw [HRR.out]
      exact ⟨rfl, rfl⟩
    · obtain ⟨k, rfl⟩ : ∃ k, x = k + 2 := ⟨x - 2, by omega⟩
      have HN := hide (HNA.out (k + 2) hxs)
      rw [HTK.out (k + 2), show k + 2 - 1 = k + 1 by omega] at HN
      have hfl := HLE.out (L.take (k + 1))
      have hx2 : (1 : Int) < ((k + 2 : Nat) : Int) := by omega
      by_cases hf : foundC (L.take (k + 1)) = 0
      · have HL2 : Hid (longL L = longK k L) := hide (by rw [HLK.out]; exact longK_miss k L (by omega) hf)
        rw [hf] at HN
        clear hf hfl HLK HNO HHI HNA HTK HGO HST HLE HDA HDE
        generalize hxx : k + 2 = x at *
        go_wp2_with fail
        refine (HN.out _).mono ?_
        rintro e w1 ⟨rfl, rfl⟩
        go_wp2
        go_round
        case rel => exact ⟨k + 1, by (refine congrArg _ ?_; omega), by omega, by omega, by omega, HL2⟩
        case measure => simp [intOf]; omega
      · have hRR := HHI.out k HLK.out (by omega) hf
        have he := encode_str (foundC (L.take (k + 1))) (by omega) (by omega)
        rw [if_neg hf, decide_eq_false hf, he] at HN
        clear he
        generalize foundC (L.take (k + 1)) = F at *
        generalize Lib.encodeRune (F : Int) = T at *
        rw [HDA.out k (k + 1) (by omega) (by omega)] at hRR
        have hix := run_index_at s (k + 1) (((k + 2 : Nat) : Int) - 1) (by omega) (by omega)
        cases attr
        · have HRR : Hid (R = (T, k + 2)) := hide (by rw [hRR]; rfl)
          clear HLK HNO HHI HNA HTK HST HLE HDA HDE hf HGO hRR hix
          generalize hxx : k + 2 = x at *
          go_wp2_with fail
          refine (HN.out _).mono ?_
          rintro e w1 ⟨rfl, rfl⟩
          go_wp2
          go_ret2
          rw [HRR.out]
          exact ⟨ret_pair2 rfl (by first | rfl | omega), rfl⟩
        · by_cases h59 : (s[k + 1]).toNat = 59
          · have HRR : Hid (R = (T, k + 2)) := hide (by rw [hRR, UInt8.toNat_inj.1 (show (s[k + 1]).toNat = (59 : UInt8).toNat from h59)]; rfl)
            rw [h59] at hix
            clear h59
            clear HLK HNO HHI HNA HTK HST HLE HDA HDE hf HGO hRR
            generalize hxx : k + 2 = x at *
            go_wp2_with fail
            refine (HN.out _).mono ?_
            rintro e w1 ⟨rfl, rfl⟩
            go_wp2
            go_ret2
            rw [HRR.out]
            exact ⟨ret_pair2 rfl (by first | rfl | omega), rfl⟩
          · have hb : (some s[k + 1] == some 59) = false := by
              rw [beq_eq_false_iff_ne]
              intro h
              exact h59 (by rw [Option.some.inj h]; rfl)
            rw [hb] at hRR
            have e1 : ¬ (((s[k + 1]).toNat : Int) = 59) := by omega
            generalize (s[k + 1]).toNat = cc at *
            clear h59 hb
            by_cases hlt : k + 2 < s.size
            · rw [HDA.out (k + 1) (k + 2) (by omega) hlt, barred_goes] at hRR
              have hlt2 : ((k + 2 : Nat) : Int) < s.size := by omega
              have hix2 := run_index_at s (k + 2) ((k + 2 : Nat) : Int) rfl hlt
              generalize (s[k + 2]).toNat = gg at *
              rcases (by omega : (gg < 48) ∨ (48 ≤ gg ∧ gg ≤ 57) ∨ (57 < gg ∧ gg < 61) ∨ (gg = 61) ∨ (61 < gg ∧ gg < 65) ∨ (65 ≤ gg ∧ gg ≤ 90) ∨ (90 < gg ∧ gg < 97) ∨ (97 ≤ gg ∧ gg ≤ 122) ∨ (122 < gg)) with h | h | h | h | h | h | h | h | h
              · have hg : goesN gg = false := by simp [goesN, letterN, greatN, figureN]; omega
                have HRR : Hid (R = (T, k + 2)) := hide (by rw [hRR, hg]; rfl)
                have d0 : ¬ (gg : Int) = 61 := by omega
                have b0 := ne_lit gg 61 d0
                have d1 : ¬ (65 : Int) ≤ gg := by omega
                have d2 : ¬ (97 : Int) ≤ gg := by omega
                have d3 : ¬ (48 : Int) ≤ gg := by omega
                clear h hg
                clear HLK HNO HHI HNA HTK HST HLE HDA HDE hf HGO hRR
                generalize hxx : k + 2 = x at *
                go_wp2_with fail
                refine (HN.out _).mono ?_
                rintro e w1 ⟨rfl, rfl⟩
                go_wp2
                go_ret2
                rw [HRR.out]
                exact ⟨ret_pair2 rfl (by first | rfl | omega), rfl⟩
              · have hg : goesN gg = true := by simp [goesN, letterN, greatN, figureN]; omega
                have HRR : Hid (R = ([], 0)) := hide (by rw [hRR, hg]; rfl)
                have d0 : ¬ (gg : Int) = 61 := by omega
                have b0 := ne_lit gg 61 d0
                have d1 : ¬ (65 : Int) ≤ gg := by omega
                have d2 : ¬ (97 : Int) ≤ gg := by omega
                have d3 : (48 : Int) ≤ gg := by omega
                have d4 : (gg : Int) ≤ 57 := by omega
                clear h hg
                clear HLK HNO HHI HNA HTK HST HLE HDA HDE hf HGO hRR
                generalize hxx : k + 2 = x at *
                go_wp2_with fail
                refine (HN.out _).mono ?_
                rintro e w1 ⟨rfl, rfl⟩
                go_wp2
                go_ret2
                rw [HRR.out]
                exact ⟨ret_pair2 rfl (by first | rfl | omega), rfl⟩
              · have hg : goesN gg = false := by simp [goesN, letterN, greatN, figureN]; omega
                have HRR : Hid (R = (T, k + 2)) := hide (by rw [hRR, hg]; rfl)
                have d0 : ¬ (gg : Int) = 61 := by omega
                have b0 := ne_lit gg 61 d0
                have d1 : ¬ (65 : Int) ≤ gg := by omega
                have d2 : ¬ (97 : Int) ≤ gg := by omega
                have d3 : (48 : Int) ≤ gg := by omega
                have d4 : ¬ (gg : Int) ≤ 57 := by omega
                clear h hg
                clear HLK HNO HHI HNA HTK HST HLE HDA HDE hf HGO hRR
                generalize hxx : k + 2 = x at *
                go_wp2_with fail
                refine (HN.out _).mono ?_
                rintro e w1 ⟨rfl, rfl⟩
                go_wp2
                go_ret2
                rw [HRR.out]
                exact ⟨ret_pair2 rfl (by first | rfl | omega), rfl⟩
              · have hg : goesN gg = true := by simp [goesN, letterN, greatN, figureN]; omega
                have HRR : Hid (R = ([], 0)) := hide (by rw [hRR, hg]; rfl)
                subst h
                clear hg
                clear HLK HNO HHI HNA HTK HST HLE HDA HDE hf HGO hRR
                generalize hxx : k + 2 = x at *
                go_wp2_with fail
                refine (HN.out _).mono ?_
                rintro e w1 ⟨rfl, rfl⟩
                go_wp2
                go_ret2
                rw [HRR.out]
                exact ⟨ret_pair2 rfl (by first | rfl | omega), rfl⟩
              · have hg : goesN gg = false := by simp [goesN, letterN, greatN, figureN]; omega
                have HRR : Hid (R = (T, k + 2)) := hide (by rw [hRR, hg]; rfl)
                have d0 : ¬ (gg : Int) = 61 := by omega
                have b0 := ne_lit gg 61 d0
                have d1 : ¬ (65 : Int) ≤ gg := by omega
                have d2 : ¬ (97 : Int) ≤ gg := by omega
                have d3 : (48 : Int) ≤ gg := by omega
                have d4 : ¬ (gg : Int) ≤ 57 := by omega
                clear h hg
                clear HLK HNO HHI HNA HTK HST HLE HDA HDE hf HGO hRR
                generalize hxx : k + 2 = x at *
                go_wp2_with fail
                refine (HN.out _).mono ?_
                rintro e w1 ⟨rfl, rfl⟩
                go_wp2
                go_ret2
                rw [HRR.out]
                exact ⟨ret_pair2 rfl (by first | rfl | omega), rfl⟩
              · have hg : goesN gg = true := by simp [goesN, letterN, greatN, figureN]; omega
                have HRR : Hid (R = ([], 0)) := hide (by rw [hRR, hg]; rfl)
                have d0 : ¬ (gg : Int) = 61 := by omega
                have b0 := ne_lit gg 61 d0
                have d1 : (65 : Int) ≤ gg := by omega
                have d2 : (gg : Int) ≤ 90 := by omega
                clear h hg
                clear HLK HNO HHI HNA HTK HST HLE HDA HDE hf HGO hRR
                generalize hxx : k + 2 = x at *
                go_wp2_with fail
                refine (HN.out _).mono ?_
                rintro e w1 ⟨rfl, rfl⟩
                go_wp2
                go_ret2
                rw [HRR.out]
                exact ⟨ret_pair2 rfl (by first | rfl | omega), rfl⟩
              · have hg : goesN gg = false := by simp [goesN, letterN, greatN, figureN]; omega
                have HRR : Hid (R = (T, k + 2)) := hide (by rw [hRR, hg]; rfl)
                have d0 : ¬ (gg : Int) = 61 := by omega
                have b0 := ne_lit gg 61 d0
                have d1 : (65 : Int) ≤ gg := by omega
                have d2 : ¬ (gg : Int) ≤ 90 := by omega
                have d3 : ¬ (97 : Int) ≤ gg := by omega
                have d4 : (48 : Int) ≤ gg := by omega
                have d5 : ¬ (gg : Int) ≤ 57 := by omega
                clear h hg
                clear HLK HNO HHI HNA HTK HST HLE HDA HDE hf HGO hRR
                generalize hxx : k + 2 = x at *
                go_wp2_with fail
                refine (HN.out _).mono ?_
                rintro e w1 ⟨rfl, rfl⟩
                go_wp2
                go_ret2
                rw [HRR.out]
                exact ⟨ret_pair2 rfl (by first | rfl | omega), rfl⟩
              · have hg : goesN gg = true := by simp [goesN, letterN, greatN, figureN]; omega
                have HRR : Hid (R = ([], 0)) := hide (by rw [hRR, hg]; rfl)
                have d0 : ¬ (gg : Int) = 61 := by omega
                have b0 := ne_lit gg 61 d0
                have d1 : (65 : Int) ≤ gg := by omega
                have d2 : ¬ (gg : Int) ≤ 90 := by omega
                have d3 : (97 : Int) ≤ gg := by omega
                have d4 : (gg : Int) ≤ 122 := by omega
                clear h hg
                clear HLK HNO HHI HNA HTK HST HLE HDA HDE hf HGO hRR
                generalize hxx : k + 2 = x at *
                go_wp2_with fail
                refine (HN.out _).mono ?_
                rintro e w1 ⟨rfl, rfl⟩
                go_wp2
                go_ret2
                rw [HRR.out]
                exact ⟨ret_pair2 rfl (by first | rfl | omega), rfl⟩
              · have hg : goesN gg = false := by simp [goesN, letterN, greatN, figureN]; omega
                have HRR : Hid (R = (T, k + 2)) := hide (by rw [hRR, hg]; rfl)
                have d0 : ¬ (gg : Int) = 61 := by omega
                have b0 := ne_lit gg 61 d0
                have d1 : (65 : Int) ≤ gg := by omega
                have d2 : ¬ (gg : Int) ≤ 90 := by omega
                have d3 : (97 : Int) ≤ gg := by omega
                have d4 : ¬ (gg : Int) ≤ 122 := by omega
                have d5 : (48 : Int) ≤ gg := by omega
                have d6 : ¬ (gg : Int) ≤ 57 := by omega
                clear h hg
                clear HLK HNO HHI HNA HTK HST HLE HDA HDE hf HGO hRR
                generalize hxx : k + 2 = x at *
                go_wp2_with fail
                refine (HN.out _).mono ?_
                rintro e w1 ⟨rfl, rfl⟩
                go_wp2
                go_ret2
                rw [HRR.out]
                exact ⟨ret_pair2 rfl (by first | rfl | omega), rfl⟩
            · rw [HDE.out (k + 1) (by omega)] at hRR
              have hlt2 : ¬ ((k + 2 : Nat) : Int) < s.size := by omega
              have HRR : Hid (R = (T, k + 2)) := hide (by rw [hRR]; rfl)
              clear HLK HNO HHI HNA HTK HST HLE HDA HDE hf HGO hRR
              generalize hxx : k + 2 = x at *
              go_wp2_with fail
              refine (HN.out _).mono ?_
              rintro e w1 ⟨rfl, rfl⟩
              go_wp2
              go_ret2
              rw [HRR.out]
              exact ⟨ret_pair2 rfl (by first | rfl | omega), rfl⟩
end Go.Proofs.YthoibenncjbkdaaDoor.S4
