/- What Of answers, the program's and the document's own; nothing that was there is written. -/
import Derived.Test.YthopnliaikkhbaaGreatDoorWa10
set_option linter.unusedVariables false
set_option linter.unusedSimpArgs false
set_option maxRecDepth 4000
namespace Go.Proofs.YthopnliaikkhbaaGreatDoor
open Go.RowKit

/-- The answer of Of. -/
def ansO (o : Option (List UInt8)) : Value := .tuple #[.string ⟨(o.getD []).toArray⟩, .bool o.isSome]
theorem cut_list (s : ByteArray) (k : Nat) (h : k ≤ s.size) : (s.extract 0 k).data.toList = s.data.toList.take k := by
  rw [Lib.extract_data, List.drop_zero, Nat.sub_zero]
theorem cut_size (s : ByteArray) (k : Nat) (h : k ≤ s.size) : (s.extract 0 k).size = k := by
  rw [size_list, cut_list s k h, List.length_take, ← size_list]; omega
set_option maxHeartbeats 1000000 in
theorem of_any (s : ByteArray) (hs : s.size ≤ 1000000) (w : World) :
    Calls Tryz.prog 69 #[.string s] w fun e w' => e = .returned (ansO (ofL s.data.toList)) ∧ Below w.heap.size w w' := by
  have H1 := hide (tidy_any s hs)
  have hT : (tidyL s.data.toList).length ≤ 1000000 := Nat.le_trans (tidy_short _) (by rw [← size_list]; exact hs)
  unfold ofL
  generalize tidyL s.data.toList = T at *
  have hx : (⟨T.toArray⟩ : ByteArray).data.toList = T := str_data T
  generalize hX : (⟨T.toArray⟩ : ByteArray) = x at *
  have hz : x.size = T.length := by rw [size_list, hx]
  subst hx
  clear hX
  have hxs : x.size ≤ 1000000 := by omega
  clear hT hz
  have HL := hide (fun k (hk : k ≤ x.size) => lower_any (x.extract 0 k) (by rw [cut_size x k hk]; omega))
  have HC := hide (fun k (hk : k ≤ x.size) => cut_list x k hk)
  have HF := hide fits_any
  generalize hV : colonL 0 x.data.toList = V
  have HV := hide hV
  have HS : Hid (schL x.data.toList = V.map fun k => lowerL (x.data.toList.take k)) := hide (by unfold schL; rw [hV])
  clear hV
  generalize schL x.data.toList = R at *
  go_enter Tryz.func69, Tryz.ntmps69
  go_wp2_with fail
  refine (H1.out _).mono ?_
  rintro e w1 ⟨rfl, b1⟩
  go_wp2
  go_loop [10] (fun i => ∃ k : Nat, k ≤ x.size ∧ i = .int .i64 k ∧ Hid (colonL k (x.data.toList.drop k) = V)) (fun i => x.size - (intOf i).toNat)
  case atStart => exact ⟨0, Nat.zero_le _, rfl, hide (by rw [List.drop_zero]; exact HV.out)⟩
  case round =>
    obtain ⟨k, hk, rfl, HR⟩ := hrel
    by_cases hlt : k < x.size
    · have hlt2 : (k : Int) < x.size := by omega
      have hkl : k < x.data.toList.length := by rw [← size_list]; exact hlt
      have hst := colon_step x.data.toList k hkl
      rw [HR.out, show x.data.toList[k] = x[k] from rfl] at hst
      have HQ := hide (HF.out x[k].toNat k)
      by_cases hp : 0 < k
      · have hp2 : (0 : Int) < k := by omega
        by_cases h58 : x[k].toNat = 58
        · rw [if_pos ⟨hp, h58⟩] at hst
          have HR2 : Hid (R = some (lowerL (x.data.toList.take k))) := hide (by rw [HS.out, hst]; rfl)
          have e58 : ((x[k].toNat : Int) == 58) = true := by rw [h58]; rfl
          have HLk := HL.out k hk
          rw [HC.out k hk] at HLk
          have HL2 := hide HLk
          clear hst HLk HL HC h58 HR HS HQ
          generalize lowerL (x.data.toList.take k) = Z at *
          go_wp2_with fail
          refine (HL2.out _).mono ?_
          rintro e w2 ⟨rfl, b2⟩
          go_wp2
          go_ret2
          exact ⟨by rw [HR2.out]; rfl, b1.trans (b2.mono b1.size)⟩
        · rw [if_neg (fun h => h58 h.2)] at hst
          have e58 : ((x[k].toNat : Int) == 58) = false := ne_lit _ 58 (by omega)
          clear h58
          cases hf : fitN x[k].toNat k
          · rw [hf] at HQ
            rw [hf, if_neg (by decide)] at hst
            have HR2 : Hid (R = none) := hide (by rw [HS.out, hst]; rfl)
            clear hst hf HR HS
            go_wp2_with fail
            refine (HQ.out _).mono ?_
            rintro e w2 ⟨rfl, rfl⟩
            go_wp2
            go_ret2
            exact ⟨by rw [HR2.out]; rfl, b1⟩
          · rw [hf] at HQ
            rw [hf, if_pos rfl] at hst
            have HR2 := hide hst.symm
            clear hst hf HR
            go_wp2_with fail
            refine (HQ.out _).mono ?_
            rintro e w2 ⟨rfl, rfl⟩
            go_wp2
            go_round
            case rel => exact ⟨k + 1, by omega, by go_num, HR2⟩
            case measure => simp [intOf]; omega
      · have hp2 : ¬ (0 : Int) < k := by omega
        rw [if_neg (fun h => hp h.1)] at hst
        cases hf : fitN x[k].toNat k
        · rw [hf] at HQ
          rw [hf, if_neg (by decide)] at hst
          have HR2 : Hid (R = none) := hide (by rw [HS.out, hst]; rfl)
          clear hst hf HR HS
          go_wp2_with fail
          refine (HQ.out _).mono ?_
          rintro e w2 ⟨rfl, rfl⟩
          go_wp2
          go_ret2
          exact ⟨by rw [HR2.out]; rfl, b1⟩
        · rw [hf] at HQ
          rw [hf, if_pos rfl] at hst
          have HR2 := hide hst.symm
          clear hst hf HR
          go_wp2_with fail
          refine (HQ.out _).mono ?_
          rintro e w2 ⟨rfl, rfl⟩
          go_wp2
          go_round
          case rel => exact ⟨k + 1, by omega, by go_num, HR2⟩
          case measure => simp [intOf]; omega
    · have hlt2 : ¬ (k : Int) < x.size := by omega
      have hst := colon_end x.data.toList k (by rw [← size_list]; omega)
      rw [HR.out] at hst
      have HR2 : Hid (R = none) := hide (by rw [HS.out, hst]; rfl)
      clear hst HR HS hlt
      go_wp2
      go_ret2
      exact ⟨by rw [HR2.out]; rfl, b1⟩

theorem sch_not (T : List UInt8) (h : T = [] ∨ ∃ h : 0 < T.length, letterN T[0].toNat = false) : schL T = none := by
  unfold schL
  rcases h with rfl | ⟨h, hl⟩
  · rfl
  · have e := colon_step T 0 h
    rw [List.drop_zero] at e
    rw [e, if_neg (by omega), if_neg]
    · rfl
    · simp [fitN, hl]
set_option maxHeartbeats 1000000 in
theorem rof_any (s : ByteArray) (hs : s.size ≤ 1000000) (w : World) :
    Calls Tryz.prog 78 #[.string s] w fun e w' => e = .returned (ansO (ofL s.data.toList)) ∧ Below w.heap.size w w' := by
  have H1 := hide (rtidy_any s hs)
  have hT : (tidyL s.data.toList).length ≤ 1000000 := Nat.le_trans (tidy_short _) (by rw [← size_list]; exact hs)
  unfold ofL
  generalize tidyL s.data.toList = T at *
  have hx : (⟨T.toArray⟩ : ByteArray).data.toList = T := str_data T
  generalize hX : (⟨T.toArray⟩ : ByteArray) = x at *
  have hz : x.size = T.length := by rw [size_list, hx]
  subst hx
  clear hX
  have hxs : x.size ≤ 1000000 := by omega
  clear hT hz
  have HL := hide (fun k (hk : k ≤ x.size) => rlower_any (x.extract 0 k) (by rw [cut_size x k hk]; omega))
  have HC := hide (fun k (hk : k ≤ x.size) => cut_list x k hk)
  have HLE := hide rletter_any
  have HFI := hide rfigure_any
  have he := empty_eq x
  by_cases h0 : x.size = 0
  · rw [decide_eq_true h0] at he
    have HN := hide (sch_not x.data.toList (.inl (List.eq_nil_of_length_eq_zero (by rw [← size_list]; exact h0))))
    rw [HN.out]
    clear h0
    go_enter Tryz.func78, Tryz.ntmps78
    go_wp2_with fail
    refine (H1.out _).mono ?_
    rintro e w1 ⟨rfl, rfl⟩
    go_wp2
    go_ret2
    exact ⟨rfl, Below.refl _ _⟩
  rw [decide_eq_false h0] at he
  have hpos : 0 < x.size := by omega
  have hposi : (0 : Int) < x.size := by omega
  clear h0
  cases hl : letterN x[0].toNat
  · have HN := hide (sch_not x.data.toList (.inr ⟨by rw [← size_list]; exact hpos, hl⟩))
    rw [HN.out]
    have HQ := hide (HLE.out x[0].toNat)
    rw [hl] at HQ
    clear hl
    go_enter Tryz.func78, Tryz.ntmps78
    go_wp2_with fail
    refine (H1.out _).mono ?_
    rintro e w1 ⟨rfl, rfl⟩
    go_wp2_with fail
    refine (HQ.out _).mono ?_
    rintro e w2 ⟨rfl, rfl⟩
    go_wp2
    go_ret2
    exact ⟨rfl, Below.refl _ _⟩
  have HQ := hide (HLE.out x[0].toNat)
  rw [hl] at HQ
  have HLL := hide hl
  clear hl
  generalize hV : colonL 0 x.data.toList = V
  have HV := hide hV
  have HS : Hid (schL x.data.toList = V.map fun k => lowerL (x.data.toList.take k)) := hide (by unfold schL; rw [hV])
  clear hV
  generalize schL x.data.toList = R at *
  go_enter Tryz.func78, Tryz.ntmps78
  go_wp2_with fail
  refine (H1.out _).mono ?_
  rintro e w1 ⟨rfl, rfl⟩
  go_wp2_with fail
  refine (HQ.out _).mono ?_
  rintro e w2 ⟨rfl, rfl⟩
  go_wp2
  go_loop [4] (fun i => ∃ k : Nat, k ≤ x.size ∧ i = .int .i64 k ∧ Hid (colonL k (x.data.toList.drop k) = V)) (fun i => x.size - (intOf i).toNat)
  case atStart => exact ⟨0, Nat.zero_le _, rfl, hide (by rw [List.drop_zero]; exact HV.out)⟩
  case round =>
    obtain ⟨k, hk, rfl, HR⟩ := hrel
    by_cases hlt : k < x.size
    · have hlt2 : (k : Int) < x.size := by omega
      have hkl : k < x.data.toList.length := by rw [← size_list]; exact hlt
      have hst := colon_step x.data.toList k hkl
      rw [HR.out, show x.data.toList[k] = x[k] from rfl] at hst
      have HQL := hide (HLE.out x[k].toNat)
      have HQF := hide (HFI.out x[k].toNat)
      have hzero : k = 0 → letterN x[k].toNat = true := fun h => by subst h; exact HLL.out
      by_cases h58 : x[k].toNat = 58
      · have hp : 0 < k := by
          rcases Nat.eq_zero_or_pos k with h | h
          · have := hzero h
            rw [h58] at this
            exact absurd this (by decide)
          · exact h
        rw [if_pos ⟨hp, h58⟩] at hst
        have HR2 : Hid (R = some (lowerL (x.data.toList.take k))) := hide (by rw [HS.out, hst]; rfl)
        have e58 : ((x[k].toNat : Int) == 58) = true := by rw [h58]; rfl
        have HLk := HL.out k hk
        rw [HC.out k hk] at HLk
        have HL2 := hide HLk
        clear hst HLk HL HC h58 HR HS HQL HQF hzero HQ
        generalize lowerL (x.data.toList.take k) = Z at *
        go_wp2_with fail
        refine (HL2.out _).mono ?_
        rintro e w2 ⟨rfl, b2⟩
        go_wp2
        go_ret2
        exact ⟨by rw [HR2.out]; rfl, b2⟩
      rw [if_neg (fun h => h58 h.2)] at hst
      have e58 : ((x[k].toNat : Int) == 58) = false := ne_lit _ 58 (by omega)
      have hfit : fitN x[k].toNat k = (letterN x[k].toNat || (figureN x[k].toNat || markN x[k].toNat)) := by
        unfold fitN
        rcases Nat.eq_zero_or_pos k with h | h
        · rw [hzero h]; simp
        · rw [decide_eq_true h, Bool.true_and]
      rw [hfit] at hst
      clear h58 hzero hfit HQ
      cases hl : letterN x[k].toNat
      · rw [hl] at HQL
        cases hg : figureN x[k].toNat
        · rw [hg] at HQF
          rw [hl, hg, Bool.false_or, Bool.false_or] at hst
          clear hl hg
          cases hm : markN x[k].toNat
          · rw [hm, if_neg (by decide)] at hst
            have HR2 : Hid (R = none) := hide (by rw [HS.out, hst]; rfl)
            simp [markN] at hm
            obtain ⟨⟨g1, g2⟩, g3⟩ := hm
            have e1 := bne_lit x[k].toNat 43 (by omega)
            have e2 := bne_lit x[k].toNat 45 (by omega)
            have e3 := bne_lit x[k].toNat 46 (by omega)
            clear hst HR HS g1 g2 g3
            go_wp2_with fail
            refine (HQL.out _).mono ?_
            rintro e w3 ⟨rfl, rfl⟩
            go_wp2_with fail
            refine (HQF.out _).mono ?_
            rintro e w4 ⟨rfl, rfl⟩
            go_wp2
            go_ret2
            exact ⟨by rw [HR2.out]; rfl, Below.refl _ _⟩
          · rw [hm, if_pos rfl] at hst
            have HR2 := hide hst.symm
            simp [markN] at hm
            clear hst HR
            rcases hm with (hm | hm) | hm
            · have e43 : ((x[k].toNat : Int) != 43) = false := by rw [hm]; rfl
              clear hm
              go_wp2_with fail
              refine (HQL.out _).mono ?_
              rintro e w3 ⟨rfl, rfl⟩
              go_wp2_with fail
              refine (HQF.out _).mono ?_
              rintro e w4 ⟨rfl, rfl⟩
              go_wp2
              go_round
              case rel => exact ⟨k + 1, by omega, by go_num, HR2⟩
              case measure => simp [intOf]; omega
            · have e43 : ((x[k].toNat : Int) != 43) = true := by rw [hm]; rfl
              have e45 : ((x[k].toNat : Int) != 45) = false := by rw [hm]; rfl
              clear hm
              go_wp2_with fail
              refine (HQL.out _).mono ?_
              rintro e w3 ⟨rfl, rfl⟩
              go_wp2_with fail
              refine (HQF.out _).mono ?_
              rintro e w4 ⟨rfl, rfl⟩
              go_wp2
              go_round
              case rel => exact ⟨k + 1, by omega, by go_num, HR2⟩
              case measure => simp [intOf]; omega
            · have e43 : ((x[k].toNat : Int) != 43) = true := by rw [hm]; rfl
              have e45 : ((x[k].toNat : Int) != 45) = true := by rw [hm]; rfl
              have e46 : ((x[k].toNat : Int) != 46) = false := by rw [hm]; rfl
              clear hm
              go_wp2_with fail
              refine (HQL.out _).mono ?_
              rintro e w3 ⟨rfl, rfl⟩
              go_wp2_with fail
              refine (HQF.out _).mono ?_
              rintro e w4 ⟨rfl, rfl⟩
              go_wp2
              go_round
              case rel => exact ⟨k + 1, by omega, by go_num, HR2⟩
              case measure => simp [intOf]; omega
        · rw [hg] at HQF
          rw [hl, hg, Bool.false_or, Bool.true_or, if_pos rfl] at hst
          have HR2 := hide hst.symm
          clear hst HR hl hg
          go_wp2_with fail
          refine (HQL.out _).mono ?_
          rintro e w3 ⟨rfl, rfl⟩
          go_wp2_with fail
          refine (HQF.out _).mono ?_
          rintro e w4 ⟨rfl, rfl⟩
          go_wp2
          go_round
          case rel => exact ⟨k + 1, by omega, by go_num, HR2⟩
          case measure => simp [intOf]; omega
      · rw [hl] at HQL
        rw [hl, Bool.true_or, if_pos rfl] at hst
        have HR2 := hide hst.symm
        clear hst HR hl
        go_wp2_with fail
        refine (HQL.out _).mono ?_
        rintro e w3 ⟨rfl, rfl⟩
        go_wp2
        go_round
        case rel => exact ⟨k + 1, by omega, by go_num, HR2⟩
        case measure => simp [intOf]; omega
    · have hlt2 : ¬ (k : Int) < x.size := by omega
      have hst := colon_end x.data.toList k (by rw [← size_list]; omega)
      rw [HR.out] at hst
      have HR2 : Hid (R = none) := hide (by rw [HS.out, hst]; rfl)
      clear hst HR HS hlt
      go_wp2
      go_ret2
      exact ⟨by rw [HR2.out]; rfl, Below.refl _ _⟩
end Go.Proofs.YthopnliaikkhbaaGreatDoor
