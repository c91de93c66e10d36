/- What Of answers, the program's and the document's own; nothing that was there is written. -/
import Derived.Test.YtfjganjihapnhabGreatDoorWa10
set_option linter.unusedVariables false
set_option linter.unusedSimpArgs false
set_option maxRecDepth 4000
namespace Go.Proofs.YtfjganjihapnhabGreatDoor
open Go.RowKit

/-- The answer of Of. -/
def ansO (o : Option (List UInt8)) : Value := .tuple #[.string ⟨(o.getD []).toArray⟩, .bool o.isSome]
theorem cut_list (s : ByteArray) (k : Nat) (h : k ≤ s.size) : (s.extract 0 k).data.toList = s.data.toList.take k := by
  rw [Lib.extract_data, List.drop_zero, Nat.sub_zero]
theorem cut_size (s : ByteArray) (k : Nat) (h : k ≤ s.size) : (s.extract 0 k).size = k := by
  rw [size_list, cut_list s k h, List.length_take, ← size_list]; omega
set_option maxHeartbeats 1000000 in
theorem of_any (s : ByteArray) (hs : s.size ≤ 1000000) (w : World) :
    Calls Tryz.prog 10 #[.string s] w fun e w' => e = .returned (ansO (ofL s.data.toList)) ∧ Below w.heap.size w w' := by
  have H1 := hide (tidy_any s hs)
  have hT : (tidyL s.data.toList).length ≤ 1000000 := Nat.le_trans (tidy_short _) (by rw [← size_list]; exact hs)
  unfold ofL
  generalize tidyL s.data.toList = T at *
  have hx : (⟨T.toArray⟩ : ByteArray).data.toList = T := str_data T
  generalize hX : (⟨T.toArray⟩ : ByteArray) = x at *
  have hz : x.size = T.length := by rw [size_list, hx]
  subst hx
  clear hX
  have hxs : x.size ≤ 1000000 := by omega
  clear hT hz
  have HL := hide (fun k (hk : k ≤ x.size) => lower_any (x.extract 0 k) (by rw [cut_size x k hk]; omega))
  have HC := hide (fun k (hk : k ≤ x.size) => cut_list x k hk)
  have HF := hide fits_any
  generalize hV : colonL 0 x.data.toList = V
  have HV := hide hV
  have HS : Hid (schL x.data.toList = V.map fun k => lowerL (x.data.toList.take k)) := hide (by unfold schL; rw [hV])
  clear hV
  generalize schL x.data.toList = R at *
  go_enter Tryz.func10, Tryz.ntmps10
  go_wp2_with fail
  refine (H1.out _).mono ?_
  rintro e w1 ⟨rfl, b1⟩
  go_wp2
  go_loop [10] (fun i => ∃ k : Nat, k ≤ x.size ∧ i = .int .i64 k ∧ Hid (colonL k (x.data.toList.drop k) = V)) (fun i => x.size - (intOf i).toNat)
  case atStart => exact ⟨0, Nat.zero_le _, rfl, hide (by rw [List.drop_zero]; exact HV.out)⟩
  case round =>
    obtain ⟨k, hk, rfl, HR⟩ := hrel
    by_cases hlt : k < x.size
    · have hlt2 : (k : Int) < x.size := by omega
      have hkl : k < x.data.toList.length := by rw [← size_list]; exact hlt
      have hst := colon_step x.data.toList k hkl
      rw [HR.out, show x.data.toList[k] = x[k] from rfl] at hst
      have HQ := hide (HF.out x[k].toNat k)
      by_cases hp : 0 < k
      · have hp2 : (0 : Int) < k := by omega
        by_cases h58 : x[k].toNat = 58
        · rw [if_pos ⟨hp, h58⟩] at hst
          have HR2 : Hid (R = some (lowerL (x.data.toList.take k))) := hide (by rw [HS.out, hst]; rfl)
          have e58 : ((x[k].toNat : Int) == 58) = true := by rw [h58]; rfl
          have HLk := HL.out k hk
          rw [HC.out k hk] at HLk
          have HL2 := hide HLk
          clear hst HLk HL HC h58 HR HS HQ
          generalize lowerL (x.data.toList.take k) = Z at *
          go_wp2_with fail
          refine (HL2.out _).mono ?_
          rintro e w2 ⟨rfl, b2⟩
          go_wp2
          go_ret2
          exact ⟨by rw [HR2.out]; rfl, b1.trans (b2.mono b1.size)⟩
        · rw [if_neg (fun h => h58 h.2)] at hst
          have e58 : ((x[k].toNat : Int) == 58) = false := ne_lit _ 58 (by omega)
          clear h58
          cases hf : fitN x[k].toNat k
          · rw [hf] at HQ
            rw [hf, if_neg (by decide)] at hst
            have HR2 : Hid (R = none) := hide (by rw [HS.out, hst]; rfl)
            clear hst hf HR HS
            go_wp2_with fail
            refine (HQ.out _).mono ?_
            rintro e w2 ⟨rfl, rfl⟩
            go_wp2
            go_ret2
            exact ⟨by rw [HR2.out]; rfl, b1⟩
          · rw [hf] at HQ
            rw [hf, if_pos rfl] at hst
            have HR2 := hide hst.symm
            clear hst hf HR
            go_wp2_with fail
            refine (HQ.out _).mono ?_
            rintro e w2 ⟨rfl, rfl⟩
            go_wp2
            go_round
            case rel => exact ⟨k + 1, by omega, by go_num, HR2⟩
            case measure => simp [intOf]; omega
      · have hp2 : ¬ (0 : Int) < k := by omega
        rw [if_neg (fun h => hp h.1)] at hst
        cases hf : fitN x[k].toNat k
        · rw [hf] at HQ
          rw [hf, if_neg (by decide)] at hst
          have HR2 : Hid (R = none) := hide (by rw [HS.out, hst]; rfl)
          clear hst hf HR HS
          go_wp2_with fail
          refine (HQ.out _).mono ?_
          rintro e w2 ⟨rfl, rfl⟩
          go_wp2
          go_ret2
          exact ⟨by rw [HR2.out]; rfl, b1⟩
        · rw [hf] at HQ
          rw [hf, if_pos rfl] at hst
          have HR2 := hide hst.symm
          clear hst hf HR
          go_wp2_with fail
          refine (HQ.out _).mono ?_
          rintro e w2 ⟨rfl, rfl⟩
          go_wp2
          go_round
          case rel => exact ⟨k + 1, by omega, by go_num, HR2⟩
          case measure => simp [intOf]; omega
    · have hlt2 : ¬ (k : Int) < x.size := by omega
      have hst := colon_end x.data.toList k (by rw [← size_list]; omega)
      rw [HR.out] at hst
      have HR2 : Hid (R = none) := hide (by rw [HS.out, hst]; rfl)
      clear hst HR HS hlt
      go_wp2
      go_ret2
      exact ⟨by rw [HR2.out]; rfl, b1⟩

theorem sch_not (T : List UInt8) (h : T = [] ∨ ∃ h : 0 < T.length, letterN T[0].toNat = false) : schL T = none := by
  unfold schL
  rcases h with rfl | ⟨h, hl⟩
  · rfl
  · have e := colon_step T 0 h
    rw [List.drop_zero] at e
    rw [e, if_neg (by omega), if_neg]
    · rfl
    · simp [fitN, hl]
end Go.Proofs.YtfjganjihapnhabGreatDoor
