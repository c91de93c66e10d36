/- What the document's own longest answers, at whatever place of whatever text; nothing that was there is written. -/
import Derived.Test.YtlfjmgniflkapaaGreatDoorWalkB
import Derived.Test.YtlfjmgniflkapaaGreatDoorWalkD
set_option linter.unusedVariables false
set_option linter.unusedSimpArgs false
namespace Go.Proofs.YtlfjmgniflkapaaGreatDoor
open Go.RowKit

theorem st_some (c n : Nat) : textOf (some (c, n)) = Lib.encodeRune (c : Int) ∧ lenOf (some (c, n)) = n := ⟨rfl, rfl⟩

set_option maxHeartbeats 4000000 in
theorem rlongest_any (s : ByteArray) (hs : s.size ≤ 1000000) (p : Nat) (hp : p ≤ s.size) (w : World) :
    Calls Tryz.prog 60 #[.string s, .int .i64 (p : Int)] w fun e w' => e = .returned (.tuple #[.string ⟨(textOf (longL (s.data.toList.drop p))).toArray⟩, .int .i64 (lenOf (longL (s.data.toList.drop p)) : Nat)]) ∧ Below w.heap.size w w' := by
  have HE := hide entries_any
  have HALL := hide (state_all (s.data.toList.drop p))
  have HFF := hide (fun o => front_fits s p hp o)
  have HFN := hide (fun o => front_not s p o hp)
  generalize s.data.toList.drop p = l at *
  generalize hR : longL l = R at *
  clear hR
  go_enter Tryz.func60, Tryz.ntmps60
  go_wp2_with fail
  refine (HE.out _).mono ?_
  rintro e w1 ⟨⟨b, rfl, hE⟩, b1⟩
  have HIE := hide hE
  clear hE
  go_wp2
  go_loopw [7, 8, 9] (fun tb tn ti wr => ∃ (k : Nat), k ≤ 45 ∧ ti = .int .i64 k ∧ tb = .string ⟨(textOf (stateP l k)).toArray⟩ ∧ tn = .int .i64 (lenOf (stateP l k) : Nat) ∧ Below w.heap.size w wr ∧ Below w1.heap.size w1 wr) (fun _ _ ti _ => 45 - (intOf ti).toNat)
  case atStart => exact ⟨0, by omega, rfl, rfl, rfl, b1, Below.refl _ _⟩
  case round =>
    obtain ⟨k, hk, rfl, rfl, rfl, bw, bw1⟩ := hrel
    by_cases hlt : k < 45
    · have hkl : k < entriesE.length := by rw [entries_len]; exact hlt
      have hsh := entry_short k hkl
      have hrg := entry_range k hkl
      have HU := hide (rutf8_any _ hrg.1 hrg.2)
      have HNX := hide (state_next l k hkl)
      have HC := hide (fun W (h : Below w1.heap.size w1 W) => HIE.out.below h k hkl)
      have hlt2 : (k : Int) < 45 := by omega
      clear hrg
      go_wp2
      go_loopw [7, 8, 10] (fun tb tn tk wr => ∃ (j : Nat) (st : Option (Nat × Nat)), j ≤ 2 ∧ tk = .int .i64 j ∧ tb = .string ⟨(textOf st).toArray⟩ ∧ tn = .int .i64 (lenOf st : Nat) ∧ Below w.heap.size w wr ∧ Below w1.heap.size w1 wr ∧ Hid ((j = 0 ∧ st = stateP l k) ∨ (j = 1 ∧ st = state1 l k entriesE[k]) ∨ (j = 2 ∧ st = state2 l k entriesE[k]))) (fun _ _ tk _ => 2 - (intOf tk).toNat)
      case atStart => exact ⟨0, stateP l k, by omega, rfl, rfl, rfl, bw, bw1, hide (.inl ⟨rfl, rfl⟩)⟩
      case round =>
        obtain ⟨j, st, hj, rfl, rfl, rfl, bw2, bw3, HST⟩ := hrel
        obtain ⟨c1, c2, c3⟩ := HC.out _ bw3
        rcases HST.out with ⟨rfl, hst⟩ | ⟨rfl, hst⟩ | ⟨rfl, hst⟩
        · -- the name with its semicolon
          have hs1 : state1 l k entriesE[k] = stepP l st ((entriesE[k]).1 ++ [59], (entriesE[k]).2.1) := by rw [hst]; rfl
          have hon := semi_list (entriesE[k]).1
          have hos := semi_size (⟨(entriesE[k]).1.toArray⟩ : ByteArray)
          have hln : (((entriesE[k]).1 ++ [59]).length) = ((⟨(entriesE[k]).1.toArray⟩ : ByteArray) ++ (⟨#[59]⟩ : ByteArray)).size := by rw [size_list, hon]
          have hfit := HFF.out ((⟨(entriesE[k]).1.toArray⟩ : ByteArray) ++ (⟨#[59]⟩ : ByteArray))
          have hfno := HFN.out ((⟨(entriesE[k]).1.toArray⟩ : ByteArray) ++ (⟨#[59]⟩ : ByteArray))
          rw [hon] at hfit hfno
          have hyes := step_yes l st ((entriesE[k]).1 ++ [59]) (entriesE[k]).2.1
          have hno := step_no l st ((entriesE[k]).1 ++ [59]) (entriesE[k]).2.1
          rw [← hs1, hln, hos] at hyes hno
          rw [hos] at hfit hfno
          have HS2 : Hid (∀ st', st' = state1 l k entriesE[k] → Hid ((1 = 0 ∧ st' = stateP l k) ∨ (1 = 1 ∧ st' = state1 l k entriesE[k]) ∨ (1 = 2 ∧ st' = state2 l k entriesE[k]))) := hide (fun st' h => hide (.inr (.inl ⟨rfl, h⟩)))
          generalize frontB l ((entriesE[k]).1 ++ [59]) = F at *
          generalize state1 l k entriesE[k] = S1 at *
          clear hs1 hon hln hst HST
          generalize (entriesE[k]).2.1 = C at *
          generalize (⟨(entriesE[k]).1.toArray⟩ : ByteArray) = o at *
          have HYES := hide hyes
          have HNO := hide hno
          clear hyes hno
          by_cases hf : p + (o.size + 1) ≤ s.size
          · have hf2 : (p : Int) + ((o.size : Int) + 1) ≤ s.size := by omega
            have hfe := (hfit hf).symm
            have hz := semi_size o
            clear hfit hfno hf
            cases F
            · have HN := hide (HS2.out st (HNO.out (.inl rfl)).symm)
              go_wp2
              go_roundw
              case rel => exact ⟨1, st, by omega, by go_num, rfl, rfl, bw2, bw3, HN⟩
              case measure => simp [intOf]
            · by_cases hm : lenOf st < o.size + 1
              · have HN := hide (HYES.out rfl hm).symm
                have hm2 : (lenOf st : Int) < (o.size : Int) + 1 := by omega
                clear hm
                go_wp2_with fail
                refine (HU.out _).mono ?_
                rintro e w2 ⟨rfl, b2⟩
                go_wp2
                go_roundw
                case rel => exact ⟨1, some (C, o.size + 1), by omega, by go_num, rfl, by go_num, bw2.trans (b2.mono bw2.size), bw3.trans (b2.mono bw3.size), hide (.inr (.inl ⟨rfl, HN.out⟩))⟩
                case measure => simp [intOf]
              · have HN := hide (HS2.out st (HNO.out (.inr hm)).symm)
                have hm2 : ¬ (lenOf st : Int) < (o.size : Int) + 1 := by omega
                clear hm
                go_wp2
                go_roundw
                case rel => exact ⟨1, st, by omega, by go_num, rfl, rfl, bw2, bw3, HN⟩
                case measure => simp [intOf]
          · have hf2 : ¬ (p : Int) + ((o.size : Int) + 1) ≤ s.size := by omega
            have hfe := hfno hf
            have hz := semi_size o
            clear hfit hfno hf
            have HN := hide (HS2.out st (HNO.out (.inl hfe)).symm)
            go_wp2
            go_roundw
            case rel => exact ⟨1, st, by omega, by go_num, rfl, rfl, bw2, bw3, HN⟩
            case measure => simp [intOf]
        · -- the bare name
          have hs1 : state2 l k entriesE[k] = if (entriesE[k]).2.2 then stepP l st ((entriesE[k]).1, (entriesE[k]).2.1) else st := by rw [hst]; rfl
          have hln : ((entriesE[k]).1.length) = (⟨(entriesE[k]).1.toArray⟩ : ByteArray).size := by rw [size_list, str_data]
          have hfit := HFF.out (⟨(entriesE[k]).1.toArray⟩ : ByteArray)
          have hfno := HFN.out (⟨(entriesE[k]).1.toArray⟩ : ByteArray)
          rw [str_data] at hfit hfno
          have hyes := step_yes l st (entriesE[k]).1 (entriesE[k]).2.1
          have hno := step_no l st (entriesE[k]).1 (entriesE[k]).2.1
          rw [hln] at hyes hno
          have HS2 : Hid (∀ st', st' = state2 l k entriesE[k] → Hid ((2 = 0 ∧ st' = stateP l k) ∨ (2 = 1 ∧ st' = state1 l k entriesE[k]) ∨ (2 = 2 ∧ st' = state2 l k entriesE[k]))) := hide (fun st' h => hide (.inr (.inr ⟨rfl, h⟩)))
          generalize frontB l (entriesE[k]).1 = F at *
          generalize state2 l k entriesE[k] = S1 at *
          generalize stepP l st ((entriesE[k]).1, (entriesE[k]).2.1) = SP at *
          clear hln hst HST
          generalize (entriesE[k]).2.1 = C at *
          generalize (entriesE[k]).2.2 = Bare at *
          generalize (⟨(entriesE[k]).1.toArray⟩ : ByteArray) = o at *
          have HYES := hide hyes
          have HNO := hide hno
          clear hyes hno
          cases Bare
          · have HN := hide (HS2.out st hs1.symm)
            clear hs1 hfit hfno
            go_wp2
            go_roundw
            case rel => exact ⟨2, st, by omega, by go_num, rfl, rfl, bw2, bw3, HN⟩
            case measure => simp [intOf]
          · have HSP : Hid (S1 = SP) := hide hs1
            clear hs1
            by_cases hf : p + o.size ≤ s.size
            · have hf2 : (p : Int) + (o.size : Int) ≤ s.size := by omega
              have hfe := (hfit hf).symm
              clear hfit hfno hf
              cases F
              · have HN := hide (HS2.out st (by rw [HSP.out, HNO.out (.inl rfl)]))
                go_wp2
                go_roundw
                case rel => exact ⟨2, st, by omega, by go_num, rfl, rfl, bw2, bw3, HN⟩
                case measure => simp [intOf]
              · by_cases hm : lenOf st < o.size
                · have HN : Hid (some (C, o.size) = S1) := hide (by rw [HSP.out, HYES.out rfl hm])
                  have hm2 : (lenOf st : Int) < (o.size : Int) := by omega
                  clear hm
                  go_wp2_with fail
                  refine (HU.out _).mono ?_
                  rintro e w2 ⟨rfl, b2⟩
                  go_wp2
                  go_roundw
                  case rel => exact ⟨2, some (C, o.size), by omega, by go_num, rfl, by go_num, bw2.trans (b2.mono bw2.size), bw3.trans (b2.mono bw3.size), hide (.inr (.inr ⟨rfl, HN.out⟩))⟩
                  case measure => simp [intOf]
                · have HN := hide (HS2.out st (by rw [HSP.out, HNO.out (.inr hm)]))
                  have hm2 : ¬ (lenOf st : Int) < (o.size : Int) := by omega
                  clear hm
                  go_wp2
                  go_roundw
                  case rel => exact ⟨2, st, by omega, by go_num, rfl, rfl, bw2, bw3, HN⟩
                  case measure => simp [intOf]
            · have hf2 : ¬ (p : Int) + (o.size : Int) ≤ s.size := by omega
              have hfe := hfno hf
              clear hfit hfno hf
              have HN := hide (HS2.out st (by rw [HSP.out, HNO.out (.inl hfe)]))
              go_wp2
              go_roundw
              case rel => exact ⟨2, st, by omega, by go_num, rfl, rfl, bw2, bw3, HN⟩
              case measure => simp [intOf]
        · -- both are done
          have hq : st = stateP l (k + 1) := by rw [HNX.out, hst]
          subst hq
          clear hst HST c1 c2 c3
          go_wp2
          go_roundw
          case rel => exact ⟨k + 1, by omega, by go_num, rfl, rfl, bw2, bw3⟩
          case measure => simp [intOf]; omega
    · obtain rfl : k = 45 := by omega
      have hq := HALL.out
      rw [hq]
      clear hlt hq
      go_wp2
      go_ret2
      exact ⟨rfl, bw⟩
end Go.Proofs.YtlfjmgniflkapaaGreatDoor
