/- What the document's deep answers. -/
import Derived.Test.YthopnliaikkhbaaGreatDoorIp11
import Derived.Test.YthopnliaikkhbaaGreatDoorLt10
set_option linter.unusedVariables false
set_option linter.unusedSimpArgs false
set_option maxRecDepth 4000
namespace Go.Proofs.YthopnliaikkhbaaGreatDoor
open Go.RowKit

def digK : Nat → Bs → Option Nat
  | n, [] => some n
  | n, c :: r => if figureN c.toNat then digK (n * 10 + (c.toNat - 48)) r else none
def deepR (o : Option Nat) : Int := match o with
  | none => -1
  | some n => (n : Int)
theorem dig_one (l : Bs) (h : l.length = 1) : deepL l = digK 0 l := by
  obtain ⟨a, rfl⟩ := List.length_eq_one_iff.1 h
  simp [deepL, digK]
theorem dig_two (l : Bs) (h : l.length = 2) (h0 : l.head?.map UInt8.toNat ≠ some 48) : deepL l = digK 0 l := by
  match l, h, h0 with
  | [a, b], _, h0 =>
    have ha : (a.toNat == 48) = false := by rw [beq_eq_false_iff_ne]; intro e; exact h0 (by simp [e])
    simp only [deepL, digK, ha, Bool.not_false, Bool.and_true]
    cases figureN a.toNat <;> cases figureN b.toNat <;> simp
theorem dig_nought (l : Bs) (h : l.length = 2) (h0 : l.head?.map UInt8.toNat = some 48) : deepL l = none := by
  match l, h, h0 with
  | [a, b], _, h0 =>
    have ha : (a.toNat == 48) = true := by rw [beq_iff_eq]; simpa using h0
    simp [deepL, ha]
theorem dig_odd (l : Bs) (h1 : l.length ≠ 1) (h2 : l.length ≠ 2) : deepL l = none := by
  match l with
  | [] => rfl
  | [a] => exact absurd rfl h1
  | [a, b] => exact absurd rfl h2
  | _ :: _ :: _ :: _ => rfl
set_option maxHeartbeats 4000000 in
theorem rdeep_any (s : ByteArray) (w : World) (hs : s.size ≤ 1000000) :
    Calls Tryz.prog 32 #[.string s] w fun e w' => e = .returned (.int .i64 (deepR (deepL s.data.toList))) ∧ w' = w := by
  have hL : s.data.toList.length = s.size := (size_list s).symm
  have HF := hide (fun n w => rfigure_any n w)
  by_cases hodd : s.size ≠ 1 ∧ s.size ≠ 2
  · rw [dig_odd _ (by omega) (by omega), show deepR none = -1 from rfl]
    rcases (by omega : s.size = 0 ∨ 2 < s.size) with h | h
    · have q1 : (s.size : Int) < 1 := by omega
      clear hodd hL h hs
      go_enter Tryz.func32, Tryz.ntmps32
      go_wp2
      go_ret
      exact ⟨rfl, rfl⟩
    · have q1 : ¬ (s.size : Int) < 1 := by omega
      have q2 : (2 : Int) < s.size := by omega
      clear hodd hL h hs
      go_enter Tryz.func32, Tryz.ntmps32
      go_wp2
      go_ret
      exact ⟨rfl, rfl⟩
  · have h12 : s.size = 1 ∨ s.size = 2 := by omega
    have h0 : 0 < s.size := by omega
    have hhd : s.data.toList.head?.map UInt8.toNat = some (s[0]'h0).toNat := by
      rw [List.head?_eq_getElem?, List.getElem?_eq_getElem (by omega)]
      simp; rfl
    by_cases hz : s.size = 2 ∧ (s[0]'h0).toNat = 48
    · rw [dig_nought _ (by omega) (by rw [hhd, hz.2]), show deepR none = -1 from rfl]
      have q1 : ¬ (s.size : Int) < 1 := by omega
      have q2 : ¬ (2 : Int) < s.size := by omega
      have q3 : ((s.size : Int) == 2) = true := by rw [beq_iff_eq]; omega
      have q4 : (((s[0]'h0).toNat : Int) == 48) = true := by rw [beq_iff_eq]; omega
      have q5 : (0 : Int) < s.size := by omega
      clear hodd hL h12 hs hhd hz
      go_enter Tryz.func32, Tryz.ntmps32
      go_wp2
      go_ret
      exact ⟨rfl, rfl⟩
    · have hV : deepL s.data.toList = digK 0 s.data.toList := by
        rcases h12 with h | h
        · exact dig_one _ (by omega)
        · refine dig_two _ (by omega) ?_
          rw [hhd]
          intro e
          exact hz ⟨h, Option.some.inj e⟩
      rw [hV]
      generalize hW : digK 0 s.data.toList = V
      have HV : Hid (digK 0 (s.data.toList.drop 0) = V) := hide hW
      have HC : Hid ((((s.size : Int) == 2) = true ∧ (((s[0]'h0).toNat : Int) == 48) = false) ∨ ((s.size : Int) == 2) = false) := hide (by
        by_cases h : s.size = 2
        · exact .inl ⟨by rw [beq_iff_eq]; omega, by rw [beq_eq_false_iff_ne]; intro e; exact hz ⟨h, by omega⟩⟩
        · exact .inr (by rw [beq_eq_false_iff_ne]; omega))
      have q1 : ¬ (s.size : Int) < 1 := by omega
      have q2 : ¬ (2 : Int) < s.size := by omega
      have q5 : (0 : Int) < s.size := by omega
      clear hodd hhd hz hV hW
      go_enter Tryz.func32, Tryz.ntmps32
      rcases HC.out with ⟨q3, q4⟩ | q3
      all_goals
        go_wp2
        go_loop [3, 4] (fun nv iv => ∃ k n : Nat, k ≤ s.size ∧ nv = .int .i64 n ∧ iv = .int .i64 k ∧ ((k = 0 ∧ n = 0) ∨ (k = 1 ∧ n ≤ 9) ∨ (k = 2 ∧ n ≤ 99)) ∧ Hid (digK n (s.data.toList.drop k) = V)) (fun _ iv => s.size - (intOf iv).toNat)
        case atStart => exact ⟨0, 0, by omega, rfl, rfl, .inl ⟨rfl, rfl⟩, HV⟩
        case round =>
          clear HV
          obtain ⟨k, n, hk, rfl, rfl, hkn, HK⟩ := hrel
          by_cases hlt : k < s.size
          · have hlt2 : (k : Int) < s.size := by omega
            have hnow := HK.out
            rw [List.drop_eq_getElem_cons (by omega), digK] at hnow
            have hg : s.data.toList[k]'(by omega) = s[k] := by simp; rfl
            rw [hg] at hnow
            have hn100 : n ≤ 99 := by omega
            have hn9 : n ≤ 9 := by omega
            go_wp2_with fail
            refine (HF.out _ _).mono ?_
            rintro e w' ⟨rfl, rfl⟩
            cases hfig : figureN s[k].toNat
            · rw [hfig, if_neg (by simp)] at hnow
              subst hnow
              go_wp2
              go_ret
              exact ⟨rfl, rfl⟩
            · rw [hfig, if_pos rfl] at hnow
              have hr : 48 ≤ s[k].toNat ∧ s[k].toNat ≤ 57 := by simp [figureN] at hfig; omega
              have HN := hide hnow
              obtain ⟨hr1, hr2⟩ := hr
              have e1 : (n : Int) * 10 + ((s[k].toNat : Int) - 48) = ((n * 10 + (s[k].toNat - 48) : Nat) : Int) := by omega
              clear hnow HK hfig hg
              go_wp2
              go_round
              case rel => exact ⟨k + 1, n * 10 + (s[k].toNat - 48), by omega, by go_num, by go_num, by omega, HN⟩
              case measure => simp [intOf]; omega
          · have hlt2 : ¬ (k : Int) < s.size := by omega
            have hnow := HK.out
            rw [List.drop_eq_nil_of_le (by omega), digK] at hnow
            subst hnow
            clear HK
            go_wp2
            go_ret
            exact ⟨rfl, rfl⟩
end Go.Proofs.YthopnliaikkhbaaGreatDoor
