import Derived.Test.YtfohijnkeefcfaaGreatDoorKn04
import Derived.BigQuiet
import Derived.Deep.QuietTactic
set_option linter.unusedVariables false
set_option linter.unusedSimpArgs false
set_option maxRecDepth 100000
set_option maxHeartbeats 8000000
namespace Go.Proofs.YtfohijnkeefcfaaGreatDoor.G5
open Go.RowKit
theorem attrs_any (va vb : Value) (aa bb : AttrL) (ha : aa.length <= 9223372036854775807) (hb : bb.length <= 9223372036854775807) (w : World) (hA : IsA w va aa) (hB : IsA w vb bb) :
    Calls Tryz.prog 57 #[va, vb] w fun e w' => e = .returned (.bool (aa == bb)) /\ Below w.heap.size w w' := by
  by_cases hl : aa.length = bb.length
  · by_cases h0 : aa = []
    · subst h0
      have hbb : bb = [] := List.eq_nil_of_length_eq_zero hl.symm
      subst hbb
      obtain ⟨a1, c1, rfl⟩ := isA_form hA
      obtain ⟨a2, c2, rfl⟩ := isA_form hB
      simp only [List.length_nil]
      clear hA hB
      go_enter Tryz.func57, Tryz.ntmps57
      go_wp2
      go_loop [5] (fun ti => ti = .int .i64 0) (fun _ => 0)
      case atStart => rfl
      case round =>
        subst hrel
        go_wp2
        go_ret
        exact ⟨rfl, Below.refl _ _⟩
    · have hpos : 0 < aa.length := by
        cases aa with
        | nil => exact absurd rfl h0
        | cons x y => simp
      rcases hA with ⟨_, rfl⟩ | ⟨b1, o1, cap1, rfl, hcap1, hcs1⟩
      · exact absurd rfl h0
      rcases hB with ⟨_, rfl⟩ | ⟨b2, o2, cap2, rfl, hcap2, hcs2⟩
      · exact absurd (List.eq_nil_of_length_eq_zero hl) h0
      have HC1 := hide hcs1
      have HC2 := hide hcs2
      clear hcs1 hcs2
      generalize hR : (aa == bb) = R
      have HR := hide hR
      clear hR
      have hleq : ((aa.length : Int) == (bb.length : Int)) = true := beq_iff_eq.2 (by omega)
      go_enter Tryz.func57, Tryz.ntmps57
      go_wp2
      go_loopw [5] (fun ti wr => ∃ k : Nat, k <= aa.length /\ ti = .int .i64 (k : Int) /\ Below w.heap.size w wr /\ Hid (aa.take k = bb.take k)) (fun ti _ => aa.length - (intOf ti).toNat)
      case atStart => exact ⟨0, by omega, rfl, Below.refl _ _, hide rfl⟩
      case round =>
        obtain ⟨k, hk, rfl, bw, HT⟩ := hrel
        have HBW := hide bw
        by_cases hlt : k < aa.length
        · have hlt2 : (k : Int) < aa.length := by omega
          have hlb : k < bb.length := by omega
          have hlb2 : (k : Int) < bb.length := by omega
          obtain ⟨x1, y1⟩ := HC1.out k hlt
          obtain ⟨x2, y2⟩ := HC2.out k hlb
          have r1 := bw.cell (cell_lt x1)
          have r2 := bw.cell (cell_lt y1)
          have r3 := bw.cell (cell_lt x2)
          have r4 := bw.cell (cell_lt y2)
          rw [x1] at r1
          rw [y1] at r2
          rw [x2] at r3
          rw [y2] at r4
          clear x1 y1 x2 y2 bw
          by_cases h1 : aa[k].1 = bb[k].1
          · have g1 : (⟨aa[k].1.toArray⟩ : ByteArray).toList = (⟨bb[k].1.toArray⟩ : ByteArray).toList := by rw [h1]
            by_cases h2 : aa[k].2 = bb[k].2
            · have g2 : (⟨aa[k].2.toArray⟩ : ByteArray).toList = (⟨bb[k].2.toArray⟩ : ByteArray).toList := by rw [h2]
              have HT2 : Hid (aa.take (k + 1) = bb.take (k + 1)) := hide (by
                rw [List.take_succ_eq_append_getElem hlt, List.take_succ_eq_append_getElem hlb, HT.out]
                have : aa[k] = bb[k] := Prod.ext h1 h2
                rw [this])
              clear h1 h2 HT
              generalize (⟨aa[k].1.toArray⟩ : ByteArray) = s1 at *
              generalize (⟨aa[k].2.toArray⟩ : ByteArray) = s2 at *
              generalize (⟨bb[k].1.toArray⟩ : ByteArray) = s3 at *
              generalize (⟨bb[k].2.toArray⟩ : ByteArray) = s4 at *
              go_wp2_with fail
              go_region
              all_goals go_wp2
              all_goals go_roundw
              case rel => exact ⟨k + 1, by omega, by go_num, by first | exact HBW.out.drew | exact HBW.out | exact HBW.out.drew.drew, HT2⟩
              case measure => simp [intOf]; omega
            · have g2 : ¬ (⟨aa[k].2.toArray⟩ : ByteArray).toList = (⟨bb[k].2.toArray⟩ : ByteArray).toList := fun h => h2 (by rw [Lib.toList_data, Lib.toList_data, str_data, str_data] at h; exact h)
              have hx : ¬ aa[k] = bb[k] := fun h => h2 (by rw [h])
              have HF : Hid (R = false) := hide (by
                rw [<- HR.out]
                refine beq_eq_false_iff_ne.2 (fun h => hx ?_)
                subst h
                rfl)
              clear h1 h2 hx
              generalize (⟨aa[k].1.toArray⟩ : ByteArray) = s1 at *
              generalize (⟨aa[k].2.toArray⟩ : ByteArray) = s2 at *
              generalize (⟨bb[k].1.toArray⟩ : ByteArray) = s3 at *
              generalize (⟨bb[k].2.toArray⟩ : ByteArray) = s4 at *
              go_wp2_with fail
              go_region
              all_goals go_wp2
              all_goals go_ret
              all_goals exact ⟨ret_bool HF.out.symm, by first | exact HBW.out.drew | exact HBW.out | exact HBW.out.drew.drew⟩
          · have g1 : ¬ (⟨aa[k].1.toArray⟩ : ByteArray).toList = (⟨bb[k].1.toArray⟩ : ByteArray).toList := fun h => h1 (by rw [Lib.toList_data, Lib.toList_data, str_data, str_data] at h; exact h)
            have hx : ¬ aa[k] = bb[k] := fun h => h1 (by rw [h])
            have HF : Hid (R = false) := hide (by
              rw [<- HR.out]
              refine beq_eq_false_iff_ne.2 (fun h => hx ?_)
              subst h
              rfl)
            clear h1 hx
            generalize (⟨aa[k].1.toArray⟩ : ByteArray) = s1 at *
            generalize (⟨aa[k].2.toArray⟩ : ByteArray) = s2 at *
            generalize (⟨bb[k].1.toArray⟩ : ByteArray) = s3 at *
            generalize (⟨bb[k].2.toArray⟩ : ByteArray) = s4 at *
            go_wp2_with fail
            go_region
            all_goals go_wp2
            all_goals go_ret
            all_goals exact ⟨ret_bool HF.out.symm, by first | exact HBW.out.drew | exact HBW.out | exact HBW.out.drew.drew⟩
        · have hlt2 : ¬ (k : Int) < aa.length := by omega
          have HF : Hid (R = true) := hide (by
            rw [<- HR.out]
            have h := HT.out
            rw [List.take_of_length_le (by omega), List.take_of_length_le (by omega)] at h
            rw [h]
            simp)
          clear HT
          go_wp2
          go_ret
          exact ⟨ret_bool HF.out.symm, HBW.out⟩
  · have hne : (aa == bb) = false := beq_eq_false_iff_ne.2 (fun h => hl (by rw [h]))
    rw [hne]
    obtain ⟨a1, c1, rfl⟩ := isA_form hA
    obtain ⟨a2, c2, rfl⟩ := isA_form hB
    have hleq : ((aa.length : Int) == (bb.length : Int)) = false := beq_eq_false_iff_ne.2 (by omega)
    clear hA hB hne
    go_enter Tryz.func57, Tryz.ntmps57
    go_wp2
    go_ret
    exact ⟨rfl, Below.refl _ _⟩
end Go.Proofs.YtfohijnkeefcfaaGreatDoor.G5
