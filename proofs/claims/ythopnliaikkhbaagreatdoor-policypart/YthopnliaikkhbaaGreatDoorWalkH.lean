/- What the document's own In answers, of whatever list and name: is the name one of the list's pieces?; the world stays as it was. -/
import Derived.Test.YthopnliaikkhbaaGreatDoorIw10
set_option linter.unusedVariables false
set_option linter.unusedSimpArgs false
set_option maxRecDepth 4000
namespace Go.Proofs.YthopnliaikkhbaaGreatDoor
open Go.RowKit

theorem cut_eq (t n : ByteArray) (f k : Nat) : ((t.extract f k).toList == n.toList) = (n.data.toList == (t.extract f k).data.toList) := by
  rw [Lib.toList_data, Lib.toList_data]
  exact BEq.comm
theorem cut_more (t : ByteArray) (f k : Nat) (h : k < t.size) (hf : f ≤ k) : (t.extract f (k + 1)).data.toList = (t.extract f k).data.toList ++ [t[k]] := by
  rw [Lib.extract_data, Lib.extract_data, show k + 1 - f = k - f + 1 by omega, List.take_add_one, List.getElem?_drop, show f + (k - f) = k by omega]
  have hk : k < t.data.toList.length := by rw [← size_list]; exact h
  rw [List.getElem?_eq_getElem hk]
  rfl
theorem cut_none (t : ByteArray) (k : Nat) : (t.extract k k).data.toList = [] := by
  rw [Lib.extract_data, Nat.sub_self, List.take_zero]
theorem in_blank (cur r n : List UInt8) : amongL (piecesL cur (32 :: r)) n = (n == cur || amongL (piecesL [] r) n) := rfl
theorem in_other (cur r n : List UInt8) (c : UInt8) (h : c ≠ 32) : amongL (piecesL cur (c :: r)) n = amongL (piecesL (cur ++ [c]) r) n := by
  rw [piecesL, if_neg h]
theorem in_end (cur n : List UInt8) : amongL (piecesL cur []) n = (n == cur) := by
  show (n == cur || false) = _
  rw [Bool.or_false]
theorem byte_eq {c : UInt8} {n : Nat} (h : c.toNat = n) (d : UInt8) (hd : d.toNat = n) : c = d := UInt8.toNat_inj.1 (by rw [h, hd])
theorem eqNat (a b : Nat) (h : a = b) : ((a : Int) == (b : Int)) = true := beq_iff_eq.2 (by omega)
theorem neNat (a b : Nat) (h : a ≠ b) : ((a : Int) == (b : Int)) = false := beq_eq_false_iff_ne.2 (by omega)

set_option maxHeartbeats 1000000 in
theorem in_any (t n : ByteArray) (ht : t.size ≤ 1000000) (w : World) :
    Calls Tryz.prog 60 #[.string t, .string n] w fun e w' => e = .returned (.bool (amongL (piecesL [] t.data.toList) n.data.toList)) ∧ w' = w := by
  generalize hV : amongL (piecesL [] t.data.toList) n.data.toList = V
  have HV := hide hV
  clear hV
  go_enter Tryz.func60, Tryz.ntmps60
  go_wp2
  go_loop [5, 6] (fun tf ti => ∃ f k : Nat, tf = .int .i64 f ∧ ti = .int .i64 k ∧ f ≤ k ∧ k ≤ t.size + 1 ∧ Hid ((k ≤ t.size ∧ amongL (piecesL (t.extract f k).data.toList (t.data.toList.drop k)) n.data.toList = V) ∨ (k = t.size + 1 ∧ V = false))) (fun _ ti => t.size + 1 - (intOf ti).toNat)
  case atStart => exact ⟨0, 0, rfl, rfl, Nat.le_refl _, by omega, hide (.inl ⟨by omega, by rw [cut_none, List.drop_zero]; exact HV.out⟩)⟩
  case round =>
    obtain ⟨f, k, rfl, rfl, hfk, hk, HR⟩ := hrel
    rcases HR.out with ⟨hks, hr⟩ | ⟨hks, hr⟩
    · have hle : (k : Int) ≤ t.size := by omega
      have hcut := cut_eq t n f k
      by_cases hlt : k < t.size
      · have hne := neNat k t.size (by omega)
        rw [drop_cons t k hlt] at hr
        by_cases hc : t[k].toNat = 32
        · have hd : ((t[k].toNat : Int) == 32) = true := beq_iff_eq.2 (by omega)
          rw [byte_eq hc 32 rfl, in_blank] at hr
          rw [← hcut] at hr
          cases hb : (t.extract f k).toList == n.toList
          · rw [hb, Bool.false_or] at hr
            have HR2 := hide hr
            clear hr HR hcut hc
            go_wp2
            go_round
            case rel => exact ⟨k + 1, k + 1, by go_num, by go_num, Nat.le_refl _, by omega, hide (.inl ⟨by omega, by rw [cut_none]; exact HR2.out⟩)⟩
            case measure => simp [intOf]; omega
          · rw [hb, Bool.true_or] at hr
            have HR2 := hide hr
            clear hr HR hcut hc
            go_wp2
            go_ret
            exact ⟨ret_bool HR2.out, rfl⟩
        · have hd : ((t[k].toNat : Int) == 32) = false := beq_eq_false_iff_ne.2 (by omega)
          rw [in_other _ _ _ _ (fun e => hc (by rw [e]; rfl)), ← cut_more t f k hlt hfk] at hr
          have HR2 := hide hr
          clear hr HR hcut hc
          go_wp2
          go_round
          case rel => exact ⟨f, k + 1, rfl, by go_num, by omega, by omega, hide (.inl ⟨by omega, HR2.out⟩)⟩
          case measure => simp [intOf]; omega
      · obtain rfl : k = t.size := by omega
        rw [List.drop_eq_nil_of_le (by rw [← size_list]; omega), in_end, ← hcut] at hr
        cases hb : (t.extract f t.size).toList == n.toList
        · rw [hb] at hr
          have HR2 := hide hr
          clear hr HR hcut
          go_wp2
          go_round
          case rel => exact ⟨t.size + 1, t.size + 1, by go_num, by go_num, Nat.le_refl _, by omega, hide (.inr ⟨rfl, HR2.out.symm⟩)⟩
          case measure => simp [intOf]
        · rw [hb] at hr
          have HR2 := hide hr
          clear hr HR hcut
          go_wp2
          go_ret
          exact ⟨ret_bool HR2.out, rfl⟩
    · have hle : ¬ (k : Int) ≤ t.size := by omega
      have HR2 := hide hr
      clear hr HR
      go_wp2
      go_ret
      exact ⟨ret_bool HR2.out.symm, rfl⟩
end Go.Proofs.YthopnliaikkhbaaGreatDoor
