/- What CharrefBack and CharrefParts answer: true; nothing that was there is written. -/
import Derived.Test.YtiapnmplfkghlaaDoorAlive
set_option linter.unusedVariables false
set_option linter.unusedSimpArgs false
namespace Go.Proofs.YtiapnmplfkghlaaDoor
open Go.RowKit

theorem esc_other (x : List UInt8) (s : ByteArray) (k : Nat) (h : k < s.size) (hc : (s[k]).toNat ≠ 38) (acc : ByteArray) (R : List UInt8) (hN : acc.data.toList ++ escL x (s.data.toList.drop k) = R) : (acc ++ s.extract k (k + 1)).data.toList ++ escL x (s.data.toList.drop (k + 1)) = R := by
  rw [← hN, drop_cons s k h, str_app acc _ _ _ rfl (one_byte s k h), List.append_assoc]
  simp only [escL]
  rw [if_neg (fun e => hc (by rw [e]; rfl))]
  rfl
theorem esc_amp (x : List UInt8) (s : ByteArray) (k : Nat) (h : k < s.size) (hc : (s[k]).toNat = 38) (acc : ByteArray) (R : List UInt8) (hN : acc.data.toList ++ escL x (s.data.toList.drop k) = R) : (acc ++ (⟨x.toArray⟩ : ByteArray)).data.toList ++ escL x (s.data.toList.drop (k + 1)) = R := by
  rw [← hN, drop_cons s k h, str_app acc _ _ _ rfl (str_data x), List.append_assoc]
  simp only [escL]
  rw [if_pos (UInt8.toNat_inj.1 hc)]
theorem one_eq (s : ByteArray) (k : Nat) (h : k < s.size) : ((s.extract k (k + 1)).toList == [38]) = decide ((s[k]).toNat = 38) := by
  rw [Lib.toList_data, one_byte s k h, Bool.eq_iff_iff]
  simp only [beq_iff_eq, List.cons.injEq, and_true, decide_eq_true_eq]
  exact ⟨fun e => by rw [e]; rfl, fun e => UInt8.toNat_inj.1 e⟩
theorem one_size (s : ByteArray) (k : Nat) (h : k < s.size) : (s.extract k (k + 1)).size = 1 := by
  rw [size_list, one_byte s k h]; rfl
theorem back_any (s : ByteArray) (x : List UInt8) (a : ByteArray) (attr : Bool) (hb : decL attr (escL x s.data.toList) = s.data.toList) (ha : a.size ≤ 100000) (hd : a.data.toList = escL x s.data.toList) (w : World) (ho : OldOk w) :
    Calls Tryd.prog 16 #[.string a, .bool attr] w fun e w' => e = .returned (.string s) ∧ Below w.heap.size w w' := by
  have h := decode_any a ha attr w ho
  rw [hd, hb] at h
  have e : (⟨s.data.toList.toArray⟩ : ByteArray) = s := (str_of s _ rfl).symm
  rw [e] at h
  exact h

set_option maxHeartbeats 2000000 in
theorem back_walk (s : ByteArray) (attr : Bool) (w : World) (ho : OldOk w) :
    Calls Tryd.prog 7 #[.string s, .bool attr] w fun e w' => e = .returned (.bool true) ∧ Below w.heap.size w w' := by
  have H1 := hide alive_any
  have HO := hide ho
  clear ho
  by_cases hs : 200 < s.size
  · have hs2 : (200 : Int) < s.size := by omega
    clear hs
    go_enter Tryd.func7, Tryd.ntmps7
    go_wp2_with fail
    refine (H1.out _ HO.out).mono ?_
    rintro e w1 ⟨rfl, b1⟩
    go_wp2
    go_ret
    exact ⟨rfl, b1⟩
  · have hs2 : ¬ (200 : Int) < s.size := by omega
    have HB1 := hide (fun a (ha : a.size ≤ 100000) => back_any s [38, 97, 109, 112, 59] a attr (back_1 attr _) ha)
    have HB2 := hide (fun a (ha : a.size ≤ 100000) => back_any s [38, 35, 51, 56, 59] a attr (back_2 attr _) ha)
    have HB3 := hide (fun a (ha : a.size ≤ 100000) => back_any s [38, 35, 120, 50, 54, 59] a attr (back_3 attr _) ha)
    clear hs
    go_enter Tryd.func7, Tryd.ntmps7
    go_wp2
    go_loop [5, 6, 7, 8] (fun ta tb tc ti => ∃ (a b c : ByteArray) (k : Nat), ta = .string a ∧ tb = .string b ∧ tc = .string c ∧ ti = .int .i64 k ∧ k ≤ s.size ∧ a.size ≤ 6 * k ∧ b.size ≤ 6 * k ∧ c.size ≤ 6 * k ∧
      Hid (a.data.toList ++ escL [38, 97, 109, 112, 59] (s.data.toList.drop k) = escL [38, 97, 109, 112, 59] s.data.toList) ∧ Hid (b.data.toList ++ escL [38, 35, 51, 56, 59] (s.data.toList.drop k) = escL [38, 35, 51, 56, 59] s.data.toList) ∧ Hid (c.data.toList ++ escL [38, 35, 120, 50, 54, 59] (s.data.toList.drop k) = escL [38, 35, 120, 50, 54, 59] s.data.toList)) (fun _ _ _ ti => s.size - (intOf ti).toNat)
    case atStart => exact ⟨_, _, _, 0, rfl, rfl, rfl, rfl, by omega, by decide, by decide, by decide, hide rfl, hide rfl, hide rfl⟩
    case round =>
      obtain ⟨a, b, c, k, rfl, rfl, rfl, rfl, hk, ha, hb, hc, HA, HB, HC⟩ := hrel
      by_cases hp : k < s.size
      · have hlt2 : (k : Int) < s.size := by omega
        have heq := one_eq s k hp
        by_cases h38 : (s[k]).toNat = 38
        · rw [decide_eq_true h38] at heq
          have HA2 := hide (esc_amp _ s k hp h38 a _ HA.out)
          have HB2' := hide (esc_amp _ s k hp h38 b _ HB.out)
          have HC2 := hide (esc_amp _ s k hp h38 c _ HC.out)
          have Z1 : Hid ((a ++ (⟨#[38, 97, 109, 112, 59]⟩ : ByteArray)).size ≤ 6 * (k + 1)) := hide (by rw [ByteArray.size_append, show (⟨#[38, 97, 109, 112, 59]⟩ : ByteArray).size = 5 from rfl]; omega)
          have Z2 : Hid ((b ++ (⟨#[38, 35, 51, 56, 59]⟩ : ByteArray)).size ≤ 6 * (k + 1)) := hide (by rw [ByteArray.size_append, show (⟨#[38, 35, 51, 56, 59]⟩ : ByteArray).size = 5 from rfl]; omega)
          have Z3 : Hid ((c ++ (⟨#[38, 35, 120, 50, 54, 59]⟩ : ByteArray)).size ≤ 6 * (k + 1)) := hide (by rw [ByteArray.size_append, show (⟨#[38, 35, 120, 50, 54, 59]⟩ : ByteArray).size = 6 from rfl]; omega)
          clear HA HB HC h38
          go_wp2
          go_round
          case rel => exact ⟨_, _, _, k + 1, rfl, rfl, rfl, by go_num, by omega, Z1.out, Z2.out, Z3.out, HA2, HB2', HC2⟩
          case measure => simp [intOf]; omega
        · rw [decide_eq_false h38] at heq
          have HA2 := hide (esc_other _ s k hp h38 a _ HA.out)
          have HB2' := hide (esc_other _ s k hp h38 b _ HB.out)
          have HC2 := hide (esc_other _ s k hp h38 c _ HC.out)
          have hz := one_size s k hp
          have Z1 : Hid ((a ++ s.extract k (k + 1)).size ≤ 6 * (k + 1)) := hide (by rw [ByteArray.size_append, hz]; omega)
          have Z2 : Hid ((b ++ s.extract k (k + 1)).size ≤ 6 * (k + 1)) := hide (by rw [ByteArray.size_append, hz]; omega)
          have Z3 : Hid ((c ++ s.extract k (k + 1)).size ≤ 6 * (k + 1)) := hide (by rw [ByteArray.size_append, hz]; omega)
          clear HA HB HC h38
          go_wp2
          go_round
          case rel => exact ⟨_, _, _, k + 1, rfl, rfl, rfl, by go_num, by omega, Z1.out, Z2.out, Z3.out, HA2, HB2', HC2⟩
          case measure => simp [intOf]; omega
      · have e1 := HA.out
        have e2 := HB.out
        have e3 := HC.out
        rw [drop_end s k (by omega)] at e1 e2 e3
        simp only [escL, List.append_nil] at e1 e2 e3
        have D1 := hide (HB1.out a (by omega) e1)
        have D2 := hide (HB2.out b (by omega) e2)
        have D3 := hide (HB3.out c (by omega) e3)
        have hlt2 : ¬ (k : Int) < s.size := by omega
        clear HA HB HC e1 e2 e3 hp
        go_wp2_with fail
        refine (H1.out _ HO.out).mono ?_
        rintro e w1 ⟨rfl, b1⟩
        go_wp2_with fail
        refine (D1.out _ (HO.out.below b1)).mono ?_
        rintro e w2 ⟨rfl, b2⟩
        have a2 := b1.trans (b2.mono b1.size)
        go_wp2_with fail
        refine (D2.out _ (HO.out.below a2)).mono ?_
        rintro e w3 ⟨rfl, b3⟩
        have a3 := a2.trans (b3.mono a2.size)
        go_wp2_with fail
        refine (D3.out _ (HO.out.below a3)).mono ?_
        rintro e w4 ⟨rfl, b4⟩
        have a4 := a3.trans (b4.mono a3.size)
        go_wp2
        go_ret
        have c2 := b1.trans (b2.mono b1.size)
        have c3 := c2.trans (b3.mono c2.size)
        exact ⟨by simp, c3.trans (b4.mono c3.size)⟩

theorem parts_any (a b : ByteArray) (ha : a.size ≤ 200) (hb : b.size ≤ 200) (attr : Bool) (q : UInt8) (hq : apartB q = true) (x y : ByteArray) (hx : x = ⟨(decL attr a.data.toList).toArray⟩) (hy : y = ⟨(decL attr b.data.toList).toArray⟩) (w : World) (ho : OldOk w) :
    Calls Tryd.prog 16 #[.string (a ++ (⟨#[q]⟩ : ByteArray) ++ b), .bool attr] w fun e w' => e = .returned (.string (x ++ (⟨#[q]⟩ : ByteArray) ++ y)) ∧ Below w.heap.size w w' := by
  have e0 : (a ++ (⟨#[q]⟩ : ByteArray) ++ b).data.toList = a.data.toList ++ q :: b.data.toList := by
    rw [str_app (a ++ (⟨#[q]⟩ : ByteArray)) b _ _ (str_app a ⟨#[q]⟩ _ [q] rfl rfl) rfl, List.append_assoc]
    rfl
  have e1 : (x ++ (⟨#[q]⟩ : ByteArray) ++ y).data.toList = decL attr a.data.toList ++ q :: decL attr b.data.toList := by
    rw [str_app (x ++ (⟨#[q]⟩ : ByteArray)) y _ _ (str_app x ⟨#[q]⟩ _ [q] rfl rfl) rfl, List.append_assoc, hx, hy, str_data, str_data]
    rfl
  have h := decode_any (a ++ (⟨#[q]⟩ : ByteArray) ++ b) (by rw [ByteArray.size_append, ByteArray.size_append, show (⟨#[q]⟩ : ByteArray).size = 1 from rfl]; omega) attr w ho
  rw [e0, decL_parts attr q hq, ← e1] at h
  rw [← str_of _ _ rfl] at h
  exact h
theorem dec_size (a : ByteArray) (ha : a.size ≤ 200) (attr : Bool) : (⟨(decL attr a.data.toList).toArray⟩ : ByteArray).size ≤ 800 := by
  rw [size_list, str_data]
  have := decL_len attr a.data.toList
  rw [← size_list] at this
  omega

set_option maxHeartbeats 2000000 in
theorem parts_walk (a b : ByteArray) (attr : Bool) (w : World) (ho : OldOk w) :
    Calls Tryd.prog 8 #[.string a, .string b, .bool attr] w fun e w' => e = .returned (.bool true) ∧ Below w.heap.size w w' := by
  have H1 := hide alive_any
  have HO := hide ho
  clear ho
  by_cases ha : 200 < a.size
  · have ha2 : (200 : Int) < a.size := by omega
    clear ha
    go_enter Tryd.func8, Tryd.ntmps8
    go_wp2_with fail
    refine (H1.out _ HO.out).mono ?_
    rintro e w1 ⟨rfl, b1⟩
    go_wp2
    go_ret
    exact ⟨rfl, b1⟩
  · have ha2 : ¬ (200 : Int) < a.size := by omega
    by_cases hb : 200 < b.size
    · have hb2 : (200 : Int) < b.size := by omega
      clear hb ha
      go_enter Tryd.func8, Tryd.ntmps8
      go_wp2_with fail
      refine (H1.out _ HO.out).mono ?_
      rintro e w1 ⟨rfl, b1⟩
      go_wp2
      go_ret
      exact ⟨rfl, b1⟩
    · have hb2 : ¬ (200 : Int) < b.size := by omega
      have H2 := hide (decode_any a (by omega) attr)
      have H3 := hide (decode_any b (by omega) attr)
      have H4 := hide (parts_any a b (by omega) (by omega) attr 32 (by decide) _ _ rfl rfl)
      have H5 := hide (parts_any a b (by omega) (by omega) attr 60 (by decide) _ _ rfl rfl)
      have hx := dec_size a (by omega) attr
      have hy := dec_size b (by omega) attr
      generalize (⟨(decL attr a.data.toList).toArray⟩ : ByteArray) = x at *
      generalize (⟨(decL attr b.data.toList).toArray⟩ : ByteArray) = y at *
      clear ha hb
      go_enter Tryd.func8, Tryd.ntmps8
      go_wp2_with fail
      refine (H2.out _ HO.out).mono ?_
      rintro e w1 ⟨rfl, b1⟩
      go_wp2_with fail
      refine (H3.out _ (HO.out.below b1)).mono ?_
      rintro e w2 ⟨rfl, b2⟩
      have a2 := b1.trans (b2.mono b1.size)
      go_wp2_with fail
      refine (H1.out _ (HO.out.below a2)).mono ?_
      rintro e w3 ⟨rfl, b3⟩
      have a3 := a2.trans (b3.mono a2.size)
      go_wp2_with fail
      refine (H4.out _ (HO.out.below a3)).mono ?_
      rintro e w4 ⟨rfl, b4⟩
      have a4 := a3.trans (b4.mono a3.size)
      go_wp2_with fail
      refine (H5.out _ (HO.out.below a4)).mono ?_
      rintro e w5 ⟨rfl, b5⟩
      have a5 := a4.trans (b5.mono a4.size)
      go_wp2
      go_ret
      have c2 := b1.trans (b2.mono b1.size)
      have c3 := c2.trans (b3.mono c2.size)
      have c4 := c3.trans (b4.mono c3.size)
      exact ⟨by simp, c4.trans (b5.mono c4.size)⟩
end Go.Proofs.YtiapnmplfkghlaaDoor
