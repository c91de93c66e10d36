/- What the document's own Escape answers, of whatever text; nothing that was there is written. -/
import Derived.Test.YthoibenncjbkdaaEt9
set_option linter.unusedVariables false
set_option linter.unusedSimpArgs false
set_option maxRecDepth 4000
namespace Go.Proofs.Ythoibenncjbkdaa
open Go.RowKit

theorem one_cut (s : ByteArray) (k : Nat) (h : k < s.size) : (s.extract k (k + 1)).data.toList = [s[k]] := by
  rw [Lib.extract_data, Nat.add_sub_cancel_left, list_drop s k h]
  rfl
theorem one_eq (o : ByteArray) (c d : UInt8) (h : o.data.toList = [c]) : (o.toList == [d]) = decide (c = d) := by
  rw [Lib.toList_data, h]
  by_cases e : c = d
  · simp [e]
  · simp [e]
theorem u8_ne {c : UInt8} {n : Nat} (d : UInt8) (hd : d.toNat = n) (h : c ≠ d) : ¬ (c.toNat : Int) = (n : Int) := fun e => h (UInt8.toNat_inj.1 (by rw [hd]; omega))
set_option maxHeartbeats 4000000 in
theorem rescape_any (s : ByteArray) (hs : s.size ≤ 1000000) (attr : Bool) (w : World) :
    Calls Try.prog 11 #[.string s, .bool attr] w fun e w' => e = .returned (.string ⟨(escL attr s.data.toList).toArray⟩) ∧ w' = w := by
  have HS := hide (fun (k : Nat) (h : k < s.size) => list_drop s k h)
  have HO := hide (fun (k : Nat) (h : k < s.size) => one_cut s k h)
  have HE : Hid (∀ k, s.data.toList.length ≤ k → s.data.toList.drop k = []) := hide (fun k h => List.drop_eq_nil_of_le h)
  have HZ := hide (S5.size_list s)
  generalize hR : escL attr s.data.toList = R at *
  have HR := hide hR
  clear hR
  go_enter Try.func11, Try.ntmps11
  go_wp2
  go_loop [5, 6] (fun vo vi => ∃ (pos : Nat) (x : ByteArray), vi = .int .i64 pos ∧ vo = .string x ∧ pos ≤ s.size ∧ x.size ≤ 6 * pos ∧ Hid (x.data.toList ++ escL attr (s.data.toList.drop pos) = R)) (fun _ vi => s.size - (intOf vi).toNat)
  case atStart =>
    refine ⟨0, ⟨#[]⟩, rfl, rfl, by omega, Nat.zero_le _, hide ?_⟩
    rw [List.drop_zero]
    exact HR.out
  case round =>
    obtain ⟨pos, x, rfl, rfl, hps, hal, HN⟩ := hrel
    clear HR
    by_cases hp : pos < s.size
    · have hp2 : (pos : Int) < s.size := by omega
      have hp3 : (pos : Int) + 1 ≤ s.size := by omega
      have hd := HS.out pos hp
      have ho := HO.out pos hp
      have hix : ∀ W : World, True := fun _ => trivial
      have o1 := one_eq (s.extract pos (pos + 1)) s[pos] 38 ho
      have o2 := one_eq (s.extract pos (pos + 1)) s[pos] 60 ho
      have o3 := one_eq (s.extract pos (pos + 1)) s[pos] 62 ho
      have o4 := one_eq (s.extract pos (pos + 1)) s[pos] 34 ho
      have hoz : (s.extract pos (pos + 1)).size = 1 := by rw [S5.size_list, ho]; rfl
      have HQ : Hid (x.data.toList ++ escL attr (s[pos] :: s.data.toList.drop (pos + 1)) = R) := hide (by rw [← hd]; exact HN.out)
      clear HN hd hix
      generalize hg : s.extract pos (pos + 1) = o at *
      generalize hc : s[pos] = c at *
      by_cases c1 : c = 38
      · subst c1
        have p1 : (o.toList == [38]) = true := by rw [o1]; decide
        clear o1 o2 o3 o4
        have HLZ : Hid ((⟨#[38, 97, 109, 112, 59]⟩ : ByteArray).size = 5) := hide (rfl)
        have HST : Hid (escL attr (38 :: s.data.toList.drop (pos + 1)) = (⟨#[38, 97, 109, 112, 59]⟩ : ByteArray).data.toList ++ escL attr (s.data.toList.drop (pos + 1))) := hide (by
          exact escL_one attr 38 _ (fun e => absurd e.1 (by decide)))
        have HN2 : Hid ((x ++ ⟨#[38, 97, 109, 112, 59]⟩).data.toList ++ escL attr (s.data.toList.drop (pos + 1)) = R) := hide (by
          rw [← HQ.out, S5.str_app x ⟨#[38, 97, 109, 112, 59]⟩ _ _ rfl rfl, List.append_assoc]
          exact congrArg _ HST.out.symm)
        have hz : (x ++ ⟨#[38, 97, 109, 112, 59]⟩).size ≤ 6 * (pos + 1) := by rw [ByteArray.size_append, HLZ.out]; omega
        clear HQ HST
        go_wp2
        go_round
        case rel => exact ⟨pos + 1, x ++ ⟨#[38, 97, 109, 112, 59]⟩, by go_num, rfl, by omega, hz, HN2⟩
        case measure => simp [intOf]; omega
      · have p1 : (o.toList == [38]) = false := by rw [o1]; simp [c1]
        by_cases c2 : c = 60
        · subst c2
          have p1 : (o.toList == [38]) = false := by rw [o1]; decide
          have p2 : (o.toList == [60]) = true := by rw [o2]; decide
          clear o1 o2 o3 o4
          have HLZ : Hid ((⟨#[38, 108, 116, 59]⟩ : ByteArray).size = 4) := hide (rfl)
          have HST : Hid (escL attr (60 :: s.data.toList.drop (pos + 1)) = (⟨#[38, 108, 116, 59]⟩ : ByteArray).data.toList ++ escL attr (s.data.toList.drop (pos + 1))) := hide (by
            exact escL_one attr 60 _ (fun e => absurd e.1 (by decide)))
          have HN2 : Hid ((x ++ ⟨#[38, 108, 116, 59]⟩).data.toList ++ escL attr (s.data.toList.drop (pos + 1)) = R) := hide (by
            rw [← HQ.out, S5.str_app x ⟨#[38, 108, 116, 59]⟩ _ _ rfl rfl, List.append_assoc]
            exact congrArg _ HST.out.symm)
          have hz : (x ++ ⟨#[38, 108, 116, 59]⟩).size ≤ 6 * (pos + 1) := by rw [ByteArray.size_append, HLZ.out]; omega
          clear HQ HST
          go_wp2
          go_round
          case rel => exact ⟨pos + 1, x ++ ⟨#[38, 108, 116, 59]⟩, by go_num, rfl, by omega, hz, HN2⟩
          case measure => simp [intOf]; omega
        · have p2 : (o.toList == [60]) = false := by rw [o2]; simp [c2]
          by_cases c3 : c = 62
          · subst c3
            have p1 : (o.toList == [38]) = false := by rw [o1]; decide
            have p2 : (o.toList == [60]) = false := by rw [o2]; decide
            have p3 : (o.toList == [62]) = true := by rw [o3]; decide
            clear o1 o2 o3 o4
            have HLZ : Hid ((⟨#[38, 103, 116, 59]⟩ : ByteArray).size = 4) := hide (rfl)
            have HST : Hid (escL attr (62 :: s.data.toList.drop (pos + 1)) = (⟨#[38, 103, 116, 59]⟩ : ByteArray).data.toList ++ escL attr (s.data.toList.drop (pos + 1))) := hide (by
              exact escL_one attr 62 _ (fun e => absurd e.1 (by decide)))
            have HN2 : Hid ((x ++ ⟨#[38, 103, 116, 59]⟩).data.toList ++ escL attr (s.data.toList.drop (pos + 1)) = R) := hide (by
              rw [← HQ.out, S5.str_app x ⟨#[38, 103, 116, 59]⟩ _ _ rfl rfl, List.append_assoc]
              exact congrArg _ HST.out.symm)
            have hz : (x ++ ⟨#[38, 103, 116, 59]⟩).size ≤ 6 * (pos + 1) := by rw [ByteArray.size_append, HLZ.out]; omega
            clear HQ HST
            go_wp2
            go_round
            case rel => exact ⟨pos + 1, x ++ ⟨#[38, 103, 116, 59]⟩, by go_num, rfl, by omega, hz, HN2⟩
            case measure => simp [intOf]; omega
          · have p3 : (o.toList == [62]) = false := by rw [o3]; simp [c3]
            by_cases c4 : c = 34
            · subst c4
              have p4 : (o.toList == [34]) = true := by rw [o4]; decide
              clear o1 o2 o3 o4
              cases attr
              · skip
                have i1 := u8_ne (c := 34) (n := 194) 194 rfl (by decide)
                have HLZ : Hid ((o : ByteArray).size = 1) := hide (hoz)
                have HST : Hid (escL false (34 :: s.data.toList.drop (pos + 1)) = (o : ByteArray).data.toList ++ escL false (s.data.toList.drop (pos + 1))) := hide (by
                  refine (escL_one false 34 _ (fun e => absurd e.1 (by decide))).trans ?_
                  rw [ho]
                  rfl)
                have HN2 : Hid ((x ++ o).data.toList ++ escL false (s.data.toList.drop (pos + 1)) = R) := hide (by
                  rw [← HQ.out, S5.str_app x o _ _ rfl rfl, List.append_assoc]
                  exact congrArg _ HST.out.symm)
                have hz : (x ++ o).size ≤ 6 * (pos + 1) := by rw [ByteArray.size_append, HLZ.out]; omega
                clear HQ HST
                go_wp2
                go_round
                case rel => exact ⟨pos + 1, x ++ o, by go_num, rfl, by omega, hz, HN2⟩
                case measure => simp [intOf]; omega
              · skip
                have HLZ : Hid ((⟨#[38, 113, 117, 111, 116, 59]⟩ : ByteArray).size = 6) := hide (rfl)
                have HST : Hid (escL true (34 :: s.data.toList.drop (pos + 1)) = (⟨#[38, 113, 117, 111, 116, 59]⟩ : ByteArray).data.toList ++ escL true (s.data.toList.drop (pos + 1))) := hide (by
                  exact escL_one true 34 _ (fun e => absurd e.1 (by decide)))
                have HN2 : Hid ((x ++ ⟨#[38, 113, 117, 111, 116, 59]⟩).data.toList ++ escL true (s.data.toList.drop (pos + 1)) = R) := hide (by
                  rw [← HQ.out, S5.str_app x ⟨#[38, 113, 117, 111, 116, 59]⟩ _ _ rfl rfl, List.append_assoc]
                  exact congrArg _ HST.out.symm)
                have hz : (x ++ ⟨#[38, 113, 117, 111, 116, 59]⟩).size ≤ 6 * (pos + 1) := by rw [ByteArray.size_append, HLZ.out]; omega
                clear HQ HST
                go_wp2
                go_round
                case rel => exact ⟨pos + 1, x ++ ⟨#[38, 113, 117, 111, 116, 59]⟩, by go_num, rfl, by omega, hz, HN2⟩
                case measure => simp [intOf]; omega
            · have p4 : (o.toList == [34]) = false := by rw [o4]; simp [c4]
              clear o1 o2 o3 o4
              by_cases c5 : c = 194
              · subst c5
                by_cases hq : pos + 1 < s.size
                · have hq2 : (pos : Int) + 1 < s.size := by omega
                  have hd2 := HS.out (pos + 1) hq
                  generalize hc2 : s[pos + 1] = d at *
                  by_cases c6 : d = 160
                  · subst c6
                    have HD2 := hide hd2
                    clear hd2
                    have HLZ : Hid ((⟨#[38, 110, 98, 115, 112, 59]⟩ : ByteArray).size = 6) := hide (rfl)
                    have HST : Hid (escL attr (194 :: s.data.toList.drop (pos + 1)) = (⟨#[38, 110, 98, 115, 112, 59]⟩ : ByteArray).data.toList ++ escL attr (s.data.toList.drop (pos + 2))) := hide (by
                      rw [HD2.out]
                      exact escL_nbsp attr _)
                    have HN2 : Hid ((x ++ ⟨#[38, 110, 98, 115, 112, 59]⟩).data.toList ++ escL attr (s.data.toList.drop (pos + 2)) = R) := hide (by
                      rw [← HQ.out, S5.str_app x ⟨#[38, 110, 98, 115, 112, 59]⟩ _ _ rfl rfl, List.append_assoc]
                      exact congrArg _ HST.out.symm)
                    have hz : (x ++ ⟨#[38, 110, 98, 115, 112, 59]⟩).size ≤ 6 * (pos + 2) := by rw [ByteArray.size_append, HLZ.out]; omega
                    clear HQ HST
                    go_wp2
                    go_round
                    case rel => exact ⟨pos + 2, x ++ ⟨#[38, 110, 98, 115, 112, 59]⟩, by go_num, rfl, by omega, hz, HN2⟩
                    case measure => simp [intOf]; omega
                  · have i2 := u8_ne (c := d) (n := 160) 160 rfl c6
                    have i3 := nat_u8 (c := d) (n := 160) 160 rfl c6
                    have HD2 := hide hd2
                    clear hd2
                    have HLZ : Hid ((o : ByteArray).size = 1) := hide (hoz)
                    have HST : Hid (escL attr (194 :: s.data.toList.drop (pos + 1)) = (o : ByteArray).data.toList ++ escL attr (s.data.toList.drop (pos + 1))) := hide (by
                      refine (escL_one attr 194 (s.data.toList.drop (pos + 1)) (fun e => c6 (by have := e.2; rw [HD2.out] at this; simpa using this))).trans ?_
                      rw [ho]
                      unfold oneB
                      rw [if_neg c1, if_neg c2, if_neg c3, if_neg (fun e => c4 e.1)])
                    have HN2 : Hid ((x ++ o).data.toList ++ escL attr (s.data.toList.drop (pos + 1)) = R) := hide (by
                      rw [← HQ.out, S5.str_app x o _ _ rfl rfl, List.append_assoc]
                      exact congrArg _ HST.out.symm)
                    have hz : (x ++ o).size ≤ 6 * (pos + 1) := by rw [ByteArray.size_append, HLZ.out]; omega
                    clear HQ HST
                    go_wp2
                    go_round
                    case rel => exact ⟨pos + 1, x ++ o, by go_num, rfl, by omega, hz, HN2⟩
                    case measure => simp [intOf]; omega
                · have hq2 : ¬ (pos : Int) + 1 < s.size := by omega
                  have HLZ : Hid ((o : ByteArray).size = 1) := hide (hoz)
                  have HST : Hid (escL attr (194 :: s.data.toList.drop (pos + 1)) = (o : ByteArray).data.toList ++ escL attr (s.data.toList.drop (pos + 1))) := hide (by
                    refine (escL_one attr 194 (s.data.toList.drop (pos + 1)) (fun e => by have := e.2; rw [HE.out (pos + 1) (by rw [← HZ.out]; omega)] at this; simp at this)).trans ?_
                    rw [ho]
                    unfold oneB
                    rw [if_neg c1, if_neg c2, if_neg c3, if_neg (fun e => c4 e.1)])
                  have HN2 : Hid ((x ++ o).data.toList ++ escL attr (s.data.toList.drop (pos + 1)) = R) := hide (by
                    rw [← HQ.out, S5.str_app x o _ _ rfl rfl, List.append_assoc]
                    exact congrArg _ HST.out.symm)
                  have hz : (x ++ o).size ≤ 6 * (pos + 1) := by rw [ByteArray.size_append, HLZ.out]; omega
                  clear HQ HST
                  go_wp2
                  go_round
                  case rel => exact ⟨pos + 1, x ++ o, by go_num, rfl, by omega, hz, HN2⟩
                  case measure => simp [intOf]; omega
              · have i1 := u8_ne (c := c) (n := 194) 194 rfl c5
                have i4 := nat_u8 (c := c) (n := 194) 194 rfl c5
                have HLZ : Hid ((o : ByteArray).size = 1) := hide (hoz)
                have HST : Hid (escL attr (c :: s.data.toList.drop (pos + 1)) = (o : ByteArray).data.toList ++ escL attr (s.data.toList.drop (pos + 1))) := hide (by
                  refine (escL_one attr c _ (fun e => c5 e.1)).trans ?_
                  rw [ho]
                  unfold oneB
                  rw [if_neg c1, if_neg c2, if_neg c3, if_neg (fun e => c4 e.1)])
                have HN2 : Hid ((x ++ o).data.toList ++ escL attr (s.data.toList.drop (pos + 1)) = R) := hide (by
                  rw [← HQ.out, S5.str_app x o _ _ rfl rfl, List.append_assoc]
                  exact congrArg _ HST.out.symm)
                have hz : (x ++ o).size ≤ 6 * (pos + 1) := by rw [ByteArray.size_append, HLZ.out]; omega
                clear HQ HST
                go_wp2
                go_round
                case rel => exact ⟨pos + 1, x ++ o, by go_num, rfl, by omega, hz, HN2⟩
                case measure => simp [intOf]; omega
    · have hp2 : ¬ (pos : Int) < s.size := by omega
      have HE2 : Hid (x = ⟨R.toArray⟩) := hide (S5.str_of x R (by rw [← HN.out, HE.out pos (by rw [← HZ.out]; omega), escL_nil, List.append_nil]))
      clear HN
      go_wp2
      go_ret
      rw [HE2.out]
      exact ⟨rfl, rfl⟩
end Go.Proofs.Ythoibenncjbkdaa
