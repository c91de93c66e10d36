/- What the program's own small, nameMayBe answer. -/
import Derived.Test.YthopnliaikkhbaaGreatDoorKi11
import Derived.Test.YthopnliaikkhbaaGreatDoorPp11
import Derived.Test.YthopnliaikkhbaaGreatDoorIp11
import Derived.Test.YthopnliaikkhbaaGreatDoorWa10
set_option linter.unusedVariables false
set_option linter.unusedSimpArgs false
set_option maxRecDepth 4000
namespace Go.Proofs.YthopnliaikkhbaaGreatDoor
open Go.RowKit

theorem small_is (n : Nat) (w : World) :
    Calls Tryz.prog 79 #[.int .u8 (n : Int)] w fun e w' => e = .returned (.bool (smallN n)) ∧ w' = w := by
  by_cases h1 : 97 ≤ n
  · by_cases h2 : n ≤ 122
    · have hv : smallN n = true := by simp [smallN, h1, h2]
      rw [hv]
      have i1 : (97 : Int) ≤ n := by omega
      have i2 : (n : Int) ≤ 122 := by omega
      clear hv h1 h2
      go_enter Tryz.func79, Tryz.ntmps79
      go_wp2
      go_ret
      exact ⟨rfl, rfl⟩
    · have hv : smallN n = false := by simp [smallN, h1, h2]
      rw [hv]
      have i1 : (97 : Int) ≤ n := by omega
      have i2 : ¬ (n : Int) ≤ 122 := by omega
      clear hv h1 h2
      go_enter Tryz.func79, Tryz.ntmps79
      go_wp2
      go_ret
      exact ⟨rfl, rfl⟩
  · have hv : smallN n = false := by simp [smallN, h1]
    rw [hv]
    have i1 : ¬ (97 : Int) ≤ n := by omega
    clear hv h1
    go_enter Tryz.func79, Tryz.ntmps79
    go_wp2
    go_ret
    exact ⟨rfl, rfl⟩
theorem name_long (s : ByteArray) (h : ¬ s.size ≤ 20) : nameL s.data.toList = false := by
  unfold nameL
  rw [← size_list, decide_eq_false h]
  simp
theorem name_none (s : ByteArray) (h : s.size = 0) : nameL s.data.toList = false := by
  unfold nameL
  rw [← size_list, h]
  simp
theorem name_some (s : ByteArray) (h0 : 0 < s.size) (h : s.size ≤ 20) : nameL s.data.toList = (smallN s[0].toNat && (s.data.toList.drop 0).all inName) := by
  unfold nameL
  rw [← size_list, decide_eq_true h, decide_eq_true (show 1 ≤ s.size by omega)]
  have e := drop_cons s 0 h0
  rw [List.drop_zero] at e ⊢
  rw [e]
  simp
set_option maxHeartbeats 1000000 in
theorem nameMay_any (s : ByteArray) (hs : s.size ≤ 1000000) (w : World) :
    Calls Tryz.prog 64 #[.string s] w fun e w' => e = .returned (.bool (nameL s.data.toList)) ∧ w' = w := by
  have H1 := hide small_is
  have H2 := hide figure_any
  have he := empty_eq s
  by_cases hl : s.size ≤ 20
  · have hl2 : ¬ (20 : Int) < s.size := by omega
    by_cases h0 : s.size = 0
    · rw [name_none s h0]
      rw [decide_eq_true h0] at he
      clear h0 hl
      go_enter Tryz.func64, Tryz.ntmps64
      go_wp2
      go_ret
      exact ⟨rfl, rfl⟩
    · have h1 : 0 < s.size := by omega
      have h1i : (0 : Int) < s.size := by omega
      rw [name_some s h1 hl]
      rw [decide_eq_false h0] at he
      have HQ := hide (H1.out s[0].toNat)
      clear h0 hl
      cases hsm : smallN s[0].toNat
      · rw [hsm] at HQ
        rw [Bool.false_and]
        clear hsm
        go_enter Tryz.func64, Tryz.ntmps64
        go_wp2_with fail
        refine (HQ.out _).mono ?_
        rintro e w1 ⟨rfl, rfl⟩
        go_wp2
        go_ret
        exact ⟨rfl, rfl⟩
      · rw [hsm] at HQ
        rw [Bool.true_and]
        clear hsm
        generalize hV : (s.data.toList.drop 0).all inName = V
        have HV := hide hV
        clear hV
        go_enter Tryz.func64, Tryz.ntmps64
        go_wp2_with fail
        refine (HQ.out _).mono ?_
        rintro e w1 ⟨rfl, rfl⟩
        go_wp2
        go_loop [20] (fun i => ∃ k : Nat, k ≤ s.size ∧ i = .int .i64 k ∧ Hid ((s.data.toList.drop k).all inName = V)) (fun i => s.size - (intOf i).toNat)
        case atStart => exact ⟨0, Nat.zero_le _, rfl, HV⟩
        case round =>
          obtain ⟨k, hk, rfl, HR⟩ := hrel
          by_cases hlt : k < s.size
          · have hlt2 : (k : Int) < s.size := by omega
            have hst := all_in_step s.data.toList k (by rw [← size_list]; exact hlt)
            rw [HR.out, show s.data.toList[k] = s[k] from rfl] at hst
            have HA := hide (H1.out s[k].toNat)
            have HB := hide (H2.out s[k].toNat)
            unfold inName at hst
            clear HR
            cases h1 : smallN s[k].toNat
            · rw [h1] at HA hst
              clear h1
              cases h2 : figureN s[k].toNat
              · rw [h2] at HB hst
                clear h2
                by_cases h3 : s[k].toNat = 45
                · have e3 : ((s[k].toNat : Int) != 45) = false := by rw [h3]; rfl
                  have HR2 : Hid ((s.data.toList.drop (k + 1)).all inName = V) := hide (by rw [hst, h3]; rfl)
                  clear hst h3
                  go_wp2_with fail
                  refine (HA.out _).mono ?_
                  rintro e w2 ⟨rfl, rfl⟩
                  go_wp2_with fail
                  refine (HB.out _).mono ?_
                  rintro e w2 ⟨rfl, rfl⟩
                  go_wp2
                  go_round
                  case rel => exact ⟨k + 1, by omega, by go_num, HR2⟩
                  case measure => simp [intOf]; omega
                · have e3 := bne_lit s[k].toNat 45 (by omega)
                  have HR2 : Hid (V = false) := hide (by rw [hst]; simp [h3])
                  clear hst h3
                  go_wp2_with fail
                  refine (HA.out _).mono ?_
                  rintro e w2 ⟨rfl, rfl⟩
                  go_wp2_with fail
                  refine (HB.out _).mono ?_
                  rintro e w2 ⟨rfl, rfl⟩
                  go_wp2
                  go_ret
                  exact ⟨ret_bool HR2.out.symm, rfl⟩
              · rw [h2] at HB hst
                have HR2 : Hid ((s.data.toList.drop (k + 1)).all inName = V) := hide (by rw [hst]; rfl)
                clear h2 hst
                go_wp2_with fail
                refine (HA.out _).mono ?_
                rintro e w2 ⟨rfl, rfl⟩
                go_wp2_with fail
                refine (HB.out _).mono ?_
                rintro e w2 ⟨rfl, rfl⟩
                go_wp2
                go_round
                case rel => exact ⟨k + 1, by omega, by go_num, HR2⟩
                case measure => simp [intOf]; omega
            · rw [h1] at HA hst
              have HR2 : Hid ((s.data.toList.drop (k + 1)).all inName = V) := hide (by rw [hst]; rfl)
              clear h1 hst
              go_wp2_with fail
              refine (HA.out _).mono ?_
              rintro e w2 ⟨rfl, rfl⟩
              go_wp2
              go_round
              case rel => exact ⟨k + 1, by omega, by go_num, HR2⟩
              case measure => simp [intOf]; omega
          · have hlt2 : ¬ (k : Int) < s.size := by omega
            have hst := HR.out
            rw [List.drop_eq_nil_of_le (by rw [← size_list]; omega)] at hst
            have HR2 := hide hst
            clear hst HR hlt
            go_wp2
            go_ret
            exact ⟨ret_bool HR2.out, rfl⟩
  · have hl2 : (20 : Int) < s.size := by omega
    rw [name_long s hl]
    clear hl
    go_enter Tryz.func64, Tryz.ntmps64
    go_wp2
    go_ret
    exact ⟨rfl, rfl⟩
set_option maxHeartbeats 1000000 in
theorem listMay_any (l : List Bs) (hl : l.length ≤ 1000000) (hx : ∀ x ∈ l, x.length ≤ 1000000) (v : Value) (w : World) (hW : IsW w v l) (hcap : ∀ a n c, v = .slice a n c → n ≤ c) :
    Calls Tryz.prog 43 #[v] w fun e w' => e = .returned (.bool (namesL l)) ∧ w' = w := by
  obtain ⟨a, c, rfl⟩ := hW.form
  have hc := hcap _ _ _ rfl
  have H1 := hide nameMay_any
  have HW : Hid (∀ k, k ≤ l.length → IsW w (.slice a k c) (l.take k)) := hide (fun k hk => by
    rcases hW with ⟨rfl, a', c', e⟩ | ⟨b, o, cap, e, hcc⟩
    · obtain rfl : k = 0 := by simpa using hk
      exact .inl ⟨rfl, _, _, rfl⟩
    · injection e with e1 e2 e3
      subst e1
      refine .inr ⟨b, o, c, by rw [List.length_take, Nat.min_eq_left hk], fun j hj => ?_⟩
      rw [List.length_take] at hj
      rw [List.getElem_take]
      exact hcc j (by omega))
  have HN := hide (fun k (hk : k ≤ l.length) n => contains_any n (l.take k) (.slice a k c) w (by rw [List.length_take]; omega) (HW.out k hk))
  have HC := hide (fun k x (hk : l[k]? = some x) => hW.at_ k x hk)
  unfold namesL
  generalize hV : namesK [] l = V
  have HV := hide hV
  clear hV hW hcap HW
  go_enter Tryz.func43, Tryz.ntmps43
  go_wp2
  go_loop [7] (fun i => ∃ k : Nat, k ≤ l.length ∧ i = .int .i64 k ∧ Hid (namesK (l.take k) (l.drop k) = V)) (fun i => l.length - (intOf i).toNat)
  case atStart => exact ⟨0, Nat.zero_le _, rfl, HV⟩
  case round =>
    obtain ⟨k, hk, rfl, HR⟩ := hrel
    by_cases hlt : k < l.length
    · have hlt2 : (k : Int) < l.length := by omega
      have hkc : (k : Int) ≤ c := by omega
      obtain ⟨b, o, rfl, hq⟩ := HC.out k _ (List.getElem?_eq_getElem hlt)
      have hcell := hq w (Below.refl _ w)
      have hst := names_step l k hlt
      rw [HR.out] at hst
      have HA := hide (H1.out ⟨(l[k]).toArray⟩ (by rw [size_list, str_data]; exact hx _ (List.getElem_mem hlt)) w)
      have HB := hide (HN.out k hk ⟨(l[k]).toArray⟩)
      rw [str_data] at HA HB
      clear hq HR
      generalize hV2 : namesK (l.take (k + 1)) (l.drop (k + 1)) = V2 at *
      have HV2 := hide hV2
      generalize (⟨(l[k]).toArray⟩ : ByteArray) = y at *
      generalize nameL l[k] = P1 at *
      generalize amongL (l.take k) l[k] = P2 at *
      clear hV2
      cases P1
      · have HR2 : Hid (V = false) := hide (by rw [hst]; rfl)
        clear hst
        go_wp2_with fail
        refine HA.out.mono ?_
        rintro e w2 ⟨rfl, rfl⟩
        go_wp2
        go_ret
        exact ⟨ret_bool HR2.out.symm, rfl⟩
      · cases P2
        · have HR2 : Hid (namesK (l.take (k + 1)) (l.drop (k + 1)) = V) := hide (by rw [hst, HV2.out]; rfl)
          clear hst
          go_wp2_with fail
          refine HA.out.mono ?_
          rintro e w2 ⟨rfl, rfl⟩
          go_wp2_with fail
          refine HB.out.mono ?_
          rintro e w2 ⟨rfl, rfl⟩
          go_wp2
          go_round
          case rel => exact ⟨k + 1, by omega, by go_num, HR2⟩
          case measure => simp [intOf]; omega
        · have HR2 : Hid (V = false) := hide (by rw [hst]; rfl)
          clear hst
          go_wp2_with fail
          refine HA.out.mono ?_
          rintro e w2 ⟨rfl, rfl⟩
          go_wp2_with fail
          refine HB.out.mono ?_
          rintro e w2 ⟨rfl, rfl⟩
          go_wp2
          go_ret
          exact ⟨ret_bool HR2.out.symm, rfl⟩
    · have hlt2 : ¬ (k : Int) < l.length := by omega
      have hst := names_end l k (by omega)
      rw [HR.out] at hst
      have HR2 := hide hst
      clear hst HR hlt
      go_wp2
      go_ret
      exact ⟨ret_bool HR2.out.symm, rfl⟩
end Go.Proofs.YthopnliaikkhbaaGreatDoor
