/- What the document's own rule answers; nothing that was there is written. -/
import Derived.Test.YthopnliaikkhbaaGreatDoorRa11
set_option linter.unusedVariables false
set_option linter.unusedSimpArgs false
set_option maxRecDepth 4000
namespace Go.Proofs.YthopnliaikkhbaaGreatDoor
open Go.RowKit

theorem any_stepA (l : List Bs) (k : Nat) (h : k < l.length) : (l.drop k).any badA = (badA l[k] || (l.drop (k + 1)).any badA) := by
  rw [List.drop_eq_getElem_cons h]; rfl
theorem any_endA (l : List Bs) (k : Nat) (h : l.length ≤ k) : (l.drop k).any badA = false := by
  rw [List.drop_eq_nil_of_le h]; rfl
def oddT : Bs := [109, 97, 116, 104, 32, 110, 111, 115, 99, 114, 105, 112, 116, 32, 112, 108, 97, 105, 110, 116, 101, 120, 116, 32, 115, 118, 103, 32, 116, 101, 109, 112, 108, 97, 116, 101]
theorem odd_pieces : piecesL [] oddT = oddN := by decide +kernel
set_option maxHeartbeats 4000000 in
theorem rrule_any (r : RV) (ha : r.at_.length ≤ 1000000) (hn : r.nm.size ≤ 1000000) (hx : ∀ x ∈ r.at_, x.length ≤ 1000000) (w : World) (hW : IsW w r.av r.at_) (hcap : ∀ a n c, r.av = .slice a n c → n ≤ c) :
    Calls Tryz.prog 34 #[.agg #[.string r.nm, r.av]] w fun e w' => e = .returned (.bool (ruleL r.ru)) ∧ Below w.heap.size w w' := by
  obtain ⟨nm, at_, av⟩ := r
  simp only [] at *
  obtain ⟨a, c, rfl⟩ := hW.form
  have H1 := hide (rname_any nm hn)
  have H2 := hide (fun x (b : Below w.heap.size w x) => rnames_any at_ ha hx _ x (hW.below b) hcap)
  have H3 := hide (ris_any 2 nm)
  have H4 := hide (ris_any 3 nm)
  have H5 := hide (ris_any 12 nm)
  have H6 := hide (in_any ⟨oddT.toArray⟩ nm (by decide))
  have HB := hide (fun x (b : Below (ruW w nm (.slice a at_.length c)).heap.size (ruW w nm (.slice a at_.length c)) x) => ru_box w nm (.slice a at_.length c) b)
  unfold ruleL RV.ru
  simp only []
  rw [show (⟨oddT.toArray⟩ : ByteArray).data.toList = oddT from rfl, odd_pieces] at H6
  generalize nameL nm.data.toList = N1 at *
  generalize namesL at_ = N2 at *
  generalize isL 2 nm.data.toList = I2 at *
  generalize isL 3 nm.data.toList = I3 at *
  generalize isL 12 nm.data.toList = I12 at *
  generalize hOD : amongL oddN nm.data.toList = OD at *
  generalize hAN : at_.any badA = AN at *
  have HAN := hide hAN
  have HC : Hid (∀ k (hk : k < at_.length), ∃ b o, a = some ⟨b, o, none⟩ ∧ ∀ W, Below w.heap.size w W → W.cell? ⟨b, o + k, none⟩ = some (.string ⟨(at_[k]).toArray⟩)) := hide (fun k hk => by
    rcases hW with ⟨rfl, _⟩ | ⟨b, o, cap, e, hcc⟩
    · simp at hk
    · injection e with e1
      exact ⟨b, o, e1, fun W hq => (hq.cell (cell_lt (hcc k hk))).trans (hcc k hk)⟩)
  have hal : (at_.length : Int) ≤ 1000000 := by omega
  have B0 := hide (Below.refl (ruW w nm (.slice a at_.length c)).heap.size (ruW w nm (.slice a at_.length c)))
  obtain ⟨c0, c1, _⟩ := HB.out _ B0.out
  clear hW hcap hx hn ha hOD hAN
  cases N1 with
  | false =>
    go_enter Tryz.func34, Tryz.ntmps34
    go_wp2_with fail
    refine (H1.out _).mono ?_
    rintro e w1 ⟨rfl, rfl⟩
    go_wp2
    go_ret
    exact ⟨by simp, (HB.out _ B0.out).2.2⟩
  | true =>
    cases N2 with
    | false =>
      go_enter Tryz.func34, Tryz.ntmps34
      go_wp2_with fail
      refine (H1.out _).mono ?_
      rintro e w1 ⟨rfl, rfl⟩
      go_wp2_with fail
      refine (H2.out _ (HB.out _ B0.out).2.2).mono ?_
      rintro e w2 ⟨rfl, b2⟩
      have B2 := hide (B0.out.trans ((b2.below).mono B0.out.size))
      clear b2 c0 c1
      obtain ⟨c0, c1, _⟩ := HB.out _ B2.out
      go_wp2
      go_ret
      exact ⟨by simp, (HB.out _ B2.out).2.2⟩
    | true =>
      cases I2 with
      | true =>
        go_enter Tryz.func34, Tryz.ntmps34
        go_wp2_with fail
        refine (H1.out _).mono ?_
        rintro e w1 ⟨rfl, rfl⟩
        go_wp2_with fail
        refine (H2.out _ (HB.out _ B0.out).2.2).mono ?_
        rintro e w2 ⟨rfl, b2⟩
        have B2 := hide (B0.out.trans ((b2.below).mono B0.out.size))
        clear b2 c0 c1
        obtain ⟨c0, c1, _⟩ := HB.out _ B2.out
        go_wp2_with fail
        refine (H3.out _).mono ?_
        rintro e w3 ⟨rfl, b3⟩
        have B3 := hide (B2.out.trans ((b3).mono B2.out.size))
        clear b3 c0 c1
        obtain ⟨c0, c1, _⟩ := HB.out _ B3.out
        go_wp2
        go_ret
        exact ⟨by simp, (HB.out _ B3.out).2.2⟩
      | false =>
        cases I3 with
        | true =>
          go_enter Tryz.func34, Tryz.ntmps34
          go_wp2_with fail
          refine (H1.out _).mono ?_
          rintro e w1 ⟨rfl, rfl⟩
          go_wp2_with fail
          refine (H2.out _ (HB.out _ B0.out).2.2).mono ?_
          rintro e w2 ⟨rfl, b2⟩
          have B2 := hide (B0.out.trans ((b2.below).mono B0.out.size))
          clear b2 c0 c1
          obtain ⟨c0, c1, _⟩ := HB.out _ B2.out
          go_wp2_with fail
          refine (H3.out _).mono ?_
          rintro e w3 ⟨rfl, b3⟩
          have B3 := hide (B2.out.trans ((b3).mono B2.out.size))
          clear b3 c0 c1
          obtain ⟨c0, c1, _⟩ := HB.out _ B3.out
          go_wp2_with fail
          refine (H4.out _).mono ?_
          rintro e w4 ⟨rfl, b4⟩
          have B4 := hide (B3.out.trans ((b4).mono B3.out.size))
          clear b4 c0 c1
          obtain ⟨c0, c1, _⟩ := HB.out _ B4.out
          go_wp2
          go_ret
          exact ⟨by simp, (HB.out _ B4.out).2.2⟩
        | false =>
          cases I12 with
          | true =>
            go_enter Tryz.func34, Tryz.ntmps34
            go_wp2_with fail
            refine (H1.out _).mono ?_
            rintro e w1 ⟨rfl, rfl⟩
            go_wp2_with fail
            refine (H2.out _ (HB.out _ B0.out).2.2).mono ?_
            rintro e w2 ⟨rfl, b2⟩
            have B2 := hide (B0.out.trans ((b2.below).mono B0.out.size))
            clear b2 c0 c1
            obtain ⟨c0, c1, _⟩ := HB.out _ B2.out
            go_wp2_with fail
            refine (H3.out _).mono ?_
            rintro e w3 ⟨rfl, b3⟩
            have B3 := hide (B2.out.trans ((b3).mono B2.out.size))
            clear b3 c0 c1
            obtain ⟨c0, c1, _⟩ := HB.out _ B3.out
            go_wp2_with fail
            refine (H4.out _).mono ?_
            rintro e w4 ⟨rfl, b4⟩
            have B4 := hide (B3.out.trans ((b4).mono B3.out.size))
            clear b4 c0 c1
            obtain ⟨c0, c1, _⟩ := HB.out _ B4.out
            go_wp2_with fail
            refine (H5.out _).mono ?_
            rintro e w5 ⟨rfl, b5⟩
            have B5 := hide (B4.out.trans ((b5).mono B4.out.size))
            clear b5 c0 c1
            obtain ⟨c0, c1, _⟩ := HB.out _ B5.out
            go_wp2
            go_ret
            exact ⟨by simp, (HB.out _ B5.out).2.2⟩
          | false =>
            go_enter Tryz.func34, Tryz.ntmps34
            go_wp2_with fail
            refine (H1.out _).mono ?_
            rintro e w1 ⟨rfl, rfl⟩
            go_wp2_with fail
            refine (H2.out _ (HB.out _ B0.out).2.2).mono ?_
            rintro e w2 ⟨rfl, b2⟩
            have B2 := hide (B0.out.trans ((b2.below).mono B0.out.size))
            clear b2 c0 c1
            obtain ⟨c0, c1, _⟩ := HB.out _ B2.out
            go_wp2_with fail
            refine (H3.out _).mono ?_
            rintro e w3 ⟨rfl, b3⟩
            have B3 := hide (B2.out.trans ((b3).mono B2.out.size))
            clear b3 c0 c1
            obtain ⟨c0, c1, _⟩ := HB.out _ B3.out
            go_wp2_with fail
            refine (H4.out _).mono ?_
            rintro e w4 ⟨rfl, b4⟩
            have B4 := hide (B3.out.trans ((b4).mono B3.out.size))
            clear b4 c0 c1
            obtain ⟨c0, c1, _⟩ := HB.out _ B4.out
            go_wp2_with fail
            refine (H5.out _).mono ?_
            rintro e w5 ⟨rfl, b5⟩
            have B5 := hide (B4.out.trans ((b5).mono B4.out.size))
            clear b5 c0 c1
            obtain ⟨c0, c1, _⟩ := HB.out _ B5.out
            go_wp2
            go_loop [3] (fun i => ∃ k : Nat, k ≤ at_.length ∧ i = .int .i64 k ∧ Hid ((at_.drop k).any badA = AN)) (fun i => at_.length - (intOf i).toNat)
            case atStart => exact ⟨0, Nat.zero_le _, rfl, hide (by rw [List.drop_zero]; exact HAN.out)⟩
            case round =>
              obtain ⟨k, hk, rfl, HR⟩ := hrel
              by_cases hlt : k < at_.length
              · have hlt2 : (k : Int) < at_.length := by omega
                obtain ⟨b, o, rfl, hcell⟩ := HC.out k hlt
                have hcell := hcell _ (HB.out _ B5.out).2.2
                have hst := any_stepA at_ k hlt
                rw [HR.out] at hst
                have e1 := str_eq ⟨(at_[k]).toArray⟩ [115, 116, 121, 108, 101]
                have e2 := str_eq ⟨(at_[k]).toArray⟩ [115, 114, 99, 100, 111, 99]
                have e3 := str_eq ((⟨(at_[k]).toArray⟩ : ByteArray).extract 0 2) [111, 110]
                have hz : (⟨(at_[k]).toArray⟩ : ByteArray).size = at_[k].length := by rw [size_list, str_data]
                rw [Lib.extract_data, List.drop_zero, Nat.sub_zero] at e3
                rw [str_data] at e1 e2 e3
                rw [show badA at_[k] = (at_[k] == [115, 116, 121, 108, 101] || at_[k] == [115, 114, 99, 100, 111, 99] || (decide (2 ≤ at_[k].length) && at_[k].take 2 == [111, 110])) from rfl] at hst
                generalize (at_[k] == [115, 116, 121, 108, 101]) = S1 at *
                generalize (at_[k] == [115, 114, 99, 100, 111, 99]) = S2 at *
                generalize (at_[k].take 2 == [111, 110]) = S3 at *
                generalize at_[k].length = zl at *
                generalize (⟨(at_[k]).toArray⟩ : ByteArray) = y at *
                subst hz
                cases S1
                · cases S2
                  · by_cases h2 : 2 ≤ y.size
                    · have h2i : (2 : Int) ≤ y.size := by omega
                      rw [decide_eq_true h2] at hst
                      clear h2
                      cases S3
                      · have HR2 : Hid ((at_.drop (k + 1)).any badA = AN) := hide (by rw [hst]; rfl)
                        clear hst HR
                        go_wp2
                        go_round
                        case rel => exact ⟨k + 1, by omega, by go_num, HR2⟩
                        case measure => simp [intOf]; omega
                      · have HR2 : Hid (AN = true) := hide (by rw [hst]; rfl)
                        clear hst HR
                        go_wp2
                        go_ret
                        exact ⟨by rw [HR2.out]; rfl, (HB.out _ B5.out).2.2⟩
                    · have h2i : ¬ (2 : Int) ≤ y.size := by omega
                      rw [decide_eq_false h2] at hst
                      clear h2 e3
                      have HR2 : Hid ((at_.drop (k + 1)).any badA = AN) := hide (by rw [hst]; rfl)
                      clear hst HR
                      go_wp2
                      go_round
                      case rel => exact ⟨k + 1, by omega, by go_num, HR2⟩
                      case measure => simp [intOf]; omega
                  · clear e3
                    have HR2 : Hid (AN = true) := hide (by rw [hst]; rfl)
                    clear hst HR
                    go_wp2
                    go_ret
                    exact ⟨by rw [HR2.out]; rfl, (HB.out _ B5.out).2.2⟩
                · clear e2 e3
                  have HR2 : Hid (AN = true) := hide (by rw [hst]; rfl)
                  clear hst HR
                  go_wp2
                  go_ret
                  exact ⟨by rw [HR2.out]; rfl, (HB.out _ B5.out).2.2⟩
              · have hlt2 : ¬ (k : Int) < at_.length := by omega
                have hst := any_endA at_ k (by omega)
                rw [HR.out] at hst
                have HR2 := hide hst
                clear hst HR hlt HAN
                have H6' : Hid (∀ w, Calls Tryz.prog 60 #[.string ⟨#[109, 97, 116, 104, 32, 110, 111, 115, 99, 114, 105, 112, 116, 32, 112, 108, 97, 105, 110, 116, 101, 120, 116, 32, 115, 118, 103, 32, 116, 101, 109, 112, 108, 97, 116, 101]⟩, .string nm] w fun e w' => e = .returned (.bool OD) ∧ w' = w) := H6
                clear H6
                go_wp2_with fail
                refine (H6'.out _).mono ?_
                rintro e w6 ⟨rfl, rfl⟩
                go_wp2
                go_ret
                exact ⟨by rw [HR2.out]; simp, (HB.out _ B5.out).2.2⟩
end Go.Proofs.YthopnliaikkhbaaGreatDoor
