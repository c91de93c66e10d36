/- What the document's own in, Name, names answer; nothing that was there is written. -/
import Derived.Test.YthopnliaikkhbaaGreatDoorIp11
import Derived.Test.YthopnliaikkhbaaGreatDoorWc10
import Derived.Test.YthopnliaikkhbaaGreatDoorWalkI
import Derived.Deep.QuietTactic
import Derived.Deep.RegionHeld2
set_option linter.unusedVariables false
set_option linter.unusedSimpArgs false
namespace Go.Proofs.YthopnliaikkhbaaGreatDoor
open Go.RowKit

theorem two_eq (l : List UInt8) (x : ByteArray) : ((⟨l.toArray⟩ : ByteArray).toList == x.toList) = (l == x.data.toList) := by rw [Lib.toList_data, Lib.toList_data, str_data]
set_option maxHeartbeats 1000000 in
theorem rin_any (x : ByteArray) (l : List Bs) (hl : l.length ≤ 1000000) (v : Value) (w : World) (hW : IsW w v l) :
    Calls Tryz.prog 35 #[v, .string x] w fun e w' => e = .returned (.bool (amongL l x.data.toList)) ∧ w' = w := by
  rcases hW with ⟨rfl, aa, c, rfl⟩ | ⟨b, o, cap, rfl, hc⟩
  · go_enter Tryz.func35, Tryz.ntmps35
    go_wp2
    go_loop [5] (fun i => i = .int .i64 0) (fun i => 0)
    case atStart => rfl
    case round =>
      subst hrel
      go_wp2
      go_ret
      exact ⟨rfl, rfl⟩
  · have HC := hide hc
    clear hc
    generalize hV : amongL l x.data.toList = V
    have HV := hide hV
    clear hV
    go_enter Tryz.func35, Tryz.ntmps35
    go_wp2
    go_loop [5] (fun i => ∃ k : Nat, k ≤ l.length ∧ i = .int .i64 k ∧ Hid (amongL (l.drop k) x.data.toList = V)) (fun i => l.length - (intOf i).toNat)
    case atStart => exact ⟨0, Nat.zero_le _, rfl, hide (by rw [List.drop_zero]; exact HV.out)⟩
    case round =>
      obtain ⟨k, hk, rfl, HR⟩ := hrel
      by_cases hlt : k < l.length
      · have hcell := HC.out k hlt
        have he := two_eq l[k] x
        have hs := among_step2 l x.data.toList k hlt
        rw [HR.out] at hs
        have hlt2 : (k : Int) < l.length := by omega
        cases hb : l[k] == x.data.toList
        · rw [hb] at he hs
          rw [Bool.false_or] at hs
          have HR2 := hide hs.symm
          clear hs hb HR
          generalize (⟨(l[k]).toArray⟩ : ByteArray) = y at *
          go_wp2
          go_round
          case rel => exact ⟨k + 1, by omega, by go_num, HR2⟩
          case measure => simp [intOf]; omega
        · rw [hb] at he hs
          rw [Bool.true_or] at hs
          have HR2 := hide hs
          clear hs hb HR
          generalize (⟨(l[k]).toArray⟩ : ByteArray) = y at *
          go_wp2
          go_ret
          exact ⟨ret_bool HR2.out.symm, rfl⟩
      · have hs := among_end l x.data.toList k (by omega)
        rw [HR.out] at hs
        have HR2 := hide hs
        have hlt2 : ¬ (k : Int) < l.length := by omega
        clear hs HR hlt
        go_wp2
        go_ret
        exact ⟨ret_bool HR2.out.symm, rfl⟩

theorem all_step (s : ByteArray) (k : Nat) (h : k < s.size) : (s.data.toList.drop k).all inName = (inName s[k] && (s.data.toList.drop (k + 1)).all inName) := by
  rw [drop_cons s k h]; rfl
theorem all_end (s : ByteArray) (k : Nat) (h : s.size ≤ k) : (s.data.toList.drop k).all inName = true := by
  rw [List.drop_eq_nil_of_le (by rw [← size_list]; exact h)]; rfl
theorem name_of (s : ByteArray) (h1 : 1 ≤ s.size) (h2 : s.size ≤ 20) : nameL s.data.toList = (smallN (s[0]'(by omega)).toNat && s.data.toList.all inName) := by
  have e := drop_cons s 0 (by omega)
  rw [List.drop_zero] at e
  have hh : s.data.toList.head? = some (s[0]'(by omega)) := by rw [e]; rfl
  unfold nameL
  rw [decide_eq_true (by rw [← size_list]; exact h1), decide_eq_true (by rw [← size_list]; exact h2), hh]
  rfl
set_option maxHeartbeats 2000000 in
theorem rname_any (s : ByteArray) (hs : s.size ≤ 1000000) (w : World) :
    Calls Tryz.prog 58 #[.string s] w fun e w' => e = .returned (.bool (nameL s.data.toList)) ∧ w' = w := by
  by_cases h1 : 1 ≤ s.size
  · have h1i : ¬ (s.size : Int) < 1 := by omega
    have hpos : (0 : Int) < s.size := by omega
    by_cases h2 : s.size ≤ 20
    · have h2i : ¬ (20 : Int) < s.size := by omega
      rw [name_of s h1 h2]
      have hp : 0 < s.size := by omega
      cases hm : smallN s[0].toNat
      · simp [smallN] at hm
        rw [Bool.false_and]
        by_cases h97 : (97 : Int) ≤ s[0].toNat
        · have g1 : ¬ (s[0].toNat : Int) < 97 := by omega
          have g2 : (122 : Int) < s[0].toNat := by omega
          clear hm h97
          go_enter Tryz.func58, Tryz.ntmps58
          go_wp2
          go_ret
          exact ⟨rfl, rfl⟩
        · have g1 : (s[0].toNat : Int) < 97 := by omega
          clear hm h97
          go_enter Tryz.func58, Tryz.ntmps58
          go_wp2
          go_ret
          exact ⟨rfl, rfl⟩
      · simp [smallN] at hm
        rw [Bool.true_and]
        have g1 : ¬ (s[0].toNat : Int) < 97 := by omega
        have g2 : ¬ (122 : Int) < s[0].toNat := by omega
        have HFI := hide rfigure_any
        generalize hV : s.data.toList.all inName = V
        have HV := hide hV
        clear hm hV
        go_enter Tryz.func58, Tryz.ntmps58
        go_wp2
        go_loop [3] (fun i => ∃ k : Nat, k ≤ s.size ∧ i = .int .i64 k ∧ Hid ((s.data.toList.drop k).all inName = V)) (fun i => s.size - (intOf i).toNat)
        case atStart => exact ⟨0, Nat.zero_le _, rfl, hide (by rw [List.drop_zero]; exact HV.out)⟩
        case round =>
          obtain ⟨k, hk, rfl, HR⟩ := hrel
          clear g1 g2
          by_cases hlt : k < s.size
          · have hlt2 : (k : Int) < s.size := by omega
            have hst := all_step s k hlt
            rw [HR.out] at hst
            have HQ := hide (HFI.out s[k].toNat)
            unfold inName at hst
            cases hm : smallN s[k].toNat
            · rw [hm, Bool.false_or] at hst
              simp [smallN] at hm
              cases hf : figureN s[k].toNat
              · rw [hf] at HQ
                rw [hf, Bool.false_or] at hst
                by_cases h45 : s[k].toNat = 45
                · rw [show (s[k].toNat == 45) = true by rw [h45]; rfl, Bool.true_and] at hst
                  have HR2 := hide hst.symm
                  have e45 : ((s[k].toNat : Int) != 45) = false := by rw [h45]; rfl
                  have g1 : ¬ (97 : Int) ≤ s[k].toNat := by omega
                  clear hst hm hf HR h45
                  go_wp2_with fail
                  refine (HQ.out _).mono ?_
                  rintro e w1 ⟨rfl, rfl⟩
                  go_wp2
                  go_round
                  case rel => exact ⟨k + 1, by omega, by go_num, HR2⟩
                  case measure => simp [intOf]; omega
                · rw [show (s[k].toNat == 45) = false by rw [beq_eq_false_iff_ne]; exact h45, Bool.false_and] at hst
                  have HR2 := hide hst
                  have e45 := bne_lit s[k].toNat 45 (by omega)
                  clear hst hf HR h45
                  by_cases h97 : (97 : Int) ≤ s[k].toNat
                  · have g2 : ¬ (s[k].toNat : Int) ≤ 122 := by omega
                    clear hm
                    go_wp2_with fail
                    refine (HQ.out _).mono ?_
                    rintro e w1 ⟨rfl, rfl⟩
                    go_wp2
                    go_ret
                    exact ⟨ret_bool HR2.out.symm, rfl⟩
                  · clear hm
                    go_wp2_with fail
                    refine (HQ.out _).mono ?_
                    rintro e w1 ⟨rfl, rfl⟩
                    go_wp2
                    go_ret
                    exact ⟨ret_bool HR2.out.symm, rfl⟩
              · rw [hf] at HQ
                rw [hf, Bool.true_or, Bool.true_and] at hst
                have HR2 := hide hst.symm
                have hf2 : s[k].toNat ≤ 57 := by simp [figureN] at hf; omega
                have g1 : ¬ (97 : Int) ≤ s[k].toNat := by omega
                clear hst hm hf HR hf2
                go_wp2_with fail
                refine (HQ.out _).mono ?_
                rintro e w1 ⟨rfl, rfl⟩
                go_wp2
                go_round
                case rel => exact ⟨k + 1, by omega, by go_num, HR2⟩
                case measure => simp [intOf]; omega
            · rw [hm, Bool.true_or, Bool.true_or, Bool.true_and] at hst
              have HR2 := hide hst.symm
              simp [smallN] at hm
              have g1 : (97 : Int) ≤ s[k].toNat := by omega
              have g2 : (s[k].toNat : Int) ≤ 122 := by omega
              clear hst hm HR
              go_wp2
              go_round
              case rel => exact ⟨k + 1, by omega, by go_num, HR2⟩
              case measure => simp [intOf]; omega
          · have hlt2 : ¬ (k : Int) < s.size := by omega
            have hst := all_end s k (by omega)
            rw [HR.out] at hst
            have HR2 := hide hst
            clear hst HR hlt
            go_wp2
            go_ret
            exact ⟨ret_bool HR2.out.symm, rfl⟩
    · have h2i : (20 : Int) < s.size := by omega
      have hn : nameL s.data.toList = false := by
        unfold nameL
        rw [decide_eq_false (p := s.data.toList.length ≤ 20) (by rw [← size_list]; exact h2)]
        simp
      rw [hn]
      clear h2
      go_enter Tryz.func58, Tryz.ntmps58
      go_wp2
      go_ret
      exact ⟨rfl, rfl⟩
  · have h1i : (s.size : Int) < 1 := by omega
    have hn : nameL s.data.toList = false := by
      unfold nameL
      rw [decide_eq_false (p := 1 ≤ s.data.toList.length) (by rw [← size_list]; exact h1)]
      simp
    rw [hn]
    clear h1
    go_enter Tryz.func58, Tryz.ntmps58
    go_wp2
    go_ret
    exact ⟨rfl, rfl⟩
theorem IsW.take {w : World} {v : Value} {l : List Bs} (h : IsW w v l) (k : Nat) (hk : k ≤ l.length) : ∀ a c, v = .slice a l.length c → IsW w (.slice a k c) (l.take k) := by
  intro a c e
  rcases h with ⟨rfl, a', c', rfl⟩ | ⟨b, o, cap, rfl, hc⟩
  · injection e with e1 e2 e3
    subst e1 e3
    have : k = 0 := by simpa using hk
    subst this
    exact .inl ⟨by simp, _, _, rfl⟩
  · injection e with e1 e2 e3
    subst e1 e3
    refine .inr ⟨b, o, cap, by rw [List.length_take, Nat.min_eq_left hk], fun j hj => ?_⟩
    rw [List.length_take] at hj
    rw [hc j (by omega)]
    simp
/-- Nothing but draws. -/
def Qt (w w' : World) : Prop := ∃ m, w' = w.drewN m
theorem Qt.refl (w : World) : Qt w w := ⟨0, rfl⟩
theorem drewN_add (w : World) (a b : Nat) : (w.drewN a).drewN b = w.drewN (a + b) := by
  unfold World.drewN
  simp [Nat.add_assoc]
theorem Qt.trans {a b c : World} (h : Qt a b) (g : Qt b c) : Qt a c := by
  obtain ⟨m, rfl⟩ := h
  obtain ⟨n, rfl⟩ := g
  exact ⟨m + n, drewN_add _ _ _⟩
theorem Qt.below {w w' : World} (h : Qt w w') : Below w.heap.size w w' := by
  obtain ⟨m, rfl⟩ := h
  exact ⟨rfl, rfl, rfl, Nat.le_refl _, fun _ _ => rfl⟩
theorem IsW.drewN {w : World} {v : Value} {l : List Bs} (h : IsW w v l) (m : Nat) : IsW (w.drewN m) v l := h.below (Qt.below ⟨m, rfl⟩)
theorem Qt.drew {w w' : World} (h : Qt w w') : Qt w w'.drew := h.trans ⟨1, rfl⟩
set_option maxHeartbeats 20000000 in
theorem rnames_any (l : List Bs) (hl : l.length ≤ 1000000) (hx : ∀ x ∈ l, x.length ≤ 1000000) (v : Value) (w : World) (hW : IsW w v l) (hcap : ∀ a n c, v = .slice a n c → n ≤ c) :
    Calls Tryz.prog 33 #[v] w fun e w' => e = .returned (.bool (namesL l)) ∧ Qt w w' := by
  obtain ⟨a, c, rfl⟩ := hW.form
  have hc := hcap _ _ _ rfl
  have HC : Hid (∀ k (hk : k < l.length), ∃ b o, a = some ⟨b, o, none⟩ ∧ ∀ W, Qt w W → W.cell? ⟨b, o + k, none⟩ = some (.string ⟨(l[k]).toArray⟩)) := hide (fun k hk => by
    rcases hW with ⟨rfl, _⟩ | ⟨b, o, cap, e, hcc⟩
    · simp at hk
    · injection e with e1
      exact ⟨b, o, e1, fun W hq => (hq.below.cell (cell_lt (hcc k hk))).trans (hcc k hk)⟩)
  have HN : Hid (∀ k (hk : k < l.length) W, Calls Tryz.prog 58 #[.string ⟨(l[k]).toArray⟩] W fun e w' => e = .returned (.bool (nameL l[k])) ∧ w' = W) := hide (fun k hk W => rname_any ⟨(l[k]).toArray⟩ (by rw [size_list, str_data]; exact hx _ (List.getElem_mem hk)) _)
  have HI : Hid (∀ k (hk : k < l.length) W, Qt w W → Calls Tryz.prog 35 #[.slice a k c, .string ⟨(l[k]).toArray⟩] W fun e w' => e = .returned (.bool (amongL (l.take k) l[k])) ∧ w' = W) := hide (fun k hk W hq => rin_any ⟨(l[k]).toArray⟩ (l.take k) (by rw [List.length_take]; omega) _ _ ((hW.take k (by omega) a c rfl).below hq.below))
  unfold namesL
  generalize hV : namesK [] l = V
  have HV := hide hV
  clear hV hW hx hcap
  have hcI : (l.length : Int) ≤ c := by omega
  go_enter Tryz.func33, Tryz.ntmps33
  go_wp2
  go_loopw [3] (fun i wr => ∃ k : Nat, k ≤ l.length ∧ i = .int .i64 k ∧ Hid (namesK (l.take k) (l.drop k) = V) ∧ Hid (Qt w wr)) (fun i _ => l.length - (intOf i).toNat)
  case atStart => exact ⟨0, Nat.zero_le _, rfl, hide (by rw [List.drop_zero, List.take_zero]; exact HV.out), hide (Qt.refl w)⟩
  case round =>
    obtain ⟨k, hk, rfl, HR, HD⟩ := hrel
    by_cases hlt : k < l.length
    · have hlt2 : (k : Int) < l.length := by omega
      obtain ⟨b, o, rfl, hcell⟩ := HC.out k hlt
      have hst := HR.out
      rw [List.drop_eq_getElem_cons hlt, namesK] at hst
      rw [show l.take k ++ [l[k]] = l.take (k + 1) from (by rw [List.take_add_one, List.getElem?_eq_getElem hlt]; rfl)] at hst
      have HQ := hide (HN.out k hlt)
      have HJ := hide (HI.out k hlt)
      have hkc : (k : Int) ≤ c := by omega
      have hk0 : (0 : Int) ≤ k := by omega
      generalize nameL l[k] = A1 at *
      generalize amongL (l.take k) l[k] = A2 at *
      generalize (⟨(l[k]).toArray⟩ : ByteArray) = y at *
      have DD := hide HD.out.drew
      cases A1
      · have HR2 : Hid (V = false) := hide (by rw [← hst]; rfl)
        clear hst HR HN HI HC
        go_wp2_with fail
        have hud : undef = Value.tuple #[] := rfl
        have hcd := hcell _ DD.out
        first | (go_region_with (first | (go_at_call 58; refine (HQ.out _).mono ?_; rintro e x1 ⟨rfl, rfl⟩) | (go_at_call 35; refine (HJ.out _ DD.out).mono ?_; rintro e x2 ⟨rfl, rfl⟩))) | fail
        all_goals go_wp2
        all_goals go_ret
        all_goals exact ⟨ret_bool HR2.out.symm, DD.out⟩
      · cases A2
        · have HR2 : Hid (namesK (l.take (k + 1)) (l.drop (k + 1)) = V) := hide (by rw [← hst]; rfl)
          clear hst HR
          go_wp2_with fail
          go_region_held2 (fun W' => W'.cell? ⟨b, o + k, none⟩ = some (.string y)) (first | with_reducible exact hcell _ DD.out) (first | (go_at_call 58; refine (HQ.out _).mono ?_; rintro e x1 ⟨rfl, rfl⟩) | (go_at_call 35; refine (HJ.out _ DD.out).mono ?_; rintro e x2 ⟨rfl, rfl⟩))
          all_goals go_wp2
          go_roundw
          case rel => exact ⟨k + 1, by omega, by go_num, HR2, DD⟩
          case measure => simp [intOf]; omega
        · have HR2 : Hid (V = false) := hide (by rw [← hst]; rfl)
          clear hst HR
          go_wp2_with fail
          go_region_held2 (fun W' => W'.cell? ⟨b, o + k, none⟩ = some (.string y)) (first | with_reducible exact hcell _ DD.out) (first | (go_at_call 58; refine (HQ.out _).mono ?_; rintro e x1 ⟨rfl, rfl⟩) | (go_at_call 35; refine (HJ.out _ DD.out).mono ?_; rintro e x2 ⟨rfl, rfl⟩))
          all_goals go_wp2
          all_goals go_ret
          all_goals exact ⟨ret_bool HR2.out.symm, DD.out⟩
    · have hlt2 : ¬ (k : Int) < l.length := by omega
      have hst := HR.out
      rw [List.drop_eq_nil_of_le (by omega), namesK] at hst
      have HR2 := hide hst
      clear hst HR hlt
      go_wp2
      go_ret
      exact ⟨ret_bool HR2.out, HD.out⟩
end Go.Proofs.YthopnliaikkhbaaGreatDoor
