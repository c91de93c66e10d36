/- The walk of CellJoin. -/
import Derived.Test.YtbodbomebmkopaaLe16
set_option linter.unusedVariables false
set_option linter.unusedSimpArgs false
set_option maxRecDepth 40000
namespace Go.Proofs.Ytbodbomebmkopaa
open Go.RowKit

def fewL (l : List (CL × Value)) : Bool := decide (l.length ≤ 20) && l.all fun x => decide (x.1.data.length ≤ 300)
theorem fewL_iff {l : List (CL × Value)} : fewL l = true ↔ l.length ≤ 20 ∧ ∀ x ∈ l, x.1.data.length ≤ 300 := by
  unfold fewL
  simp [List.all_eq_true]
set_option maxHeartbeats 4000000 in
theorem few_any (lv : Value) (l : List (CL × Value)) (w : World) (hL : IsL w lv l) (hl : l.length ≤ 9223372036854775807) : Calls Try.prog 18 #[lv] w fun e w' => e = .returned (.bool (fewL l)) ∧ w' = w := by
  obtain ⟨la, lc, rfl⟩ := hL.form
  by_cases h20 : l.length ≤ 20
  · have h20I : ¬ (20 : Int) < (l.length : Int) := by omega
    have HA : Hid (∀ i, i < l.length → ∃ b o da dn dc, la = some ⟨b, o, none⟩ ∧ w.cell? ⟨b, o + i * 5 + 4, none⟩ = some (.slice da dn dc) ∧ ∃ x, l[i]? = some x ∧ x.1.data.length = dn) := hide (fun i hi => by
      obtain ⟨b, o, e, hc, hi2⟩ := hL.at_ i hi
      obtain ⟨da, dc, hd⟩ := hi2.d.form
      have h5 := (hc w (Below.refl _ _)).2.2.2.2
      rw [hd] at h5
      exact ⟨b, o, da, _, dc, e, h5, l[i], List.getElem?_eq_getElem hi, rfl⟩)
    have HT : Hid (∀ (i : Nat) (x : CL × Value), l[i]? = some x → ((l.take (i + 1)).all fun x => decide (x.1.data.length ≤ 300)) = (((l.take i).all fun x => decide (x.1.data.length ≤ 300)) && decide (x.1.data.length ≤ 300))) := hide (fun i x hx => by
      obtain ⟨hi, rfl⟩ := List.getElem?_eq_some_iff.1 hx
      rw [List.take_succ_eq_append_getElem hi, List.all_append]
      simp)
    have HNO : Hid (∀ (i : Nat) (x : CL × Value), l[i]? = some x → 300 < x.1.data.length → fewL l = false) := hide (fun i x hx hg => by
      rw [Bool.eq_false_iff]
      intro hh
      have := (fewL_iff.1 hh).2 x (List.mem_of_getElem? hx)
      omega)
    have HYES : Hid (((l.take l.length).all fun x => decide (x.1.data.length ≤ 300)) = true → fewL l = true) := hide (fun hh => by
      rw [List.take_length] at hh
      unfold fewL
      rw [hh, decide_eq_true h20]
      rfl)
    have HT0 : Hid (((l.take 0).all fun x => decide (x.1.data.length ≤ 300)) = true) := hide rfl
    clear hL h20
    generalize hFL : fewL l = FL at *
    clear hFL
    generalize l.length = L at *
    go_enter Try.func18, Try.ntmps18
    go_wp2
    go_loop [3] (fun vi => ∃ i : Nat, vi = .int .i64 (i : Int) ∧ i ≤ L ∧ Hid (((l.take i).all fun x => decide (x.1.data.length ≤ 300)) = true)) (fun vi => L - (intOf vi).toNat)
    case atStart => exact ⟨0, rfl, Nat.zero_le _, HT0⟩
    case round =>
      clear HT0
      obtain ⟨i, rfl, hi, HTI⟩ := hrel
      by_cases hlt : i < L
      · have hlt2 : (i : Int) < L := by omega
        obtain ⟨b, o, da, dn, dc, rfl, hcell, x, hx, hdn⟩ := HA.out i hlt
        by_cases h3 : 300 < dn
        · have h3I : (300 : Int) < (dn : Int) := by omega
          have hF : FL = false := HNO.out i x hx (by omega)
          subst hF
          clear HA HT HNO HYES hx hdn HTI
          go_wp2
          go_ret
          exact ⟨rfl, rfl⟩
        · have h3I : ¬ (300 : Int) < (dn : Int) := by omega
          have HT2 : Hid (((l.take (i + 1)).all fun x => decide (x.1.data.length ≤ 300)) = true) := hide (by rw [HT.out i x hx, HTI.out, decide_eq_true (by omega)]; rfl)
          clear hx hdn HTI
          go_wp2
          go_round
          case rel => exact ⟨i + 1, by go_num, by omega, HT2⟩
          case measure => simp [intOf]; omega
      · have hlt2 : ¬ (i : Int) < L := by omega
        obtain rfl : i = L := by omega
        have hF := HYES.out HTI.out
        subst hF
        clear HA HT HNO HYES HTI
        go_wp2
        go_ret
        exact ⟨rfl, rfl⟩
  · have h20I : (20 : Int) < (l.length : Int) := by omega
    have hF : fewL l = false := by
      rw [Bool.eq_false_iff]
      intro hh
      exact h20 (fewL_iff.1 hh).1
    rw [hF]
    clear hL hF h20
    generalize l.length = L at *
    go_enter Try.func18, Try.ntmps18
    go_wp2
    go_ret
    exact ⟨rfl, rfl⟩
theorem pjoin_told {w w' : World} {l : List CL} {e : Ending} (h : PJoinR w l e w') : ∃ a n k, e = .returned (.tuple #[.slice a n k, .bool (joinC l).isSome]) ∧ IsY w' (.slice a n k) ((joinC l).getD []) ∧ Below w.heap.size w w' := by
  obtain ⟨hb, ⟨hm, a, k, rfl⟩ | ⟨b, a, k, hm, rfl, hy⟩⟩ := h
  · exact ⟨a, 0, k, by rw [hm]; rfl, by rw [hm]; exact .inl ⟨rfl, a, k, rfl⟩, hb⟩
  · exact ⟨a, _, k, by rw [hm]; rfl, by rw [hm]; exact hy, hb⟩
theorem rjoin_told {w w' : World} {l : List CL} {e : Ending} (h : JoinR w l e w') : ∃ a n k, e = .returned (.tuple #[.slice a n k, .bool (joinC l).isSome]) ∧ IsY w' (.slice a n k) ((joinC l).getD []) ∧ Below w.heap.size w w' := by
  obtain ⟨hb, ⟨hm, rfl⟩ | ⟨b, v, hm, rfl, ho⟩⟩ := h
  · exact ⟨none, 0, 0, by rw [hm]; rfl, by rw [hm]; exact .inl ⟨rfl, _, _, rfl⟩, hb⟩
  · obtain ⟨a, k, rfl⟩ := owns_formY ho
    exact ⟨a, _, k, by rw [hm]; rfl, by rw [hm]; exact owns_isY ho, hb⟩
set_option maxHeartbeats 4000000 in
theorem cellJoin_walk (lv : Value) (l : List (CL × Value)) (w : World) (hL : IsL w lv l) (hl : l.length ≤ 9223372036854775807) :
    Calls Try.prog 6 #[lv] w fun e w' => e = .returned (.bool true) ∧ Below w.heap.size w w' := by
  have HAL := hide alive_any
  have HFW := hide (few_any lv l w hL hl)
  obtain ⟨la, lc, rfl⟩ := hL.form
  cases hf : fewL l
  · rw [hf] at HFW
    clear hL hf
    generalize l.length = L at *
    go_enter Try.func6, Try.ntmps6
    go_wp2_with fail
    refine HFW.out.mono ?_
    rintro e w1 ⟨rfl, rfl⟩
    clear HFW
    go_wp2_with fail
    refine (HAL.out _).mono ?_
    rintro e w2 ⟨rfl, hb⟩
    have HB := hide hb
    clear hb
    go_wp2
    go_ret
    exact ⟨rfl, HB.out⟩
  · rw [hf] at HFW
    obtain ⟨h20, h300⟩ := fewL_iff.1 hf
    have HP := hide (pjoin_any _ l w hL (by omega) (fun x hx => by have := h300 x hx; omega))
    have HD := hide (fun x (hx : Below w.heap.size w x) => rjoin_any _ l x (hL.below hx) (by omega) (fun x hx => by have := h300 x hx; omega))
    clear hL hf h20 h300
    generalize l.length = L at *
    go_enter Try.func6, Try.ntmps6
    go_wp2_with fail
    refine HFW.out.mono ?_
    rintro e w1 ⟨rfl, rfl⟩
    clear HFW
    go_wp2_with fail
    refine HP.out.mono ?_
    intro e w2 hp
    obtain ⟨a1, n1, k1, rfl, hy1, hb1⟩ := pjoin_told hp
    have HD1 := hide (HD.out w2 hb1)
    have HY1 := hide hy1
    have HB1 := hide hb1
    clear hp hy1 hb1 HP HD
    generalize hJ : (joinC (l.map Prod.fst)).isSome = J at *
    generalize hG : (joinC (l.map Prod.fst)).getD [] = G at *
    have HJ := hide hJ
    have HG := hide hG
    clear hJ hG
    go_wp2_with fail
    refine HD1.out.mono ?_
    intro e w3 hp
    obtain ⟨a2, n2, k2, rfl, hy2, hb2⟩ := rjoin_told hp
    rw [HJ.out]
    rw [HG.out] at hy2
    have HY12 := hide (HY1.out.below hb2)
    have HY2 := hide hy2
    have HB2 := hide (HB1.out.trans (hb2.mono HB1.out.size))
    clear hp hy2 hb2 HD1 HY1 HB1
    go_wp2_with fail
    refine (HAL.out _).mono ?_
    rintro e w4 ⟨rfl, hb4⟩
    have hcv1 := conv_isYC (HY12.out.below hb4)
    have hcv2 := conv_isYC (HY2.out.below hb4)
    have HB4 := hide (HB2.out.trans (hb4.mono HB2.out.size))
    clear hb4 HY12 HY2 HB2
    go_wp2
    go_ret
    exact ⟨rfl, HB4.out⟩
end Go.Proofs.Ytbodbomebmkopaa
