/- What the heap's down answers. -/
import Derived.Test.YtkopfigagnagoaaHt18
set_option linter.unusedVariables false
set_option linter.unusedSimpArgs false
set_option maxRecDepth 4000
namespace Go.Proofs.Ytkopfigagnagoaa
open Go.RowKit

/-- From a place on nothing is moved. -/
def Tail18 (n : Nat) (l m : List Nat) : Prop := ∀ k, n ≤ k → atN m k = atN l k
set_option maxHeartbeats 8000000 in
theorem ndown_any (T0 : Value) (b : Nat) (v : Value) (l : List Nat) (n : Nat) (w : World) (h : NumS w T0 b v l) (hn : n ≤ l.length) (hd : DownN l n 0) : Calls Try.prog 28 #[.iface 56 (.pointer (some ⟨b, 1, none⟩)), .int .i64 0, .int .i64 (n : Int)] w fun e w' => (∃ q, e = .returned (.bool q)) ∧ ∃ l', NumS w' T0 b v l' ∧ l'.Perm l ∧ HeapN l' n ∧ Tail18 n l l' ∧ ButA (own18 v) w w' := by
  have HS : Hid (∀ (i k : Nat) (m : List Nat) (W : World), NumS W T0 b v m → i < m.length → k < m.length → Calls Try.prog 46 #[v, .int .i64 (i : Int), .int .i64 (k : Int)] W fun e w' => e = .returned (.bool (decide (atN m i < atN m k))) ∧ Still W w') := hide (fun i k m W hW hi hk => nless_any T0 b v m i k W hW hi hk)
  have HW : Hid (∀ (i k : Nat) (m : List Nat) (W : World), NumS W T0 b v m → i < m.length → k < m.length → Calls Try.prog 47 #[v, .int .i64 (i : Int), .int .i64 (k : Int)] W fun e w' => e = .returned (.tuple #[]) ∧ NumS w' T0 b v (swapL m i k) ∧ ButA (own18 v) W w') := hide (fun i k m W hW hi hk => nswap_any T0 b v m i k W hW hi hk)
  have HN := hide h
  have HU := hide hd
  have hle := h.le
  have HL0 : Hid (l.Perm l ∧ Tail18 n l l ∧ ButA (own18 v) w w) := hide ⟨List.Perm.refl _, fun _ _ => rfl, ButA.refl _ _⟩
  have HLN : Hid (n ≤ l.length) := hide hn
  have hn2 : n ≤ 4096 := by omega
  clear h hd hle hn
  go_enter Try.func28, Try.ntmps28
  go_wp2
  go_loopw [7] (fun vi wr => ∃ (i : Nat) (m : List Nat), vi = .int .i64 (i : Int) ∧ i ≤ n ∧ Hid (NumS wr T0 b v m) ∧ Hid (DownN m n i) ∧ Hid (n ≤ m.length) ∧ Hid (m.Perm l ∧ Tail18 n l m ∧ ButA (own18 v) w wr)) (fun vi _ => n - (intOf vi).toNat)
  case atStart => exact ⟨0, l, rfl, Nat.zero_le _, HN, HU, HLN, HL0⟩
  case round =>
    clear HL0 HU HN HLN
    obtain ⟨i, m, rfl, hi, HN, HU, HLN, HL⟩ := hrel
    have hw1 : wrap64 (2 * (i : Int)) = 2 * (i : Int) := by unfold wrap64; omega
    have hw2 : wrap64 (2 * (i : Int) + 1) = 2 * (i : Int) + 1 := by unfold wrap64; omega
    have hw3 : wrap64 (2 * (i : Int) + 1 + 1) = 2 * (i : Int) + 1 + 1 := by unfold wrap64; omega
    by_cases h1 : 2 * i + 1 < n
    · have g1 : ¬ (n : Int) ≤ 2 * (i : Int) + 1 := by omega
      have g2 : ¬ 2 * (i : Int) + 1 < 0 := by omega
      by_cases h2 : 2 * i + 2 < n
      · have g3 : 2 * (i : Int) + 1 + 1 < (n : Int) := by omega
        have hm := meth_less ⟨b, 1, none⟩ wr v HN.out.cell
        have e7 : ((2 * i + 1 : Nat) : Int) = 2 * (i : Int) + 1 := by omega
        have e8 : ((2 * i + 2 : Nat) : Int) = 2 * (i : Int) + 1 + 1 := by omega
        have hml := HLN.out
        have HC := HS.out (2 * i + 2) (2 * i + 1) m wr HN.out (by omega) (by omega)
        rw [e7, e8] at HC
        obtain ⟨P, hP⟩ : ∃ P, decide (atN m (2 * i + 2) < atN m (2 * i + 1)) = P := ⟨_, rfl⟩
        have HP := hide hP
        rw [hP] at HC
        have HC := hide HC
        clear hP hml e7 e8
        go_wp2_with fail
        refine HC.out.mono ?_
        rintro e w7 ⟨rfl, hst⟩
        have HN7 := hide (HN.out.still hst)
        have HL7 : Hid (m.Perm l ∧ Tail18 n l m ∧ ButA (own18 v) w w7) := hide ⟨HL.out.1, HL.out.2.1, HL.out.2.2.trans (hst.but (fun _ => False)) fun _ _ hf => hf.elim⟩
        clear HC hst hm HL HN
        cases P
        · have HP := HP
          have e9 : ((2 * i + 1 : Nat) : Int) = 2 * (i : Int) + 1 := by omega
          have hml := HLN.out
          have hJ : 2 * i + 1 < n := h1
          have hsib : ∀ s, 0 < s → s < n → (s - 1) / 2 = i → atN m (2 * i + 1) ≤ atN m s := fun s h5 h6 h7 => (by omega : s = 2 * i + 1 ∨ s = 2 * i + 2).elim (fun e => by rw [e]; exact Nat.le_refl _) (fun e => by rw [e]; have := of_decide_eq_false HP.out; omega)
          have HC := HS.out (2 * i + 1) i m w7 HN7.out (by omega) (by omega)
          have HSW := fun W hW => HW.out i (2 * i + 1) m W hW (by omega) (by omega)
          rw [e9] at HC
          simp only [e9] at HSW
          have hUs := fun hlt => hide (HU.out.swap HLN.out hJ (by omega) (by omega) hlt hsib)
          have hUd := fun hge : atN m i ≤ atN m (2 * i + 1) => hide (HU.out.done (fun s h5 h6 h7 => Nat.le_trans hge (hsib s h5 h6 h7)))
          have hpm : Hid ((swapL m i (2 * i + 1)).Perm m) := hide (swap_perm (by omega) (by omega))
          have htl : Hid (∀ k, n ≤ k → atN (swapL m i (2 * i + 1)) k = atN m k) := hide (fun k hk => by rw [swap_at (by omega) (by omega), if_neg (by omega), if_neg (by omega)])
          have HLN2 : Hid (n ≤ (swapL m i (2 * i + 1)).length) := hide (by rw [swap_len]; exact hml)
          have HC := hide HC
          have HSW := hide HSW
          have hUs := hide hUs
          have hUd := hide hUd
          have hm := meth_less ⟨b, 1, none⟩ w7 v HN7.out.cell
          have hij : i < 2 * i + 1 := by omega
          clear HU HS HW
          obtain ⟨m2, hm2⟩ : ∃ m2, swapL m i (2 * i + 1) = m2 := ⟨_, rfl⟩
          have HM2 := hide hm2
          rw [hm2] at hpm htl HLN2
          simp only [hm2] at HSW hUs
          obtain ⟨P9, hP9⟩ : ∃ P, decide (atN m (2 * i + 1) < atN m i) = P := ⟨_, rfl⟩
          have HP9 := hide hP9
          rw [hP9] at HC
          clear hP9 hm2 hml hsib
          go_wp2_with fail
          refine HC.out.mono ?_
          rintro e w8 ⟨rfl, hst⟩
          have HN1 := hide (HN7.out.still hst)
          have HL1 : Hid (m.Perm l ∧ Tail18 n l m ∧ ButA (own18 v) w w8) := hide ⟨HL7.out.1, HL7.out.2.1, HL7.out.2.2.trans (hst.but (fun _ => False)) fun _ _ hf => hf.elim⟩
          clear HC hst hm HL7 HN7
          cases P9
          · go_wp2
            go_ret
            exact ⟨⟨_, rfl⟩, m, HN1.out, HL1.out.1, (hUd.out (by have := of_decide_eq_false HP9.out; omega)).out, HL1.out.2.1, HL1.out.2.2⟩
          · have hm := meth_swap ⟨b, 1, none⟩ w8 v HN1.out.cell
            have HC := hide (HSW.out w8 HN1.out)
            clear HSW
            go_wp2_with fail
            refine HC.out.mono ?_
            rintro e w9 ⟨rfl, hn2, hb2⟩
            have HN2 : Hid (NumS w9 T0 b v m2) := hide hn2
            have HL2 : Hid (m2.Perm l ∧ Tail18 n l m2 ∧ ButA (own18 v) w w9) := hide ⟨hpm.out.trans HL1.out.1, fun k hk => (htl.out k hk).trans (HL1.out.2.1 k hk), HL1.out.2.2.trans hb2 fun _ _ hb => hb⟩
            have HU2 := (hUs.out (of_decide_eq_true HP9.out))
            clear HC hn2 hb2 hm HL1 HN1 HLN HP9 hUs hUd hpm htl HM2
            go_wp2
            go_roundw
            case rel => exact ⟨2 * i + 1, m2, by rw [e9], by omega, HN2, HU2, HLN2, HL2⟩
            case measure => simp [intOf]; omega
        · have HP := HP
          have e9 : ((2 * i + 2 : Nat) : Int) = 2 * (i : Int) + 1 + 1 := by omega
          have hml := HLN.out
          have hJ : 2 * i + 2 < n := h2
          have hsib : ∀ s, 0 < s → s < n → (s - 1) / 2 = i → atN m (2 * i + 2) ≤ atN m s := fun s h5 h6 h7 => (by omega : s = 2 * i + 1 ∨ s = 2 * i + 2).elim (fun e => by rw [e]; have := of_decide_eq_true HP.out; omega) (fun e => by rw [e]; exact Nat.le_refl _)
          have HC := HS.out (2 * i + 2) i m w7 HN7.out (by omega) (by omega)
          have HSW := fun W hW => HW.out i (2 * i + 2) m W hW (by omega) (by omega)
          rw [e9] at HC
          simp only [e9] at HSW
          have hUs := fun hlt => hide (HU.out.swap HLN.out hJ (by omega) (by omega) hlt hsib)
          have hUd := fun hge : atN m i ≤ atN m (2 * i + 2) => hide (HU.out.done (fun s h5 h6 h7 => Nat.le_trans hge (hsib s h5 h6 h7)))
          have hpm : Hid ((swapL m i (2 * i + 2)).Perm m) := hide (swap_perm (by omega) (by omega))
          have htl : Hid (∀ k, n ≤ k → atN (swapL m i (2 * i + 2)) k = atN m k) := hide (fun k hk => by rw [swap_at (by omega) (by omega), if_neg (by omega), if_neg (by omega)])
          have HLN2 : Hid (n ≤ (swapL m i (2 * i + 2)).length) := hide (by rw [swap_len]; exact hml)
          have HC := hide HC
          have HSW := hide HSW
          have hUs := hide hUs
          have hUd := hide hUd
          have hm := meth_less ⟨b, 1, none⟩ w7 v HN7.out.cell
          have hij : i < 2 * i + 2 := by omega
          clear HU HS HW
          obtain ⟨m2, hm2⟩ : ∃ m2, swapL m i (2 * i + 2) = m2 := ⟨_, rfl⟩
          have HM2 := hide hm2
          rw [hm2] at hpm htl HLN2
          simp only [hm2] at HSW hUs
          obtain ⟨P9, hP9⟩ : ∃ P, decide (atN m (2 * i + 2) < atN m i) = P := ⟨_, rfl⟩
          have HP9 := hide hP9
          rw [hP9] at HC
          clear hP9 hm2 hml hsib
          go_wp2_with fail
          refine HC.out.mono ?_
          rintro e w8 ⟨rfl, hst⟩
          have HN1 := hide (HN7.out.still hst)
          have HL1 : Hid (m.Perm l ∧ Tail18 n l m ∧ ButA (own18 v) w w8) := hide ⟨HL7.out.1, HL7.out.2.1, HL7.out.2.2.trans (hst.but (fun _ => False)) fun _ _ hf => hf.elim⟩
          clear HC hst hm HL7 HN7
          cases P9
          · go_wp2
            go_ret
            exact ⟨⟨_, rfl⟩, m, HN1.out, HL1.out.1, (hUd.out (by have := of_decide_eq_false HP9.out; omega)).out, HL1.out.2.1, HL1.out.2.2⟩
          · have hm := meth_swap ⟨b, 1, none⟩ w8 v HN1.out.cell
            have HC := hide (HSW.out w8 HN1.out)
            clear HSW
            go_wp2_with fail
            refine HC.out.mono ?_
            rintro e w9 ⟨rfl, hn2, hb2⟩
            have HN2 : Hid (NumS w9 T0 b v m2) := hide hn2
            have HL2 : Hid (m2.Perm l ∧ Tail18 n l m2 ∧ ButA (own18 v) w w9) := hide ⟨hpm.out.trans HL1.out.1, fun k hk => (htl.out k hk).trans (HL1.out.2.1 k hk), HL1.out.2.2.trans hb2 fun _ _ hb => hb⟩
            have HU2 := (hUs.out (of_decide_eq_true HP9.out))
            clear HC hn2 hb2 hm HL1 HN1 HLN HP9 hUs hUd hpm htl HM2
            go_wp2
            go_roundw
            case rel => exact ⟨2 * i + 2, m2, by rw [e9], by omega, HN2, HU2, HLN2, HL2⟩
            case measure => simp [intOf]; omega
      · have g3 : ¬ 2 * (i : Int) + 1 + 1 < (n : Int) := by omega
        have e9 : ((2 * i + 1 : Nat) : Int) = 2 * (i : Int) + 1 := by omega
        have hml := HLN.out
        have hJ : 2 * i + 1 < n := h1
        have hsib : ∀ s, 0 < s → s < n → (s - 1) / 2 = i → atN m (2 * i + 1) ≤ atN m s := fun s h5 h6 h7 => by have e : s = 2 * i + 1 := (by omega); rw [e]; exact Nat.le_refl _
        have HC := HS.out (2 * i + 1) i m wr HN.out (by omega) (by omega)
        have HSW := fun W hW => HW.out i (2 * i + 1) m W hW (by omega) (by omega)
        rw [e9] at HC
        simp only [e9] at HSW
        have hUs := fun hlt => hide (HU.out.swap HLN.out hJ (by omega) (by omega) hlt hsib)
        have hUd := fun hge : atN m i ≤ atN m (2 * i + 1) => hide (HU.out.done (fun s h5 h6 h7 => Nat.le_trans hge (hsib s h5 h6 h7)))
        have hpm : Hid ((swapL m i (2 * i + 1)).Perm m) := hide (swap_perm (by omega) (by omega))
        have htl : Hid (∀ k, n ≤ k → atN (swapL m i (2 * i + 1)) k = atN m k) := hide (fun k hk => by rw [swap_at (by omega) (by omega), if_neg (by omega), if_neg (by omega)])
        have HLN2 : Hid (n ≤ (swapL m i (2 * i + 1)).length) := hide (by rw [swap_len]; exact hml)
        have HC := hide HC
        have HSW := hide HSW
        have hUs := hide hUs
        have hUd := hide hUd
        have hm := meth_less ⟨b, 1, none⟩ wr v HN.out.cell
        have hij : i < 2 * i + 1 := by omega
        clear HU HS HW
        obtain ⟨m2, hm2⟩ : ∃ m2, swapL m i (2 * i + 1) = m2 := ⟨_, rfl⟩
        have HM2 := hide hm2
        rw [hm2] at hpm htl HLN2
        simp only [hm2] at HSW hUs
        obtain ⟨P9, hP9⟩ : ∃ P, decide (atN m (2 * i + 1) < atN m i) = P := ⟨_, rfl⟩
        have HP9 := hide hP9
        rw [hP9] at HC
        clear hP9 hm2 hml hsib
        go_wp2_with fail
        refine HC.out.mono ?_
        rintro e w8 ⟨rfl, hst⟩
        have HN1 := hide (HN.out.still hst)
        have HL1 : Hid (m.Perm l ∧ Tail18 n l m ∧ ButA (own18 v) w w8) := hide ⟨HL.out.1, HL.out.2.1, HL.out.2.2.trans (hst.but (fun _ => False)) fun _ _ hf => hf.elim⟩
        clear HC hst hm HL HN
        cases P9
        · go_wp2
          go_ret
          exact ⟨⟨_, rfl⟩, m, HN1.out, HL1.out.1, (hUd.out (by have := of_decide_eq_false HP9.out; omega)).out, HL1.out.2.1, HL1.out.2.2⟩
        · have hm := meth_swap ⟨b, 1, none⟩ w8 v HN1.out.cell
          have HC := hide (HSW.out w8 HN1.out)
          clear HSW
          go_wp2_with fail
          refine HC.out.mono ?_
          rintro e w9 ⟨rfl, hn2, hb2⟩
          have HN2 : Hid (NumS w9 T0 b v m2) := hide hn2
          have HL2 : Hid (m2.Perm l ∧ Tail18 n l m2 ∧ ButA (own18 v) w w9) := hide ⟨hpm.out.trans HL1.out.1, fun k hk => (htl.out k hk).trans (HL1.out.2.1 k hk), HL1.out.2.2.trans hb2 fun _ _ hb => hb⟩
          have HU2 := (hUs.out (of_decide_eq_true HP9.out))
          clear HC hn2 hb2 hm HL1 HN1 HLN HP9 hUs hUd hpm htl HM2
          go_wp2
          go_roundw
          case rel => exact ⟨2 * i + 1, m2, by rw [e9], by omega, HN2, HU2, HLN2, HL2⟩
          case measure => simp [intOf]; omega
    · have g1 : (n : Int) ≤ 2 * (i : Int) + 1 := by omega
      go_wp2
      go_ret
      exact ⟨⟨_, rfl⟩, m, HN.out, HL.out.1, HU.out.done (fun s h5 h6 h7 => by omega), HL.out.2.1, HL.out.2.2⟩
end Go.Proofs.Ytkopfigagnagoaa
