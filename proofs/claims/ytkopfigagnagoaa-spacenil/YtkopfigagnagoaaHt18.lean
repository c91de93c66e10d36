/- What the heap's up answers. -/
import Derived.Test.YtkopfigagnagoaaHs18
set_option linter.unusedVariables false
set_option linter.unusedSimpArgs false
set_option maxRecDepth 4000
namespace Go.Proofs.Ytkopfigagnagoaa
open Go.RowKit

set_option maxHeartbeats 4000000 in
theorem nup_any (T0 : Value) (b : Nat) (v : Value) (l : List Nat) (j : Nat) (w : World) (h : NumS w T0 b v l) (hj : j < l.length) (hu : UpN l j) : Calls Try.prog 27 #[.iface 56 (.pointer (some ⟨b, 1, none⟩)), .int .i64 (j : Int)] w fun e w' => e = .returned (.tuple #[]) ∧ ∃ l', NumS w' T0 b v l' ∧ l'.Perm l ∧ HeapN l' l'.length ∧ ButA (own18 v) w w' := by
  have HS : Hid (∀ (i k : Nat) (m : List Nat) (W : World), NumS W T0 b v m → i < m.length → k < m.length → Calls Try.prog 46 #[v, .int .i64 (i : Int), .int .i64 (k : Int)] W fun e w' => e = .returned (.bool (decide (atN m i < atN m k))) ∧ Still W w') := hide (fun i k m W hW hi hk => nless_any T0 b v m i k W hW hi hk)
  have HW : Hid (∀ (i k : Nat) (m : List Nat) (W : World), NumS W T0 b v m → i < m.length → k < m.length → Calls Try.prog 47 #[v, .int .i64 (i : Int), .int .i64 (k : Int)] W fun e w' => e = .returned (.tuple #[]) ∧ NumS w' T0 b v (swapL m i k) ∧ ButA (own18 v) W w') := hide (fun i k m W hW hi hk => nswap_any T0 b v m i k W hW hi hk)
  have HN := hide h
  have HU := hide hu
  have hle := h.le
  have HL0 : Hid (l.Perm l ∧ ButA (own18 v) w w) := hide ⟨List.Perm.refl _, ButA.refl _ _⟩
  obtain ⟨n, hn⟩ : ∃ n, l.length = n := ⟨_, rfl⟩
  have HLN := hide hn
  rw [hn] at hj hle
  clear h hu hn
  go_enter Try.func27, Try.ntmps27
  go_wp2
  go_loopw [1] (fun vj wr => ∃ (k : Nat) (m : List Nat), vj = .int .i64 (k : Int) ∧ k < n ∧ Hid (NumS wr T0 b v m) ∧ Hid (UpN m k) ∧ Hid (m.length = n) ∧ Hid (m.Perm l ∧ ButA (own18 v) w wr)) (fun vj _ => (intOf vj).toNat)
  case atStart => exact ⟨j, l, rfl, hj, HN, HU, HLN, HL0⟩
  case round =>
    clear HL0 HU HN HLN hj
    obtain ⟨k, m, rfl, hk, HN, HU, HLN, HL⟩ := hrel
    cases k with
    | zero =>
      go_wp2
      go_end0
      exact ⟨rfl, m, HN.out, HL.out.1, HU.out.done (fun h0 => absurd h0 (Nat.lt_irrefl _)), HL.out.2⟩
    | succ k =>
      have e1 : ((k + 1 : Nat) : Int) = (k : Int) + 1 := by omega
      have e2 : ((k / 2 : Nat) : Int) = (k : Int) / 2 := by omega
      have hw : wrap64 ((k : Int) + 1 - 1) = (k : Int) := by unfold wrap64; omega
      have hne : ¬ (k : Int) / 2 = (k : Int) + 1 := by omega
      have HC := HS.out (k + 1) (k / 2) m wr HN.out (by rw [HLN.out]; omega) (by rw [HLN.out]; omega)
      have hUs := HU.out.swap (by rw [HLN.out]; omega) (Nat.succ_pos k)
      have hUd := HU.out.done
      rw [Nat.add_sub_cancel] at hUs hUd
      have HSW := fun W hW => HW.out (k / 2) (k + 1) m W hW (by rw [HLN.out]; omega) (by rw [HLN.out]; omega)
      rw [e1, e2] at HC
      simp only [e1, e2] at HSW
      have HC := hide HC
      have HSW := hide HSW
      have hUs := hide hUs
      have hUd := hide hUd
      rw [e1]
      clear e1 HU HS HW
      obtain ⟨P, hP⟩ : ∃ P, decide (atN m (k + 1) < atN m (k / 2)) = P := ⟨_, rfl⟩
      have HP := hide hP
      rw [hP] at HC
      have hm := meth_less ⟨b, 1, none⟩ wr v HN.out.cell
      clear hP
      go_wp2_with fail
      refine HC.out.mono ?_
      rintro e w1 ⟨rfl, hst⟩
      have HN1 := hide (HN.out.still hst)
      have HL1 : Hid (m.Perm l ∧ ButA (own18 v) w w1) := hide ⟨HL.out.1, HL.out.2.trans (hst.but (fun _ => False)) fun _ _ hf => hf.elim⟩
      clear HC hst hm HL HN
      cases P
      · go_wp2
        go_end0
        exact ⟨rfl, m, HN1.out, HL1.out.1, hUd.out (fun _ => by have := of_decide_eq_false HP.out; omega), HL1.out.2⟩
      · have hm := meth_swap ⟨b, 1, none⟩ w1 v HN1.out.cell
        have HC := hide (HSW.out w1 HN1.out)
        clear HSW
        go_wp2_with fail
        refine HC.out.mono ?_
        rintro e w2 ⟨rfl, hn2, hb2⟩
        have HN2 := hide hn2
        have HL2 : Hid ((swapL m (k / 2) (k + 1)).Perm l ∧ ButA (own18 v) w w2) := hide ⟨(swap_perm (by rw [HLN.out]; omega) (by rw [HLN.out]; omega)).trans HL1.out.1, HL1.out.2.trans hb2 fun _ _ hb => hb⟩
        have HU2 := hide (hUs.out (of_decide_eq_true HP.out))
        have HLN2 : Hid ((swapL m (k / 2) (k + 1)).length = n) := hide (by rw [swap_len]; exact HLN.out)
        clear HC hn2 hb2 hm HL1 HN1 HLN HP hUs hUd
        go_wp2
        go_roundw
        case rel => exact ⟨k / 2, _, by rw [e2], by omega, HN2, HU2, HLN2, HL2⟩
        case measure => simp [intOf]; omega
end Go.Proofs.Ytkopfigagnagoaa
