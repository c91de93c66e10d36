/- What the statements' count answers. -/
import Derived.Test.YtjgklemhlmgheaaVT5
set_option linter.unusedVariables false
set_option linter.unusedSimpArgs false
namespace Go.Proofs.Ytjgklemhlmgheaa
open Go.RowKit

theorem countTs_app {k : Nat} (a b : List (NT k)) : countTs (a ++ b) = countTs a + countTs b := by
  unfold countTs
  rw [List.map_append, List.sum_append]
theorem countTs_take {k : Nat} (ks : List (NT k)) (i : Nat) (h : i < ks.length) : countTs (ks.take (i + 1)) = countTs (ks.take i) + countT ks[i] := by
  rw [List.take_succ_eq_append_getElem h, countTs_app]
  simp [countTs]
theorem countTs_le {k : Nat} (ks : List (NT k)) (i : Nat) : countTs (ks.take i) ≤ countTs ks := by
  have := countTs_app (ks.take i) (ks.drop i)
  rw [List.take_append_drop] at this
  omega
def CntN {k : Nat} (t : NT k) : Prop := ∀ (B : Nat → Prop) (vs : List Value) (w : World), (∀ k, B k → k < w.heap.size) → IsN B w t vs → countT t ≤ 1000000 → Calls Try.prog 23 #[.agg vs.toArray] w fun e w' => e = .returned (.int .i64 (countT t : Int)) ∧ Below w.heap.size w w'
set_option maxRecDepth 10000 in
set_option maxHeartbeats 4000000 in
theorem count_step {k : Nat} (d : ND) (ks : List (NT k)) (hl : ks.length ≤ 1000000) (ih : ∀ j (hj : j < ks.length), CntN ks[j]) : CntN (NT.mk d ks) := by
  intro B vs w hB hN hct
  rw [isN_iff] at hN
  obtain ⟨av, kv, rfl, hA, hK⟩ := hN
  obtain ⟨a1, c1, rfl⟩ := isA_form hA.1
  obtain ⟨a3, c3, rfl⟩ := isK_form hK
  have hc1 : countT (NT.mk d ks) = 1 + countTs ks := countT_mk d ks
  rw [hc1] at hct ⊢
  unfold nodeC
  have b0 := below_alloc w (.cells #[.int .i64 d.kind, .int .i64 d.space, .string ⟨d.name.toArray⟩, .slice a1 d.attrs.length c1, .string ⟨d.text.toArray⟩, .slice a3 ks.length c3] 41)
  have HB0 := hide b0
  have K0 : Hid (Kept (w.alloc (.cells #[.int .i64 d.kind, .int .i64 d.space, .string ⟨d.name.toArray⟩, .slice a1 d.attrs.length c1, .string ⟨d.text.toArray⟩, .slice a3 ks.length c3] 41)) w.heap.size [.int .i64 d.kind, .int .i64 d.space, .string ⟨d.name.toArray⟩, .slice a1 d.attrs.length c1, .string ⟨d.text.toArray⟩, .slice a3 ks.length c3]) := hide (Kept.new w _ _)
  have HK := hide hK
  have HBB := hide hB
  have HIH := hide ih
  have HTA := hide (countTs_take ks)
  have HLE := hide (countTs_le ks)
  clear b0 hA hK hB ih hc1
  go_enter Try.func23, Try.ntmps23
  go_wp2_with fail
  generalize w.alloc (.cells #[.int .i64 d.kind, .int .i64 d.space, .string ⟨d.name.toArray⟩, .slice a1 d.attrs.length c1, .string ⟨d.text.toArray⟩, .slice a3 ks.length c3] 41) = W0 at *
  go_loopw [3, 4] (fun v3 v4 wr => ∃ i : Nat, v4 = .int .i64 (i : Int) ∧ i ≤ ks.length ∧ v3 = .int .i64 (1 + countTs (ks.take i) : Int) ∧ Hid (Below W0.heap.size W0 wr)) (fun _ v4 _ => ks.length - (intOf v4).toNat)
  case atStart => exact ⟨0, rfl, by omega, rfl, hide (Below.refl _ _)⟩
  case round =>
    obtain ⟨i, rfl, hi, rfl, HBW⟩ := hrel
    have q := Kept.below (v := .int .i64 d.kind) (cs := [.int .i64 d.space, .string ⟨d.name.toArray⟩, .slice a1 d.attrs.length c1, .string ⟨d.text.toArray⟩, .slice a3 ks.length c3]) K0.out HBW.out
    have k5 : wr.cell? ⟨w.heap.size, 5, none⟩ = some (.slice a3 ks.length c3) := q.1 5
    have HBA := hide (HB0.out.trans (HBW.out.mono HB0.out.size))
    clear q
    have hle := HLE.out i
    by_cases hlt : i < ks.length
    · have hlt2 : (i : Int) < ks.length := by omega
      have k1 := HK.out.below HBB.out HBA.out
      rcases k1 with ⟨_, h0⟩ | ⟨b1, o1, cap1, e1, _, _, hn1⟩
      · rw [h0] at hlt; simp at hlt
      injection e1 with e1 _ e1c
      subst e1 e1c
      obtain ⟨vs1, g1, n1⟩ := IsNs.get o1 ks hn1 i hlt
      have hta := HTA.out i hlt
      have hle2 := HLE.out (i + 1)
      have HC := hide (HIH.out i hlt B vs1 wr (fun j hj => Nat.lt_of_lt_of_le (HBB.out j hj) HBA.out.size) n1 (by omega))
      obtain ⟨q1, q2, q3, q4, q5, q6, q7, q8, q9, q10, rfl⟩ := n1.form
      have u0 : wr.cell? ⟨b1, o1 + i * 6, none⟩ = some (.int .i64 q1) := g1 0 (by omega)
      have u1 : wr.cell? ⟨b1, o1 + i * 6 + 1, none⟩ = some (.int .i64 q2) := g1 1 (by omega)
      have u2 : wr.cell? ⟨b1, o1 + i * 6 + 2, none⟩ = some (.string q3) := g1 2 (by omega)
      have u3 : wr.cell? ⟨b1, o1 + i * 6 + 3, none⟩ = some (.slice q4 q5 q6) := g1 3 (by omega)
      have u4 : wr.cell? ⟨b1, o1 + i * 6 + 4, none⟩ = some (.string q7) := g1 4 (by omega)
      have u5 : wr.cell? ⟨b1, o1 + i * 6 + 5, none⟩ = some (.slice q8 q9 q10) := g1 5 (by omega)
      have HTT : Hid ((countTs (ks.take (i + 1)) : Int) = countTs (ks.take i) + countT ks[i]) := hide (by omega)
      have hb1 : countTs (ks.take i) ≤ 1000000 := by omega
      have hb2 : countT ks[i] ≤ 1000000 := by omega
      clear g1 n1 hn1 hta hle hle2
      generalize countT ks[i] = ci at *
      generalize hcs : countTs (ks.take i) = cs at *
      go_wp2_with fail
      refine HC.out.mono ?_
      rintro e x1 ⟨rfl, b1⟩
      have HBN := hide (HBW.out.trans (b1.mono HBW.out.size))
      clear b1 u0 u1 u2 u3 u4 u5 k5
      go_wp2
      go_roundw
      case rel => exact ⟨i + 1, by go_num, by omega, by rw [HTT.out]; go_num, HBN⟩
      case measure => simp [intOf]; omega
    · have hlt2 : ¬ (i : Int) < ks.length := by omega
      have hke : ks.take i = ks := List.take_of_length_le (by omega)
      rw [hke]
      clear hle hke
      go_wp2
      go_ret
      exact ⟨ret_int (by omega), HBA.out⟩
theorem count_any : ∀ {k : Nat} (t : NT k), OkT t → CntN t
  | 0, t, _ => t.none
  | k + 1, t, h => by
    rw [t.form]
    exact count_step t.nd t.kids h.2.1 fun j hj => count_any _ (h.2.2 _ (List.getElem_mem hj))
end Go.Proofs.Ytjgklemhlmgheaa
