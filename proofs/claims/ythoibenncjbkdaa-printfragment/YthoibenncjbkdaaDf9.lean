/- What the document's own Fragment answers, of whatever nodes; nothing that was there is written. -/
import Derived.Test.YthoibenncjbkdaaDo9
set_option linter.unusedVariables false
set_option linter.unusedSimpArgs false
set_option maxRecDepth 4000
namespace Go.Proofs.Ythoibenncjbkdaa
open Go.RowKit

theorem one_any {k : Nat} (t : S5.NT (k + 1)) (ih : ∀ i (h : i < t.kids.length), KidOk t.kids[i]) : KidOk t := by
  intro Bk vs raw w hB hN hs
  have hN2 := hN
  rw [t.form, S5.isN_iff] at hN
  obtain ⟨av, kv, rfl, hA, hK⟩ := hN
  have hN3 : S5.IsN Bk w t [.int .i64 t.nd.kind, .int .i64 t.nd.space, .string ⟨t.nd.name.toArray⟩, av, .string ⟨t.nd.text.toArray⟩, kv] := hN2
  show Calls Try.prog 15 #[.agg #[.int .i64 t.nd.kind, .int .i64 t.nd.space, .string ⟨t.nd.name.toArray⟩, av, .string ⟨t.nd.text.toArray⟩, kv], .bool raw] w _
  have hm := sizeT_mk t
  have hz : (⟨t.nd.text.toArray⟩ : ByteArray).size = t.nd.text.length := by rw [S5.size_list, S5.str_data]
  by_cases h1 : t.nd.kind = 1
  · exact one_elem t h1 ih Bk av kv raw w hB hN3 hs
  · rw [printT_mk]
    by_cases h2 : t.nd.kind = 2
    · rw [if_pos h2, h2]
      have := one_text t.nd.space ⟨t.nd.name.toArray⟩ ⟨t.nd.text.toArray⟩ av kv raw (by omega) w
      rw [S5.str_data] at this
      exact this
    · rw [if_neg h2]
      by_cases h3 : t.nd.kind = 3
      · rw [if_pos h3, h3]
        have := one_comment t.nd.space ⟨t.nd.name.toArray⟩ ⟨t.nd.text.toArray⟩ av kv raw (by omega) w
        rw [S5.str_data] at this
        exact this
      · rw [if_neg h3, if_neg h1]
        exact one_other _ _ h1 h2 h3 _ _ av kv raw w
theorem kid_any : ∀ {k : Nat} (t : S5.NT k), KidOk t
  | 0, t => t.none
  | k + 1, t => one_any t fun i hi => kid_any _
set_option maxHeartbeats 1000000 in
theorem rfragment_any {k : Nat} (ks : List (S5.NT k)) (Bk : Nat → Prop) (va : Value) (w : World) (hB : ∀ j, Bk j → j < w.heap.size) (hK : S5.IsK Bk w ks va) (hs : sizeTs ks ≤ 1000000) :
    Calls Try.prog 9 #[va] w fun e w' => e = .returned (.string ⟨(printTs false ks).toArray⟩) ∧ Below w.heap.size w w' := by
  have HK := hide hK
  have HB := hide hB
  have hkl := sizeTs_lenA ks
  have hpl : Hid (∀ j, (printTs false (ks.take j)).length ≤ 7 * sizeTs ks) := hide (fun j => by
    have h1 := printTs_len false (ks.take j)
    have h2 := sizeTs_app (ks.take j) (ks.drop j)
    rw [List.take_append_drop] at h2
    omega)
  obtain ⟨a2, c2, rfl⟩ := S5.isK_form hK
  clear hK hB
  generalize hO : printTs false ks = OUT
  have HO := hide hO
  clear hO
  go_enter Try.func9, Try.ntmps9
  go_wp2
  go_loopw [3, 4] (fun vs vi wr => ∃ (j : Nat) (y : ByteArray), vi = .int .i64 j ∧ vs = .string y ∧ j ≤ ks.length ∧ Hid (y.data.toList = printTs false (ks.take j)) ∧ Hid (Below w.heap.size w wr)) (fun _ vi _ => ks.length - (intOf vi).toNat)
  case atStart => exact ⟨0, _, rfl, rfl, Nat.zero_le _, hide rfl, hide (Below.refl _ _)⟩
  case round =>
    obtain ⟨j, y, rfl, rfl, hj, HY, HBK⟩ := hrel
    have hpj := hpl.out j
    have hyz : y.size = (printTs false (ks.take j)).length := by rw [S5.size_list, HY.out]
    by_cases hjl : j < ks.length
    · have hjl2 : (j : Int) < ks.length := by omega
      have k1 := isK_keepB HB.out HK.out HBK.out
      rcases k1 with ⟨_, h0⟩ | ⟨b2, o2, cap2, e2, _, _, hn2⟩
      · rw [h0] at hjl; simp at hjl
      injection e2 with e2 _ e2c
      subst e2 e2c
      obtain ⟨vs, g, hN⟩ := S5.IsNs.get o2 ks hn2 j hjl
      obtain ⟨q1, q2, q3, q4, q5, q6, q7, q8, q9, q10, rfl⟩ := hN.form
      have g0 : wr.cell? ⟨b2, o2 + j * 6, none⟩ = some (.int .i64 q1) := g 0 (by omega)
      have g1 : wr.cell? ⟨b2, o2 + j * 6 + 1, none⟩ = some (.int .i64 q2) := g 1 (by omega)
      have g2 : wr.cell? ⟨b2, o2 + j * 6 + 2, none⟩ = some (.string q3) := g 2 (by omega)
      have g3 : wr.cell? ⟨b2, o2 + j * 6 + 3, none⟩ = some (.slice q4 q5 q6) := g 3 (by omega)
      have g4 : wr.cell? ⟨b2, o2 + j * 6 + 4, none⟩ = some (.string q7) := g 4 (by omega)
      have g5 : wr.cell? ⟨b2, o2 + j * 6 + 5, none⟩ = some (.slice q8 q9 q10) := g 5 (by omega)
      have hsj := sizeTs_mem ks j hjl
      have hBk : ∀ q, Bk q → q < wr.heap.size := fun q hq => Nat.lt_of_lt_of_le (HB.out q hq) HBK.out.size
      have HC := hide (kid_any ks[j] Bk _ false wr hBk hN (by omega))
      have hlk := printT_len false ks[j]
      have hkz : (⟨(printT false ks[j]).toArray⟩ : ByteArray).size = (printT false ks[j]).length := by rw [S5.size_list, S5.str_data]
      have HEQ : Hid ((y ++ ⟨(printT false ks[j]).toArray⟩ : ByteArray).data.toList = printTs false (ks.take (j + 1))) := hide (by
        rw [S5.str_app _ _ _ _ HY.out (S5.str_data _), printTs_take false ks j hjl])
      have r2 : ¬ 9223372036854775807 < y.size + (⟨(printT false ks[j]).toArray⟩ : ByteArray).size := by omega
      clear g hN hn2 hBk hyz hpj hlk hkz hsj
      generalize (⟨(printT false ks[j]).toArray⟩ : ByteArray) = z at *
      go_wp2_with fail
      refine HC.out.mono ?_
      rintro e w9 ⟨rfl, b9⟩
      have HBN := hide (HBK.out.trans (b9.mono HBK.out.size))
      clear b9 g0 g1 g2 g3 g4 g5
      go_wp2
      go_roundw
      case rel => exact ⟨j + 1, _, by go_num, rfl, by omega, HEQ, HBN⟩
      case measure => simp [intOf]; omega
    · have hjl2 : ¬ (j : Int) < ks.length := by omega
      have hke : ks.take j = ks := List.take_of_length_le (by omega)
      rw [hke] at HY
      clear hke
      have HF : Hid (y = ⟨OUT.toArray⟩) := hide (S5.str_of _ _ (by rw [← HO.out, HY.out]))
      clear hyz hpj
      go_wp2
      go_ret
      exact ⟨by rw [← HF.out]; rfl, HBK.out⟩
end Go.Proofs.Ythoibenncjbkdaa
