/- What the document's own Is, holds and Parent answer; nothing that was there is written. -/
import Derived.Test.YtjgklemhlmgheaaMem5
import Derived.BigQuiet
import Derived.Deep.QuietTactic
set_option linter.unusedVariables false
set_option linter.unusedSimpArgs false
namespace Go.Proofs.Ytjgklemhlmgheaa
open Go.RowKit

set_option maxHeartbeats 1000000 in
theorem is_any (v : Value) (T : TR) (z : Int) (w : World) (hT : IsT w v T) :
    Calls Try.prog 44 #[.agg #[v], .int .i64 z] w fun e w' => e = .returned (.bool (decide (0 ≤ z ∧ z < T.length))) ∧ Below w.heap.size w w' := by
  obtain ⟨b, o, cap, rfl, hcap, hit⟩ := hT
  clear hit
  have HB := hide (below_alloc w (.cells #[.slice (some ⟨b, o, none⟩) T.length cap] 27))
  by_cases h0 : 0 ≤ z
  · by_cases h1 : z < T.length
    · go_enter Try.func44, Try.ntmps44
      go_wp2
      go_ret
      exact ⟨ret_bool (by simp [h0, h1]), HB.out⟩
    · go_enter Try.func44, Try.ntmps44
      go_wp2
      go_ret
      exact ⟨ret_bool (by simp [h0, h1]), HB.out⟩
  · go_enter Try.func44, Try.ntmps44
    go_wp2
    go_ret
    exact ⟨ret_bool (by simp; omega), HB.out⟩
theorem parZ_none : parZ none = -1 := rfl
set_option maxRecDepth 10000 in
set_option maxHeartbeats 2000000 in
theorem parent_by (v : Value) (T : TR) (z : Int) (P : Nat → Option Nat) (hP1 : ∀ i (h : i < T.length), (∃ x ∈ T[i].2, (x : Int) = z) → P i = some i) (hP2 : ∀ i (h : i < T.length), (∀ x ∈ T[i].2, ¬ (x : Int) = z) → P i = P (i + 1)) (hP3 : P T.length = none)
    (hl : T.length ≤ 1000000) (hk : ∀ i (h : i < T.length), T[i].2.length ≤ 1000000) (w : World) (hT : IsT w v T) :
    Calls Try.prog 19 #[.agg #[v], .int .i64 z] w fun e w' => e = .returned (.int .i64 (parZ (P 0))) ∧ Below w.heap.size w w' := by
  obtain ⟨b, o, cap, rfl, hcap, hit⟩ := hT
  have HIT := hide hit
  have HB := hide (below_alloc w (.cells #[.slice (some ⟨b, o, none⟩) T.length cap] 27))
  have KO := hide (Kept.new w [.slice (some ⟨b, o, none⟩) T.length cap] 27)
  have HP1 := hide hP1
  have HP2 := hide hP2
  have HP3 := hide hP3
  have HK := hide hk
  clear hit hP1 hP2 hP3 hk
  go_enter Try.func19, Try.ntmps19
  go_wp2_with fail
  generalize w.alloc (.cells #[.slice (some ⟨b, o, none⟩) T.length cap] 27) = W0 at *
  have HIT0 : Hid (∀ j (hj : j < T.length), IsItem W0 b (o + j * 7) T[j]) := hide fun j hj => (HIT.out j hj).below HB.out
  clear HIT
  generalize hG : w.heap.size = g at *
  go_loopw [5] (fun ti wr => ∃ i : Nat, ti = .int .i64 (i : Int) ∧ i ≤ T.length ∧ Below W0.heap.size W0 wr ∧ Hid (P i = P 0)) (fun ti _ => T.length - (intOf ti).toNat)
  case atStart => exact ⟨0, rfl, by omega, Below.refl _ _, hide rfl⟩
  case round =>
    obtain ⟨i, rfl, hi, bw, HPi⟩ := hrel
    have KW := hide (KO.out.below bw)
    have BW := hide bw
    have hgw : g < wr.heap.size := KW.out.lt
    have q0 : wr.cell? ⟨g, 0, none⟩ = some (.slice (some ⟨b, o, none⟩) T.length cap) := KW.out.1 0
    by_cases hlt : i < T.length
    · have hlt2 : (i : Int) < T.length := by omega
      obtain ⟨av, kv, hA, hI, hcs⟩ := (HIT0.out i hlt).below bw
      obtain ⟨ka, kc, rfl⟩ := isI_form hI
      have HI := hide hI
      have HC6 : Hid (wr.cell? ⟨b, o + i * 7 + 6, none⟩ = some (.slice ka T[i].2.length kc)) := hide (hcs 6 (by omega))
      have hc1 := HP1.out i hlt
      have hc2 := HP2.out i hlt
      have hkl := HK.out i hlt
      have HH1 := hide hc1
      have HH2 := hide hc2
      clear hA hI hcs bw hc1 hc2
      generalize T[i].2 = ks at *
      go_wp2_with fail
      clear q0
      generalize hWR : wr = W1 at *
      clear hWR
      go_loopw [6] (fun tk wr => ∃ k : Nat, tk = .int .i64 (k : Int) ∧ k ≤ ks.length ∧ Below W1.heap.size W1 wr ∧ Hid (∀ x ∈ ks.take k, ¬ (x : Int) = z)) (fun tk _ => ks.length - (intOf tk).toNat)
      case atStart => exact ⟨0, rfl, by omega, Below.refl _ _, hide (by simp)⟩
      case round =>
        obtain ⟨k, rfl, hk, bk, HT⟩ := hrel
        have q0 : wr.cell? ⟨g, 0, none⟩ = some (.slice (some ⟨b, o, none⟩) T.length cap) := (KW.out.below bk).1 0
        have q6 : wr.cell? ⟨b, o + i * 7 + 6, none⟩ = some (.slice ka ks.length kc) := by rw [bk.cell (cell_lt HC6.out)]; exact HC6.out
        have BK := hide bk
        by_cases hkl2 : k < ks.length
        · have hkl3 : (k : Int) < ks.length := by omega
          obtain ⟨kb, ko, rfl, hkc⟩ := (HI.out.below bk).at (by omega)
          have ck := hkc k hkl2
          clear bk hkc
          by_cases he : (ks[k] : Int) = z
          · have HR : Hid (P 0 = some i) := hide (by rw [← HPi.out]; exact HH1.out ⟨ks[k], List.getElem_mem hkl2, he⟩)
            generalize ks[k] = x at *
            subst he
            go_wp2
            go_ret
            exact ⟨ret_int (by rw [HR.out]; rfl), by rw [hG]; exact HB.out.trans ((BW.out.trans (BK.out.mono BW.out.size)).mono (by rw [← hG]; exact HB.out.size))⟩
          · have HT2 : Hid (∀ x ∈ ks.take (k + 1), ¬ (x : Int) = z) := hide (by
              intro x hx
              rw [List.take_succ_eq_append_getElem hkl2] at hx
              rcases List.mem_append.1 hx with hx | hx
              · exact HT.out x hx
              · obtain rfl : x = ks[k] := by simpa using hx
                exact he)
            generalize ks[k] = x at *
            go_wp2
            go_roundw
            case rel => exact ⟨k + 1, by go_num, by omega, BK.out, HT2⟩
            case measure => simp [intOf]; omega
        · have hkl3 : ¬ (k : Int) < ks.length := by omega
          have HPi2 : Hid (P (i + 1) = P 0) := hide (by
            rw [← HPi.out]
            refine (HH2.out fun x hx => HT.out x ?_).symm
            rw [List.take_of_length_le (by omega)]
            exact hx)
          clear bk
          go_wp2
          go_roundw
          case rel => exact ⟨i + 1, by go_num, by omega, BW.out.trans (BK.out.mono BW.out.size), HPi2⟩
          case measure => simp [intOf]; omega
    · have hlt2 : ¬ (i : Int) < T.length := by omega
      have hie : i = T.length := by omega
      have HR : Hid (P 0 = none) := hide (by rw [← HPi.out, hie]; exact HP3.out)
      clear bw
      go_wp2
      go_ret
      exact ⟨ret_int (by rw [HR.out]; rfl), HB.out.trans (BW.out.mono (by rw [← hG]; exact HB.out.size))⟩
theorem parent_any (v : Value) (T : TR) (z : Int) (hl : T.length ≤ 1000000) (hk : ∀ i (h : i < T.length), T[i].2.length ≤ 1000000) (w : World) (hT : IsT w v T) :
    Calls Try.prog 19 #[.agg #[v], .int .i64 z] w fun e w' => e = .returned (.int .i64 (parentZ T z)) ∧ Below w.heap.size w w' := by
  by_cases hz : z < 0
  · have h := parent_by v T z (fun _ => none) (fun i h ⟨x, _, hx⟩ => by omega) (fun _ _ _ => rfl) rfl hl hk w hT
    unfold parentZ
    rw [if_pos hz]
    exact h
  · have h := parent_by v T z (fun i => parentFrom T i z.toNat) (fun i h ⟨x, hx, e⟩ => parentFrom_hit h (by
      have : x = z.toNat := by omega
      subst this
      simpa using hx)) (fun i h hm => parentFrom_miss h (by
      rw [Bool.eq_false_iff]
      intro hc
      exact hm z.toNat (by simpa using hc) (by omega))) (parentFrom_end (Nat.le_refl _)) hl hk w hT
    rw [parentFrom_zero] at h
    unfold parentZ
    rw [if_neg hz]
    exact h
end Go.Proofs.Ytjgklemhlmgheaa
