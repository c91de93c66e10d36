/- What the document's own within answers; nothing that was there is written. -/
import Derived.Test.YtjgklemhlmgheaaWalkA5
set_option linter.unusedVariables false
set_option linter.unusedSimpArgs false
namespace Go.Proofs.Ytjgklemhlmgheaa
open Go.RowKit

set_option maxRecDepth 10000 in
set_option maxHeartbeats 2000000 in
theorem within_any (v : Value) (T : TR) (n a : Nat) (hl : T.length ≤ 1000000) (hk : ∀ i (h : i < T.length), T[i].2.length ≤ 1000000) (w : World) (hT : IsT w v T) :
    Calls Try.prog 54 #[.agg #[v], .int .i64 (n : Int), .int .i64 (a : Int)] w fun e w' => e = .returned (.bool (withinL T n a)) ∧ Below w.heap.size w w' := by
  obtain ⟨b, o, cap, rfl, hcap, hit⟩ := hT
  have HT : Hid (IsT w (.slice (some ⟨b, o, none⟩) T.length cap) T) := hide ⟨b, o, cap, rfl, hcap, hit⟩
  have HP := hide (fun z => parent_any (.slice (some ⟨b, o, none⟩) T.length cap) T z hl hk)
  have HB := hide (below_alloc w (.cells #[.slice (some ⟨b, o, none⟩) T.length cap] 27))
  have KO := hide (Kept.new w [.slice (some ⟨b, o, none⟩) T.length cap] 27)
  clear hit hk
  generalize hR : withinL T n a = R
  unfold withinL at hR
  have HR0 := hide hR
  clear hR
  go_enter Try.func54, Try.ntmps54
  go_wp2_with fail
  generalize w.alloc (.cells #[.slice (some ⟨b, o, none⟩) T.length cap] 27) = W0 at *
  have HT0 := hide (HT.out.below HB.out)
  clear HT
  generalize hG : w.heap.size = g at *
  go_loopw [1, 7] (fun tn tk wr => ∃ k : Nat, tk = .int .i64 (k : Int) ∧ k ≤ T.length + 1 ∧ Below W0.heap.size W0 wr ∧ ((∃ m : Nat, tn = .int .i64 (m : Int) ∧ Hid (withinK (T.length + 1 - k) T m a = R)) ∨ (tn = .int .i64 (-1) ∧ Hid (R = false)))) (fun _ tk _ => T.length + 1 - (intOf tk).toNat)
  case atStart => exact ⟨0, rfl, by omega, Below.refl _ _, .inl ⟨n, rfl, HR0⟩⟩
  case round =>
    clear HR0
    obtain ⟨k, rfl, hk, bw, hor⟩ := hrel
    have KW := hide (KO.out.below bw)
    have BW := hide bw
    have TW := hide (HT0.out.below bw)
    have q0 : wr.cell? ⟨g, 0, none⟩ = some (.slice (some ⟨b, o, none⟩) T.length cap) := KW.out.1 0
    clear bw
    rcases hor with ⟨m, rfl, HR⟩ | ⟨rfl, HR⟩
    · by_cases hle : k ≤ T.length
      · have hle2 : (k : Int) ≤ T.length := by omega
        have hs : T.length + 1 - k = (T.length - k) + 1 := by omega
        have hr := HR.out
        rw [hs] at hr
        simp only [withinK] at hr
        by_cases he : m = a
        · subst he
          rw [if_pos rfl] at hr
          have HRT : Hid (true = R) := hide hr
          clear hr HR
          go_wp2
          go_ret
          exact ⟨ret_bool HRT.out, by first | exact HB.out.trans (BW.out.mono (by rw [← hG]; exact HB.out.size)) | (rw [hG]; exact HB.out.trans (BW.out.mono (by rw [← hG]; exact HB.out.size)))⟩
        · rw [if_neg he] at hr
          have he2 : ¬ (m : Int) = (a : Int) := by omega
          have hpz : parentZ T (m : Int) = parZ (parentN T m) := by unfold parentZ; rw [if_neg (by omega), Int.toNat_natCast]
          have HPM := hide (HP.out (m : Int))
          rw [hpz] at HPM
          cases hp : parentN T m with
          | none =>
            rw [hp] at hr HPM
            have HRF : Hid (R = false) := hide hr.symm
            clear hr HR hpz
            go_wp2_with fail
            refine (HPM.out _ TW.out).mono ?_
            rintro e w2 ⟨rfl, b2⟩
            have B2 := hide (BW.out.trans (b2.mono BW.out.size))
            clear b2 q0
            rw [parZ_none]
            go_wp2
            go_roundw
            case rel => exact ⟨k + 1, by go_num, by omega, B2.out, .inr ⟨rfl, HRF⟩⟩
            case measure => simp [intOf]; omega
          | some p =>
            rw [hp] at hr HPM
            have HRF : Hid (withinK (T.length + 1 - (k + 1)) T p a = R) := hide (by rw [show T.length + 1 - (k + 1) = T.length - k by omega]; exact hr)
            clear hr HR hpz
            go_wp2_with fail
            refine (HPM.out _ TW.out).mono ?_
            rintro e w2 ⟨rfl, b2⟩
            have B2 := hide (BW.out.trans (b2.mono BW.out.size))
            clear b2 q0
            rw [show parZ (some p) = (p : Int) from rfl]
            go_wp2
            go_roundw
            case rel => exact ⟨k + 1, by go_num, by omega, B2.out, .inl ⟨p, rfl, HRF⟩⟩
            case measure => simp [intOf]; omega
      · have hle2 : ¬ (k : Int) ≤ T.length := by omega
        have hr := HR.out
        rw [show T.length + 1 - k = 0 by omega] at hr
        have HRF : Hid (R = false) := hide hr.symm
        clear hr HR
        go_wp2
        go_ret
        exact ⟨ret_bool HRF.out.symm, by first | exact HB.out.trans (BW.out.mono (by rw [← hG]; exact HB.out.size)) | (rw [hG]; exact HB.out.trans (BW.out.mono (by rw [← hG]; exact HB.out.size)))⟩
    · by_cases hle : k ≤ T.length
      · have hle2 : (k : Int) ≤ T.length := by omega
        go_wp2
        go_ret
        exact ⟨ret_bool HR.out.symm, by first | exact HB.out.trans (BW.out.mono (by rw [← hG]; exact HB.out.size)) | (rw [hG]; exact HB.out.trans (BW.out.mono (by rw [← hG]; exact HB.out.size)))⟩
      · have hle2 : ¬ (k : Int) ≤ T.length := by omega
        go_wp2
        go_ret
        exact ⟨ret_bool HR.out.symm, by first | exact HB.out.trans (BW.out.mono (by rw [← hG]; exact HB.out.size)) | (rw [hG]; exact HB.out.trans (BW.out.mono (by rw [← hG]; exact HB.out.size)))⟩
end Go.Proofs.Ytjgklemhlmgheaa
