/- What the document's own Named answers, of whatever name; nothing that was there is written. -/
import Derived.Test.YtiapnmplfkghlaaDoorWalkB
import Derived.Lib.IndexBytes
set_option linter.unusedVariables false
set_option linter.unusedSimpArgs false
namespace Go.Proofs.YtiapnmplfkghlaaDoor
open Go.RowKit

set_option maxHeartbeats 2000000 in
theorem rnamed_any (n : ByteArray) (hn : n.size ≤ 1000000) (w : World) :
    Calls Tryd.prog 11 #[.string n] w fun e w' => e = .returned (.tuple #[.string ⟨((namedL n.data.toList).1).toArray⟩, .bool (namedL n.data.toList).2]) ∧ Below w.heap.size w w' := by
  generalize hR : namedL n.data.toList = R
  have HRR := hide hR
  have HE := hide entries_any
  have HV : Hid (codeFrom 0 n.data.toList = codeL n.data.toList) := hide rfl
  clear hR
  go_enter Tryd.func11, Tryd.ntmps11
  go_wp2_with fail
  refine (HE.out _).mono ?_
  rintro e w1 ⟨⟨b, rfl, hE⟩, b1⟩
  have HIE := hide hE
  clear hE
  go_wp2
  go_loop [5] (fun i => ∃ k : Nat, k ≤ 45 ∧ i = .int .i64 k ∧ Hid (codeFrom k n.data.toList = codeL n.data.toList)) (fun i => 45 - (intOf i).toNat)
  case atStart => exact ⟨0, by omega, rfl, HV⟩
  case round =>
    obtain ⟨k, hk, rfl, HK⟩ := hrel
    by_cases hlt : k < 45
    · have hkl : k < entriesE.length := by rw [entries_len]; exact hlt
      obtain ⟨c1, c2, c3⟩ := HIE.out k hkl
      have hrg := entry_range k hkl
      have hsh := entry_short k hkl
      have HU := hide (rutf8_any _ hrg.1 hrg.2)
      have h1 := str_semi n (entriesE[k]).1
      have h2 := str_same n (entriesE[k]).1
      have hhit : hitE n.data.toList entriesE[k] = (n.data.toList == (entriesE[k]).1 ++ [59] || ((entriesE[k]).2.2 && n.data.toList == (entriesE[k]).1)) := rfl
      have hyes := codeFrom_hit k n.data.toList hkl
      have hno := codeFrom_miss k n.data.toList hkl
      rw [hhit] at hyes hno
      rw [HK.out] at hyes hno
      clear hhit HK
      generalize (entriesE[k]).2.1 = C at *
      generalize (entriesE[k]).2.2 = Bare at *
      generalize hB1 : (n.data.toList == (entriesE[k]).1 ++ [59]) = B1 at *
      generalize hB2 : (n.data.toList == (entriesE[k]).1) = B2 at *
      generalize (⟨(entriesE[k]).1.toArray⟩ : ByteArray) = o at *
      clear hB1 hB2 hrg
      have HRV : Hid (codeL n.data.toList = some C → R = (Lib.encodeRune (C : Int), true)) := hide (by
        intro h
        rw [← HRR.out]
        unfold namedL
        rw [h])
      have HYES := hide hyes
      have HNO := hide hno
      clear hyes hno
      cases B1
      · cases Bare
        · have HN : Hid (codeFrom (k + 1) n.data.toList = codeL n.data.toList) := hide (HNO.out rfl).symm
          go_wp2
          go_round
          case rel => exact ⟨k + 1, by omega, by go_num, HN⟩
          case measure => simp [intOf]; omega
        · cases B2
          · have HN : Hid (codeFrom (k + 1) n.data.toList = codeL n.data.toList) := hide (HNO.out rfl).symm
            go_wp2
            go_round
            case rel => exact ⟨k + 1, by omega, by go_num, HN⟩
            case measure => simp [intOf]; omega
          · have HN := hide (HRV.out (HYES.out rfl))
            go_wp2_with fail
            refine (HU.out _).mono ?_
            rintro e w2 ⟨rfl, b2⟩
            go_wp2
            go_ret2
            rw [HN.out]
            exact ⟨rfl, b1.trans (b2.mono b1.size)⟩
      · have HN := hide (HRV.out (HYES.out rfl))
        go_wp2_with fail
        refine (HU.out _).mono ?_
        rintro e w2 ⟨rfl, b2⟩
        go_wp2
        go_ret2
        rw [HN.out]
        exact ⟨rfl, b1.trans (b2.mono b1.size)⟩
    · have hN : R = ([], false) := by
        rw [← HRR.out]
        unfold namedL
        rw [← HK.out, codeFrom_end k _ (by rw [entries_len]; omega)]
      have HN := hide hN
      have hlt2 : ¬ (k : Int) < 45 := by omega
      clear hN HK hlt
      go_wp2
      go_ret2
      rw [HN.out]
      exact ⟨rfl, b1⟩
end Go.Proofs.YtiapnmplfkghlaaDoor
