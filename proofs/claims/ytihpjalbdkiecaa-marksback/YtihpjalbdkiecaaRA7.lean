/- What the document's own has, Alike, behind, Find, Last and Renew answer; nothing that was there is written. -/
import Derived.Test.YtihpjalbdkiecaaLow7
import Derived.Deep.RegionHeld2
set_option linter.unusedVariables false
set_option linter.unusedSimpArgs false
namespace Go.Proofs.Ytihpjalbdkiecaa
open Go.RowKit

theorem hasA_step (l : AttrL) (a : List UInt8 × List UInt8) (k : Nat) (h : k < l.length) : hasA (l.drop k) a = (l[k] == a || hasA (l.drop (k + 1)) a) := by
  rw [List.drop_eq_getElem_cons h]; rfl
theorem hasA_end (l : AttrL) (a : List UInt8 × List UInt8) (k : Nat) (h : l.length ≤ k) : hasA (l.drop k) a = false := by
  rw [List.drop_eq_nil_of_le h]; rfl
theorem str_beq (a b : List UInt8) : ((⟨a.toArray⟩ : ByteArray).toList == (⟨b.toArray⟩ : ByteArray).toList) = (a == b) := by
  rw [Lib.toList_data, Lib.toList_data, str_data, str_data]

set_option maxHeartbeats 1000000 in
theorem has_any (v : Value) (l : AttrL) (hl : l.length ≤ 1000000) (x : List UInt8 × List UInt8) (w : World) (hQ : IsQ w v l) :
    Calls Try.prog 32 #[v, .agg #[.string ⟨x.1.toArray⟩, .string ⟨x.2.toArray⟩]] w fun e w' => e = .returned (.bool (hasA l x)) ∧ Below w.heap.size w w' := by
  obtain ⟨a, c, rfl⟩ := isQ_form hQ
  have HQ := hide hQ
  clear hQ
  generalize hV : hasA l x = V
  have HV := hide hV
  clear hV
  obtain ⟨p, q⟩ := x
  simp only [] at HV ⊢
  have HE := hide (fun k (h : k < l.length) => hasA_step l (p, q) k h)
  have HS := hide (fun k (h : k < l.length) => And.intro (str_beq l[k].1 p) (str_beq l[k].2 q))
  have HB : Hid (∀ k (h : k < l.length), (l[k] == (p, q)) = (l[k].1 == p && l[k].2 == q)) := hide fun k h => rfl
  have HN := hide (fun k (h : l.length ≤ k) => hasA_end l (p, q) k h)
  generalize (⟨p.toArray⟩ : ByteArray) = P at *
  generalize (⟨q.toArray⟩ : ByteArray) = Q at *
  have HX : Hid (∀ w1, Below (w.alloc (.cells #[.string P, .string Q] 43)).heap.size (w.alloc (.cells #[.string P, .string Q] 43)) w1 → w1.cell? ⟨w.heap.size, 0, none⟩ = some (.string P) ∧ w1.cell? ⟨w.heap.size, 1, none⟩ = some (.string Q)) := hide fun w1 b => by
    rw [b.cell (by simp), b.cell (by simp)]
    simp [go_sem]
  go_enter Try.func32, Try.ntmps32
  go_wp2
  go_loopw [5] (fun i wr => ∃ k : Nat, k ≤ l.length ∧ i = .int .i64 k ∧ Hid (Below (w.alloc (.cells #[.string P, .string Q] 43)).heap.size (w.alloc (.cells #[.string P, .string Q] 43)) wr) ∧ Hid (hasA (l.drop k) (p, q) = V)) (fun i _ => l.length - (intOf i).toNat)
  case atStart => exact ⟨0, Nat.zero_le _, rfl, hide (Below.refl _ _), hide (by rw [List.drop_zero]; exact HV.out)⟩
  case round =>
    obtain ⟨k, hk, rfl, BW, HR⟩ := hrel
    have BB := hide (box_below w _ BW.out)
    by_cases hlt : k < l.length
    · obtain ⟨d0, d1⟩ := HX.out _ BW.out
      obtain ⟨b, o, rfl, c0, c1⟩ := (HQ.out.below BB.out).get k hlt
      obtain ⟨s1, s2⟩ := HS.out k hlt
      have hst := HE.out k hlt
      rw [HR.out, HB.out k hlt] at hst
      have hlt2 : (k : Int) < l.length := by omega
      generalize (⟨l[k].1.toArray⟩ : ByteArray) = X at *
      generalize (⟨l[k].2.toArray⟩ : ByteArray) = Y at *
      rw [← s1, ← s2] at hst
      clear s1 s2 HR hlt
      by_cases e1 : (X.toList == P.toList) = true
      · by_cases e2 : (Y.toList == Q.toList) = true
        · have HR2 : Hid (V = true) := hide (by rw [hst, e1, e2]; rfl)
          clear hst
          go_wp2_with fail
          go_region
          all_goals (try go_wp2)
          all_goals go_ret
          all_goals exact ⟨ret_bool HR2.out.symm, BB.out.drew⟩
        · have e2 := Bool.eq_false_iff.2 e2
          have HR2 : Hid (hasA (l.drop (k + 1)) (p, q) = V) := hide (by rw [hst, e1, e2]; rfl)
          clear hst
          go_wp2_with fail
          go_region
          all_goals (try go_wp2)
          all_goals go_roundw
          case rel => exact ⟨k + 1, by omega, by go_num, hide BW.out.drew, HR2⟩
          case measure => simp [intOf]; omega
      · have e1 := Bool.eq_false_iff.2 e1
        have HR2 : Hid (hasA (l.drop (k + 1)) (p, q) = V) := hide (by rw [hst, e1]; rfl)
        clear hst
        go_wp2_with fail
        go_region
        all_goals (try go_wp2)
        all_goals go_roundw
        case rel => exact ⟨k + 1, by omega, by go_num, hide BW.out.drew, HR2⟩
        case measure => simp [intOf]; omega
    · have hs := HN.out k (by omega)
      rw [HR.out] at hs
      have HR2 := hide hs
      have hlt2 : ¬ (k : Int) < l.length := by omega
      clear hs HR hlt
      go_wp2
      go_ret
      exact ⟨ret_bool HR2.out.symm, BB.out⟩
end Go.Proofs.Ytihpjalbdkiecaa
