/- What the document's own among, Cut, Find, Has and Implied answer, of whatever list; nothing that was there is written. -/
import Derived.Test.YtfknhpkpenhflaaRA6
set_option linter.unusedVariables false
set_option linter.unusedSimpArgs false
namespace Go.Proofs.Ytfknhpkpenhflaa
open Go.RowKit

set_option maxHeartbeats 1000000 in
theorem ramong_any (el : OV) (names : List (List UInt8)) (hl : names.length ≤ 1000000) (v : Value) (w : World) (hW : IsW w v names) :
    Calls Try.prog 34 #[.agg #[.int .i64 el.id, .int .i64 el.sp, .string el.nm], v] w fun e w' => e = .returned (.bool (namedL names el)) ∧ Below w.heap.size w w' := by
  obtain ⟨id, sp, nm⟩ := el
  unfold namedL
  simp only [htmlL]
  have HX := hide (fun (w1 : World) (b : Below (w.alloc (.cells #[.int .i64 id, .int .i64 sp, .string nm] 24)).heap.size (w.alloc (.cells #[.int .i64 id, .int .i64 sp, .string nm] 24)) w1) => And.intro (box_below w _ b) (And.intro (box_cells w id sp nm b) (hW.below (box_below w _ b))))
  by_cases h0 : sp = 0
  · subst h0
    simp only [beq_self_eq_true, Bool.true_and]
    rcases hW with ⟨rfl, a, c, rfl⟩ | ⟨b, o, cap, rfl, hc⟩
    · go_enter Try.func34, Try.ntmps34
      go_wp2
      go_loop [5] (fun i => i = .int .i64 0) (fun i => 0)
      case atStart => rfl
      case round =>
        subst hrel
        go_wp2
        go_ret
        exact ⟨rfl, below_alloc w _⟩
    · have HC := hide (fun (w1 : World) (b1 : Below w.heap.size w w1) j (hj : j < names.length) => show w1.cell? ⟨b, o + j, none⟩ = some (.string ⟨(names[j]).toArray⟩) by rw [b1.cell (cell_lt (hc j hj))]; exact hc j hj)
      clear hc
      generalize hV : amongL names nm.data.toList = V
      have HV := hide hV
      clear hV
      go_enter Try.func34, Try.ntmps34
      go_wp2
      go_loopw [5] (fun i wr => ∃ k : Nat, k ≤ names.length ∧ i = .int .i64 k ∧ Hid (Below (w.alloc (.cells #[.int .i64 id, .int .i64 0, .string nm] 24)).heap.size (w.alloc (.cells #[.int .i64 id, .int .i64 0, .string nm] 24)) wr) ∧ Hid (amongL (names.drop k) nm.data.toList = V)) (fun i _ => names.length - (intOf i).toNat)
      case atStart => exact ⟨0, Nat.zero_le _, rfl, hide (Below.refl _ _), hide (by rw [List.drop_zero]; exact HV.out)⟩
      case round =>
        obtain ⟨k, hk, rfl, BW, HR⟩ := hrel
        obtain ⟨bb, ⟨c0, c1, c2⟩, -⟩ := HX.out _ BW.out
        by_cases hlt : k < names.length
        · have hcell := HC.out wr bb k hlt
          have he := str_eq nm names[k]
          have hs := among_step names nm.data.toList k hlt
          rw [HR.out] at hs
          have hlt2 : (k : Int) < names.length := by omega
          cases hb : nm.data.toList == names[k]
          · rw [hb] at he hs
            rw [Bool.false_or] at hs
            have HR2 := hide hs.symm
            clear hs hb HR
            generalize names[k] = x at *
            have he2 : (nm.toList == (⟨x.toArray⟩ : ByteArray).toList) = false := by rw [Lib.toList_data ⟨x.toArray⟩, str_data]; exact he
            clear hlt bb
            generalize (⟨x.toArray⟩ : ByteArray) = y at *
            go_wp2_with fail
            go_region
            all_goals (try go_wp2)
            all_goals go_roundw
            case rel => exact ⟨k + 1, by omega, by go_num, hide BW.out.drew, HR2⟩
            case measure => simp [intOf]; omega
          · rw [hb] at he hs
            rw [Bool.true_or] at hs
            have HR2 := hide hs
            clear hs hb HR
            generalize names[k] = x at *
            have he2 : (nm.toList == (⟨x.toArray⟩ : ByteArray).toList) = true := by rw [Lib.toList_data ⟨x.toArray⟩, str_data]; exact he
            clear hlt
            generalize (⟨x.toArray⟩ : ByteArray) = y at *
            have BB := hide bb
            clear bb
            go_wp2_with fail
            go_region
            all_goals (try go_wp2)
            all_goals go_ret
            all_goals exact ⟨ret_bool HR2.out.symm, BB.out.drew⟩
        · have hs := among_end names nm.data.toList k (by omega)
          rw [HR.out] at hs
          have HR2 := hide hs
          have hlt2 : ¬ (k : Int) < names.length := by omega
          clear hs HR hlt
          go_wp2
          go_ret
          exact ⟨ret_bool HR2.out.symm, bb⟩
  · have e0 := ne_int sp 0 h0
    clear h0
    simp only [e0, Bool.false_and]
    obtain ⟨a, c, rfl⟩ := isW_form hW
    have HW := hide hW
    clear hW
    go_enter Try.func34, Try.ntmps34
    go_wp2
    go_loopw [5] (fun i wr => ∃ k : Nat, k ≤ names.length ∧ i = .int .i64 k ∧ Hid (Below (w.alloc (.cells #[.int .i64 id, .int .i64 sp, .string nm] 24)).heap.size (w.alloc (.cells #[.int .i64 id, .int .i64 sp, .string nm] 24)) wr)) (fun i _ => names.length - (intOf i).toNat)
    case atStart => exact ⟨0, Nat.zero_le _, rfl, hide (Below.refl _ _)⟩
    case round =>
      obtain ⟨k, hk, rfl, BW⟩ := hrel
      obtain ⟨bb, ⟨c0, c1, c2⟩, -⟩ := HX.out _ BW.out
      by_cases hlt : k < names.length
      · have hlt2 : (k : Int) < names.length := by omega
        clear hlt bb
        go_wp2_with fail
        go_region
        all_goals (try go_wp2)
        all_goals go_roundw
        case rel => exact ⟨k + 1, by omega, by go_num, hide BW.out.drew⟩
        case measure => simp [intOf]; omega
      · have hlt2 : ¬ (k : Int) < names.length := by omega
        clear hlt
        go_wp2
        go_ret
        exact ⟨rfl, bb⟩
end Go.Proofs.Ytfknhpkpenhflaa
