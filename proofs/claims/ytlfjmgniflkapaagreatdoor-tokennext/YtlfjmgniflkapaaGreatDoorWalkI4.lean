/- What the document's own Get answers, of whatever list of attributes; the world stays aa it was. -/
import Derived.Test.YtlfjmgniflkapaaGreatDoorTokD
set_option linter.unusedVariables false
set_option linter.unusedSimpArgs false
namespace Go.Proofs.YtlfjmgniflkapaaGreatDoor
open Go.RowKit

set_option maxHeartbeats 1000000 in
theorem get_any (v : Value) (aa : AttrL) (hl : aa.length ≤ 1000000) (n : ByteArray) (w : World) (hA : IsA w v aa) :
    Calls Tryz.prog 58 #[v, .string n] w fun e w' => e = .returned (.tuple #[.string (gotS (getA aa n.data.toList)), .bool (getA aa n.data.toList).isSome]) ∧ w' = w := by
  have HM := hide (getA_miss aa n.data.toList)
  have HH := hide (getA_hit aa n.data.toList)
  rcases hA with ⟨rfl, rfl⟩ | ⟨b, o, cap, rfl, hcap, hcs⟩
  · have e : getA [] n.data.toList = none := rfl
    rw [e]
    clear HM HH
    go_enter Tryz.func58, Tryz.ntmps58
    go_wp2
    go_loop [6] (fun ti => ti = .int .i64 0) (fun _ => 0)
    case atStart => rfl
    case round =>
      subst hrel
      go_wp2
      go_ret2
      exact ⟨rfl, rfl⟩
  · generalize hG : getA aa n.data.toList = G
    have HG := hide hG
    have HCS := hide hcs
    clear hG hcs
    go_enter Tryz.func58, Tryz.ntmps58
    go_wp2
    go_loop [6] (fun ti => ∃ k : Nat, k ≤ aa.length ∧ ti = .int .i64 (k : Int) ∧ Hid (getA (aa.drop k) n.data.toList = G)) (fun ti => aa.length - (intOf ti).toNat)
    case atStart => exact ⟨0, by omega, rfl, HG⟩
    case round =>
      obtain ⟨k, hk, rfl, HR⟩ := hrel
      by_cases hlt : k < aa.length
      · have hlt2 : (k : Int) < aa.length := by omega
        obtain ⟨c1, c2⟩ := HCS.out k hlt
        have heq : ((⟨aa[k].1.toArray⟩ : ByteArray).toList == n.toList) = (aa[k].1 == n.data.toList) := by rw [Lib.toList_data, Lib.toList_data, str_data]
        cases hB : (aa[k].1 == n.data.toList) with
        | false =>
          rw [hB] at heq
          have HR2 : Hid (getA (aa.drop (k + 1)) n.data.toList = G) := hide (by rw [← HM.out k hlt hB]; exact HR.out)
          generalize (⟨aa[k].1.toArray⟩ : ByteArray) = x at *
          generalize (⟨aa[k].2.toArray⟩ : ByteArray) = y at *
          clear hB HR
          go_wp2
          go_round
          case rel => exact ⟨k + 1, by omega, by go_num, HR2⟩
          case measure => simp [intOf]; omega
        | true =>
          rw [hB] at heq
          have HR2 : Hid (G = some aa[k].2) := hide (by rw [← HH.out k hlt hB]; exact HR.out.symm)
          have HY : Hid ((⟨aa[k].2.toArray⟩ : ByteArray) = gotS G) := hide (by rw [HR2.out]; rfl)
          have HS : Hid (G.isSome = true) := hide (by rw [HR2.out]; rfl)
          generalize (⟨aa[k].1.toArray⟩ : ByteArray) = x at *
          generalize (⟨aa[k].2.toArray⟩ : ByteArray) = y at *
          clear hB HR HR2
          go_wp2
          go_ret2
          refine ⟨?_, rfl⟩
          rw [HS.out, ← HY.out]
          rfl
      · have hlt2 : ¬ (k : Int) < aa.length := by omega
        have HR2 : Hid (G = none) := hide (by rw [← HR.out, List.drop_eq_nil_of_le (by omega)]; rfl)
        clear HR
        go_wp2
        go_ret2
        refine ⟨?_, rfl⟩
        rw [HR2.out]
        rfl
end Go.Proofs.YtlfjmgniflkapaaGreatDoor
