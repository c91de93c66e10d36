/- What the program's Get answers, of whatever list of attributes; nothing that was there is written. -/
import Derived.Test.YtlfjmgniflkapaaDoorRdQ
set_option linter.unusedVariables false
set_option linter.unusedSimpArgs false
namespace Go.Proofs.YtlfjmgniflkapaaDoor
open Go.RowKit

set_option maxHeartbeats 1000000 in
theorem pget_any (v : Value) (aa : AttrL) (hl : aa.length ≤ 1000000) (n : ByteArray) (w : World) (hA : IsA w v aa) :
    Calls Tryd.prog 8 #[v, .string n] w fun e w' => e = .returned (.tuple #[.string (gotS (getA aa n.data.toList)), .bool (getA aa n.data.toList).isSome]) ∧ Below w.heap.size w w' := by
  have HM := hide (getA_miss aa n.data.toList)
  have HH := hide (getA_hit aa n.data.toList)
  rcases hA with ⟨rfl, rfl⟩ | ⟨b, o, cap, rfl, hcap, hcs⟩
  · have e : getA [] n.data.toList = none := rfl
    rw [e]
    clear HM HH
    go_enter Tryd.func8, Tryd.ntmps8
    go_wp2
    go_loop [10] (fun ti => ti = .int .i64 0) (fun _ => 0)
    case atStart => rfl
    case round =>
      subst hrel
      go_wp2
      go_ret2
      exact ⟨rfl, Below.refl _ _⟩
  · generalize hG : getA aa n.data.toList = G
    have HG := hide hG
    have HCS := hide hcs
    clear hG hcs
    go_enter Tryd.func8, Tryd.ntmps8
    go_wp2
    go_loopw [10] (fun ti wr => ∃ k : Nat, k ≤ aa.length ∧ ti = .int .i64 (k : Int) ∧ Below w.heap.size w wr ∧ Hid (getA (aa.drop k) n.data.toList = G)) (fun ti _ => aa.length - (intOf ti).toNat)
    case atStart => exact ⟨0, by omega, rfl, Below.refl _ _, HG⟩
    case round =>
      obtain ⟨k, hk, rfl, bw, HR⟩ := hrel
      by_cases hlt : k < aa.length
      · have hlt2 : (k : Int) < aa.length := by omega
        obtain ⟨c1, c2⟩ := HCS.out k hlt
        have d1 : wr.cell? ⟨b, o + k * 2, none⟩ = some (.string ⟨aa[k].1.toArray⟩) := by rw [bw.cell (cell_lt c1)]; exact c1
        have d2 : wr.cell? ⟨b, o + k * 2 + 1, none⟩ = some (.string ⟨aa[k].2.toArray⟩) := by rw [bw.cell (cell_lt c2)]; exact c2
        have heq : ((⟨aa[k].1.toArray⟩ : ByteArray).toList == n.toList) = (aa[k].1 == n.data.toList) := by rw [Lib.toList_data, Lib.toList_data, str_data]
        clear c1 c2
        cases hB : (aa[k].1 == n.data.toList) with
        | false =>
          rw [hB] at heq
          have HR2 : Hid (getA (aa.drop (k + 1)) n.data.toList = G) := hide (by rw [← HM.out k hlt hB]; exact HR.out)
          have HBW := hide bw
          generalize (⟨aa[k].1.toArray⟩ : ByteArray) = x at *
          generalize (⟨aa[k].2.toArray⟩ : ByteArray) = y at *
          clear hB HR bw
          go_wp2
          go_roundw
          case rel => exact ⟨k + 1, by omega, by go_num, HBW.out.alloc HBW.out.size _, HR2⟩
          case measure => simp [intOf]; omega
        | true =>
          rw [hB] at heq
          have HR2 : Hid (G = some aa[k].2) := hide (by rw [← HH.out k hlt hB]; exact HR.out.symm)
          have HY : Hid ((⟨aa[k].2.toArray⟩ : ByteArray) = gotS G) := hide (by rw [HR2.out]; rfl)
          have HS : Hid (G.isSome = true) := hide (by rw [HR2.out]; rfl)
          have HBW := hide bw
          generalize (⟨aa[k].1.toArray⟩ : ByteArray) = x at *
          generalize (⟨aa[k].2.toArray⟩ : ByteArray) = y at *
          clear hB HR HR2 bw
          go_wp2
          go_ret2
          refine ⟨?_, HBW.out.alloc HBW.out.size _⟩
          rw [HS.out, ← HY.out]
          rfl
      · have hlt2 : ¬ (k : Int) < aa.length := by omega
        have HR2 : Hid (G = none) := hide (by rw [← HR.out, List.drop_eq_nil_of_le (by omega)]; rfl)
        have HBW := hide bw
        clear HR bw
        go_wp2
        go_ret2
        refine ⟨?_, HBW.out⟩
        rw [HR2.out]
        rfl
end Go.Proofs.YtlfjmgniflkapaaDoor
