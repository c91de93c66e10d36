/- What the document's own upTo answers; nothing that was there is written. -/
import Derived.Test.YtlfjmgniflkapaaGreatDoorWalkA4
import Derived.Deep.QuietTactic
import Derived.BigQuiet
set_option linter.unusedVariables false
set_option linter.unusedSimpArgs false
namespace Go.Proofs.YtlfjmgniflkapaaGreatDoor
open Go.RowKit

def uptoB (O : List UInt8) (c : UInt8) : Bool := !(isSp c || O.contains c)
theorem dropU_step (O : List UInt8) (s : ByteArray) (k : Nat) (h : k < s.size) : (s.data.toList.drop k).dropWhile (uptoB O) = if uptoB O s[k] then (s.data.toList.drop (k + 1)).dropWhile (uptoB O) else s.data.toList.drop k := by
  rw [drop_cons s k h, List.dropWhile_cons]
theorem contains_at (o : ByteArray) (j : Nat) (h : j < o.size) (c : UInt8) (e : o[j] = c) : o.data.toList.contains c = true := by
  rw [List.contains_iff_mem, ← e]
  exact List.getElem_mem (by rw [← size_list]; exact h)
theorem contains_none (o : ByteArray) (c : UInt8) (h : ∀ j (hj : j < o.size), o[j] ≠ c) : o.data.toList.contains c = false := by
  cases hc : o.data.toList.contains c
  · rfl
  · obtain ⟨j, hj, e⟩ := List.getElem_of_mem (List.contains_iff_mem.1 hc)
    exact absurd e (h j (by rw [size_list]; exact hj))

set_option maxHeartbeats 2000000 in
theorem upTo_any (s o : ByteArray) (hs : s.size ≤ 1000000) (ho : o.size ≤ 1000) (p : Nat) (hp : p ≤ s.size) (w : World) :
    Calls Tryz.prog 55 #[.string s, .int .i64 (p : Int), .string o] w fun e w' => e = .returned (.int .i64 (s.size - ((s.data.toList.drop p).dropWhile (uptoB o.data.toList)).length : Nat)) ∧ Below w.heap.size w w' := by
  generalize hV : (s.data.toList.drop p).dropWhile (uptoB o.data.toList) = V
  have HV := hide hV
  have HLEN : Hid (∀ k, k ≤ s.size → (s.data.toList.drop k).length = s.size - k) := hide (fun k _ => by rw [List.length_drop, ← size_list])
  have HSP := hide rspace_any
  clear hV
  go_enter Tryz.func55, Tryz.ntmps55
  go_wp2
  go_loopw [1] (fun i wr => ∃ k : Nat, k ≤ s.size ∧ i = .int .i64 k ∧ Below w.heap.size w wr ∧ Hid ((s.data.toList.drop k).dropWhile (uptoB o.data.toList) = V)) (fun i _ => s.size - (intOf i).toNat)
  case atStart => exact ⟨p, hp, rfl, Below.refl _ _, HV⟩
  case round =>
    obtain ⟨k, hk, rfl, bw, HR⟩ := hrel
    by_cases hlt : k < s.size
    · have hst := dropU_step o.data.toList s k hlt
      rw [HR.out] at hst
      have hlt2 : (k : Int) < s.size := by omega
      have HQ := hide (HSP.out s[k].toNat)
      have HU : Hid (uptoB o.data.toList s[k] = !(spaceN s[k].toNat || o.data.toList.contains s[k])) := hide rfl
      have HS := hide hst
      clear hst HR
      generalize hB : spaceN s[k].toNat = B at *
      clear hB
      go_wp2_with fail
      refine (HQ.out _).mono ?_
      rintro e w1 ⟨rfl, rfl⟩
      cases B
      · go_wp2
        go_loopw [7] (fun tj wr2 => ∃ j : Nat, j ≤ o.size ∧ tj = .int .i64 j ∧ Below w.heap.size w wr2 ∧ Hid (∀ i (hi : i < o.size), i < j → o[i] ≠ s[k])) (fun tj _ => o.size - (intOf tj).toNat)
        case atStart => exact ⟨0, by omega, rfl, bw, hide (fun i hi h => by omega)⟩
        case round =>
          obtain ⟨j, hj, rfl, bw2, HJ⟩ := hrel
          by_cases hjl : j < o.size
          · have hjl2 : (j : Int) < o.size := by omega
            by_cases hc : o[j] = s[k]
            · have hcc := contains_at o j hjl s[k] hc
              have HR2 : Hid (V = s.data.toList.drop k) := hide (by rw [HS.out, HU.out, hcc]; rfl)
              have heq : ((o[j].toNat : Int) == (s[k].toNat : Int)) = true := beq_iff_eq.2 (by rw [hc])
              clear hc hcc HJ HS HU
              go_wp2
              go_region
              go_wp2
              go_ret
              refine ⟨ret_int ?_, bw2.drew⟩
              rw [HR2.out, HLEN.out k hk]
              omega
            · have heq : ((o[j].toNat : Int) == (s[k].toNat : Int)) = false := beq_eq_false_iff_ne.2 (fun e => hc (UInt8.toNat_inj.1 (by omega)))
              have HJ2 : Hid (∀ i (hi : i < o.size), i < j + 1 → o[i] ≠ s[k]) := hide (fun i hi h => by
                by_cases hij : i = j
                · subst hij; exact hc
                · exact HJ.out i hi (by omega))
              clear hc HJ
              go_wp2
              go_region
              go_wp2
              go_roundw
              case rel => exact ⟨j + 1, by omega, by go_num, bw2.drew, HJ2⟩
              case measure => simp [intOf]; omega
          · have hjl2 : ¬ (j : Int) < o.size := by omega
            have hcc := contains_none o s[k] (fun i hi => HJ.out i hi (by omega))
            have HR2 : Hid ((s.data.toList.drop (k + 1)).dropWhile (uptoB o.data.toList) = V) := hide (by rw [HS.out, HU.out, hcc]; rfl)
            clear hcc HJ HS HU
            go_wp2
            go_roundw
            case rel => exact ⟨k + 1, by omega, by go_num, bw2, HR2⟩
            case measure => simp [intOf]; omega
      · have HR2 : Hid (V = s.data.toList.drop k) := hide (by rw [HS.out, HU.out]; rfl)
        clear HS HU
        go_wp2
        go_ret
        refine ⟨ret_int ?_, bw⟩
        rw [HR2.out, HLEN.out k hk]
        omega
    · have HR2 : Hid (V = []) := hide (by rw [← HR.out, drop_end s k (by omega)]; rfl)
      have hlt2 : ¬ (k : Int) < s.size := by omega
      have hk2 : s.size ≤ k := by omega
      clear HR hlt
      go_wp2
      go_ret
      refine ⟨ret_int ?_, bw⟩
      rw [HR2.out]
      simp
      omega
end Go.Proofs.YtlfjmgniflkapaaGreatDoor
