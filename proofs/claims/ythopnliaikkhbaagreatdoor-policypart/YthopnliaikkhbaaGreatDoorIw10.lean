/- A list of texts lies there; slices.Index and slices.Contains; how it comes in. -/
import Derived.Test.YthopnliaikkhbaaGreatDoorLt10
import Derived.WalkKit
import Derived.ProofKit
import Derived.OpenShut
import Derived.ShutString
import Derived.ChangeOld
import Derived.Below
import Derived.Lay
import Derived.LaidMore
import Derived.Deep.DeepHandedRow
import Derived.Lib.SmallJoins
set_option linter.unusedVariables false
set_option linter.unusedSimpArgs false
set_option maxRecDepth 4000
namespace Go.Proofs.YthopnliaikkhbaaGreatDoor
open Go.RowKit

def cellsOf (l : List (List UInt8)) : Array Value := (l.map fun o => Value.string ⟨o.toArray⟩).toArray
theorem built_cell (w : World) (l : List (List UInt8)) (j : Nat) (hj : j < l.length) : (w.alloc (.cells (cellsOf l) 9)).cell? ⟨w.heap.size, j, none⟩ = some (.string ⟨(l[j]).toArray⟩) := by
  have : (cellsOf l)[j]? = some (.string ⟨(l[j]).toArray⟩) := by
    unfold cellsOf
    simp [List.getElem?_eq_getElem hj]
  simp [go_sem, this]
theorem below_alloc (w : World) (o : Obj) : Below w.heap.size w (w.alloc o) := (Below.refl _ w).alloc (Nat.le_refl _) _
/-- A list of texts lies there. -/
def IsW (w : World) (v : Value) (l : List (List UInt8)) : Prop := (l = [] ∧ ∃ a c, v = .slice a 0 c) ∨ ∃ b o cap, v = .slice (some ⟨b, o, none⟩) l.length cap ∧ ∀ j (hj : j < l.length), w.cell? ⟨b, o + j, none⟩ = some (.string ⟨(l[j]).toArray⟩)
theorem IsW.below {w W : World} {v : Value} {l : List (List UInt8)} (h : IsW w v l) (hb : Below w.heap.size w W) : IsW W v l := by
  rcases h with h | ⟨b, o, cap, rfl, hc⟩
  · exact .inl h
  · exact .inr ⟨b, o, cap, rfl, fun j hj => by rw [hb.cell (cell_lt (hc j hj))]; exact hc j hj⟩
theorem IsW.drew {w : World} {v : Value} {l : List (List UInt8)} (h : IsW w v l) : IsW w.drew v l := h
theorem isW_built (w : World) (l : List (List UInt8)) : IsW (w.alloc (.cells (cellsOf l) 9)) (.slice (some ⟨w.heap.size, 0, none⟩) l.length l.length) l :=
  .inr ⟨_, _, _, rfl, fun j hj => by rw [Nat.zero_add]; exact built_cell w l j hj⟩
set_option maxHeartbeats 1000000 in
theorem index_any (n : ByteArray) (l : List (List UInt8)) (v : Value) (w : World) (hl : l.length ≤ 1000000) (hW : IsW w v l) :
    Calls Tryz.prog 68 #[v, .string n] w fun e w' => (∃ z : Int, e = .returned (.int .i64 z) ∧ decide (0 ≤ z) = amongL l n.data.toList) ∧ w' = w := by
  rcases hW with ⟨rfl, a, c, rfl⟩ | ⟨b, o, cap, rfl, hc⟩
  · go_enter Tryz.func68, Tryz.ntmps68
    go_wp2
    go_loop [8] (fun i => i = .int .i64 0) (fun i => 0)
    case atStart => rfl
    case round =>
      subst hrel
      go_wp2
      go_ret
      exact ⟨⟨_, rfl, rfl⟩, rfl⟩
  · have HC := hide hc
    clear hc
    generalize hV : amongL l n.data.toList = V
    have HV := hide hV
    clear hV
    go_enter Tryz.func68, Tryz.ntmps68
    go_wp2
    go_loop [8] (fun i => ∃ k : Nat, k ≤ l.length ∧ i = .int .i64 k ∧ Hid (amongL (l.drop k) n.data.toList = V)) (fun i => l.length - (intOf i).toNat)
    case atStart => exact ⟨0, Nat.zero_le _, rfl, hide (by rw [List.drop_zero]; exact HV.out)⟩
    case round =>
      obtain ⟨k, hk, rfl, HR⟩ := hrel
      by_cases hlt : k < l.length
      · have hcell := HC.out k hlt
        have he := str_eq n l[k]
        have hs := among_step l n.data.toList k hlt
        rw [HR.out] at hs
        have hlt2 : (k : Int) < l.length := by omega
        cases hb : n.data.toList == l[k]
        · rw [hb] at he hs
          rw [Bool.false_or] at hs
          have HR2 := hide hs.symm
          clear hs hb HR
          generalize l[k] = x at *
          clear hlt
          go_wp2
          go_round
          case rel => exact ⟨k + 1, by omega, by go_num, HR2⟩
          case measure => simp [intOf]; omega
        · rw [hb] at he hs
          rw [Bool.true_or] at hs
          have HR2 := hide hs
          clear hs hb HR
          generalize l[k] = x at *
          clear hlt
          go_wp2
          go_ret
          exact ⟨⟨_, rfl, by rw [HR2.out]; exact decide_eq_true (by omega)⟩, rfl⟩
      · have hs := among_end l n.data.toList k (by omega)
        rw [HR.out] at hs
        have HR2 := hide hs
        have hlt2 : ¬ (k : Int) < l.length := by omega
        clear hs HR hlt
        go_wp2
        go_ret
        exact ⟨⟨_, rfl, by rw [HR2.out]; rfl⟩, rfl⟩
set_option maxHeartbeats 1000000 in
theorem contains_any (n : ByteArray) (l : List (List UInt8)) (v : Value) (w : World) (hl : l.length ≤ 1000000) (hW : IsW w v l) :
    Calls Tryz.prog 48 #[v, .string n] w fun e w' => e = .returned (.bool (amongL l n.data.toList)) ∧ w' = w := by
  have H := hide (index_any n l v w hl hW)
  generalize amongL l n.data.toList = V at *
  clear hW
  go_enter Tryz.func48, Tryz.ntmps48
  go_wp2_with fail
  refine H.out.mono ?_
  rintro e w1 ⟨⟨z, rfl, hz⟩, rfl⟩
  have HZ := hide hz
  clear hz
  go_wp2
  go_ret
  exact ⟨ret_bool HZ.out, rfl⟩
end Go.Proofs.YthopnliaikkhbaaGreatDoor
