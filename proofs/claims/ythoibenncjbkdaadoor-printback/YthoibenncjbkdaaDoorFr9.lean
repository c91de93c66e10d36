/- What the program's Fragment answers, of whatever nodes; nothing that was there is written. -/
import Derived.Test.YthoibenncjbkdaaDoorEm9
set_option linter.unusedVariables false
set_option linter.unusedSimpArgs false
set_option maxRecDepth 4000
namespace Go.Proofs.YthoibenncjbkdaaDoor
open Go.RowKit

theorem list_any : ∀ {k : Nat} (ts : List (S5.NT k)), ListOk ts
  | 0, ts => by
    intro Bk B b acc va raw w hP hB hK hs hl
    obtain ⟨rfl, h2⟩ := S5.isK_up hK
    exact list_step ([] : List (S5.NT 1)) (fun i hi => by simp at hi) Bk B b acc va raw w hP hB h2 (Nat.zero_le _) (by rw [sizeTs_nil] at hl ⊢; exact hl)
  | k + 1, ts => list_step ts fun i hi => elem_step ts[i] (list_any _)
set_option maxHeartbeats 1000000 in
theorem fragment_any {k : Nat} (ts : List (S5.NT k)) (Bk : Nat → Prop) (va : Value) (w : World) (hB : ∀ j, Bk j → j < w.heap.size) (hK : S5.IsK Bk w ts va) (hs : sizeTs ts ≤ 1000000) :
    Calls Tryd.prog 7 #[va] w fun e w' => e = .returned (.string ⟨(printTs false ts).toArray⟩) ∧ Below w.heap.size w w' := by
  have HL := hide (list_any ts Bk w.heap.size w.heap.size [] va false _ (Pr.fresh w) hB (isK_keepB hB hK (S5.below_alloc w _)) hs (by rw [List.length_nil]; omega))
  obtain ⟨a1, c1, rfl⟩ := S5.isK_form hK
  clear hK hB
  generalize printTs false ts = out at *
  go_enter Tryd.func7, Tryd.ntmps7
  go_wp2_with fail
  refine HL.out.mono ?_
  rintro e w1 ⟨rfl, h1⟩
  have HW := hide h1
  clear h1
  go_wp2_with fail
  refine (string_any w.heap.size w.heap.size out _ HW.out.1.1 HW.out.1.2).mono ?_
  rintro e w2 ⟨rfl, b2⟩
  go_wp2
  go_ret
  exact ⟨rfl, ((S5.below_alloc w _).trans HW.out.2.1).trans b2⟩
end Go.Proofs.YthoibenncjbkdaaDoor
