/- What the document's own Same answers of a token and itself: true; nothing that was there is written. -/
import Derived.Test.YtlfjmgniflkapaaDoorWalkO4
set_option linter.unusedVariables false
set_option linter.unusedSimpArgs false
namespace Go.Proofs.YtlfjmgniflkapaaDoor
open Go.RowKit

set_option maxHeartbeats 1000000 in
theorem same_self (t : Tok) (va vb : Value) (ha : t.attrs.length ≤ 1000000) (w : World) (hA : IsA w va t.attrs) (hB : IsA w vb t.attrs) :
    Calls Tryd.prog 13 #[tokV t va, tokV t vb] w fun e w' => e = .returned (.bool true) ∧ Below w.heap.size w w' := by
  have HAT := hide (fun W (hb0 : Below w.heap.size w W) => attrs_any va vb t.attrs t.attrs ha ha W (hA.below hb0) (hB.below hb0))
  obtain ⟨a1, c1, rfl⟩ := isA_form hA
  obtain ⟨a2, c2, rfl⟩ := isA_form hB
  clear hA hB
  unfold tokV
  generalize (⟨t.name.toArray⟩ : ByteArray) = x1 at *
  generalize (⟨t.text.toArray⟩ : ByteArray) = x2 at *
  generalize t.closed = cl at *
  generalize t.kind = kd at *
  go_enter Tryd.func13, Tryd.ntmps13
  go_wp2_with fail
  refine (HAT.out _ ((below_alloc w _).alloc (below_alloc w _).size _)).mono ?_
  rintro e w1 ⟨rfl, b1⟩
  rw [show (t.attrs == t.attrs) = true from by simp]
  obtain ⟨hcell, hfz⟩ := bcell b1
  have hcA := fun o => hcell w.heap.size o (by simp; omega)
  have hcB := fun o => hcell (w.heap.size + 1) o (by simp)
  have HB1 := hide b1
  clear b1 hcell hfz
  go_wp2_with fail
  go_ret
  exact ⟨rfl, ((below_alloc w _).alloc (below_alloc w _).size _).trans (HB1.out.mono (by simp; omega))⟩
end Go.Proofs.YtlfjmgniflkapaaDoor
