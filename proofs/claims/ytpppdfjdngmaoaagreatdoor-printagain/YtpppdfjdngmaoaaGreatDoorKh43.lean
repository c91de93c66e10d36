import Derived.Test.YtpppdfjdngmaoaaGreatDoorKh00
import Derived.Test.YtpppdfjdngmaoaaGreatDoorKh09
import Derived.Test.YtpppdfjdngmaoaaGreatDoorKh15
import Derived.Test.YtpppdfjdngmaoaaGreatDoorKh24
import Derived.Test.YtpppdfjdngmaoaaGreatDoorKh36
import Derived.Test.YtpppdfjdngmaoaaGreatDoorKh42
import Derived.Shelf.SlSortCmp.WholeK
import Derived.Shelf.Small.Bits
import Derived.Test.YtpppdfjdngmaoaaGreatDoorProg
import Derived.Deep.RegionHeld2
import Derived.Laws.IdiomCopy
import Derived.Deep.RegionLaw
import Derived.Lib.SliceRun
set_option linter.unusedVariables false
set_option linter.unusedSimpArgs false
set_option maxRecDepth 100000
set_option maxHeartbeats 8000000
namespace Go.Proofs.YtpppdfjdngmaoaaGreatDoor
open Go.RowKit
open G5 (NT IsK hide)
theorem ref_same {k j : Nat} (ts : List (NT k)) (us : List (NT j)) (h1 : ts.length ≤ 9223372036854775807) (h2 : us.length ≤ 9223372036854775807) (o1 : G5.OkTs ts) (o2 : G5.OkTs us) (B : Nat → Prop) (va vb : Value) (w : World) (hB : ∀ k, B k → k < w.heap.size) (hK : IsK B w ts va) (hK2 : IsK B w us vb) :
    Calls Tryz.prog 12 #[va, vb] w fun e w' => e = .returned (.bool (G5.eqTs ts us)) ∧ Below w.heap.size w w' := by
  have H := hide (G5.sames_step2 ts us h1 h2 (fun i h3 h4 => G5.same_two _ _ (o1 _ (List.getElem_mem h3)) (o2 _ (List.getElem_mem h4))) B va vb w hB hK hK2)
  obtain ⟨a1, c1, rfl⟩ := G8.isK_len hK
  obtain ⟨a2, c2, rfl⟩ := G8.isK_len hK2
  generalize G5.eqTs ts us = R at *
  clear hK hK2 o1 o2 hB h1 h2
  go_enter Tryz.func12, Tryz.ntmps12
  go_wp2_with fail
  refine H.out.mono ?_
  rintro e x1 ⟨rfl, b1⟩
  go_wp2
  go_ret
  exact ⟨rfl, b1⟩
theorem isK_up9 {w W : World} {k : Nat} {ts : List (NT k)} {v : Value} (h : IsK (fun k => k < w.heap.size) w ts v) (hb : Below w.heap.size w W) : IsK (fun k => k < w.heap.size) W ts v := h.below (fun _ h => h) hb
theorem env_below {w W : World} (h : S4.Env w) (hb : Below w.heap.size w W) : S4.Env W := by
  obtain ⟨ho, m, hm⟩ := h
  exact ⟨ho.below hb, m, (hb.cell (S4.cell_lt hm)).trans hm⟩
end Go.Proofs.YtpppdfjdngmaoaaGreatDoor
