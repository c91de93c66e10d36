import Derived.Test.YtfohijnkeefcfaaGreatDoorKn15
import Derived.RangeFuncFrom
set_option linter.unusedVariables false
set_option linter.unusedSimpArgs false
set_option maxRecDepth 100000
set_option maxHeartbeats 8000000
namespace Go.Proofs.YtfohijnkeefcfaaGreatDoor
open Go.RowKit
open S5 (IsA PV PG PA PT OwnB)
def Turned (w W : World) : Prop := w.heap.size <= W.heap.size /\ ∀ (k : Nat) cur t mk, w.heap[k]? = some (Obj.cells cur t mk) -> W.heap[k]? = w.heap[k]?
theorem cell_block {w : World} {a : Addr} {v : Value} (h : w.cell? a = some v) : ∃ cur t mk, w.heap[a.block]? = some (Obj.cells cur t mk) := by
  unfold World.cell? at h
  split at h
  · rename_i c t mk he
    exact ⟨c, t, mk, he⟩
  · cases h
theorem Turned.block {w W : World} (h : Turned w W) {a : Addr} {v : Value} (hc : w.cell? a = some v) : W.heap[a.block]? = w.heap[a.block]? := by
  obtain ⟨cur, t, mk, e⟩ := cell_block hc
  exact h.2 _ _ _ _ e
theorem Turned.cell {w W : World} (h : Turned w W) {a : Addr} {v : Value} (hc : w.cell? a = some v) : W.cell? a = some v :=
  (World.cell?_of_block (w := w) (h.block hc)).trans hc
theorem Turned.isA {w W : World} (h : Turned w W) {v : Value} {aa : S5.AttrL} (hA : IsA w v aa) : IsA W v aa := by
  rcases hA with hA | ⟨b, o, cap, h1, h2, h3⟩
  · exact .inl hA
  · exact .inr ⟨b, o, cap, h1, h2, fun j hj => ⟨h.cell (h3 j hj).1, h.cell (h3 j hj).2⟩⟩
theorem Turned.owns {w W : World} (h : Turned w W) {base : Nat} {e : TypeId} {size : Nat} {v : Value} {n : Nat} {xs : List Value} (ho : w.ownsRow base e size v n xs) : W.ownsRow base e size v n xs := by
  obtain ⟨h1, h2 | ⟨g, cap, cur, e1, e2, e3, e4⟩⟩ := ho
  · exact ⟨h1, .inl h2⟩
  · exact ⟨h1, .inr ⟨g, cap, cur, e1, e2, (h.2 _ _ _ _ e3).trans e3, e4⟩⟩
theorem Turned.ownB {w W : World} (h : Turned w W) {v : Value} {l : List UInt8} (ho : OwnB w v l) : OwnB W v l := by
  rcases ho with ho | ⟨g, cap, cur, mk, e1, e2, e3, e4⟩
  · exact .inl ho
  · have hg := h.2 _ _ _ _ e2
    exact .inr ⟨g, cap, cur, mk, e1, hg.trans e2, fun j hj => by rw [World.frozen?_of_block (a := ⟨g, j, none⟩) hg]; exact e3 j hj, e4⟩
theorem Turned.newM {w W : World} (h : Turned w W) {B : Nat} {v : Value} {l : List S7.MV} (hm : S7.NewM B w v l) : S7.NewM B W v l := by
  rcases hm with hm | ⟨b, o, cap, e1, e2, e3, e4, e5⟩
  · exact .inl hm
  · refine .inr ⟨b, o, cap, e1, e2, e3, fun j hj => ⟨h.cell (e4 j hj).1, h.cell (e4 j hj).2.1, h.cell (e4 j hj).2.2⟩, fun j hj i hi => ?_⟩
    rw [World.frozen?_of_block (w := w) (a := ⟨b, o + j * 3 + i, none⟩) (h.block (a := ⟨b, o + j * 3, none⟩) (e4 j hj).1)]
    exact e5 j hj i hi
theorem Turned.pv {w W : World} (h : Turned w W) {A : Nat -> Prop} {pb g cap : Nat} {rs : List S5.RV} (hp : PV A w pb g cap rs) : PV A W pb g cap rs where
  tree := h.cell hp.tree
  treeF := by rw [World.frozen?_of_block (w := w) (a := ⟨pb, 0, none⟩) (h.block hp.tree)]; exact hp.treeF
  row := h.owns hp.row
  kid := fun i hi => h.owns (hp.kid i hi)
  att := fun i hi => h.isA (hp.att i hi)
  attL := fun i hi k e => Nat.lt_of_lt_of_le (hp.attL i hi k e) h.1
  txt := fun i hi => h.ownB (hp.txt i hi)
  sep := hp.sep
  inA := hp.inA
theorem Turned.pt {w W : World} (h : Turned w W) {A : Nat -> Prop} {pb : Nat} {T : S5.TR} (hp : PT A w pb T) : PT A W pb T := by
  obtain ⟨g, cap, rs, h1, h2⟩ := hp
  exact ⟨g, cap, rs, h1, h.pv h2⟩
theorem IsB.turned {O : Nat -> Prop} {n : Nat} {w W : World} {bb : Nat} {s : PB} (hB : IsB O n w bb s) (h : Turned w W) : IsB O n W bb s := by
  obtain ⟨pb, og, cap, mv, A, hv⟩ := hB
  have h0 := hv.cs 0 (by omega)
  refine ⟨pb, og, cap, mv, A, ?_⟩
  exact
    { cs := fun j hj => by
        have h1 := hv.cs j hj
        rw [World.cell?_of_block (w := w) (a := ⟨bb, j, none⟩) (h.block (a := ⟨bb, 0, none⟩) h0)]
        exact h1
      fz := fun j => by
        rw [World.frozen?_of_block (w := w) (a := ⟨bb, j, none⟩) (h.block (a := ⟨bb, 0, none⟩) h0)]
        exact hv.fz j
      tree := h.pt hv.tree
      row := h.owns hv.row
      mrk := h.newM hv.mrk
      mO := hv.mO
      att := fun m hm => h.isA (hv.att m hm)
      attL := hv.attL
      nL := Nat.le_trans hv.nL h.1
      AO := fun k hk => ⟨(hv.AO k hk).1, Nat.lt_of_lt_of_le (hv.AO k hk).2 h.1⟩
      bO := hv.bO
      gO := hv.gO
      bA := hv.bA
      gA := hv.gA
      bg := hv.bg }
theorem turned_of {w W : World} {row : Option Nat} (hg : w.grownBy W row) (hr : ∀ r, row = some r -> ∃ o : Obj, w.heap[r]? = some o /\ o.isCells = false) : Turned w W := by
  obtain ⟨g1, g2, g3, g4, g5⟩ := hg
  refine ⟨g4, fun k cur t mk e => g5 k (Array.getElem?_eq_some_iff.1 e).1 (fun hk => ?_)⟩
  obtain ⟨o, ho, hc⟩ := hr k hk.symm
  rw [e] at ho
  cases ho
  cases hc
end Go.Proofs.YtfohijnkeefcfaaGreatDoor
