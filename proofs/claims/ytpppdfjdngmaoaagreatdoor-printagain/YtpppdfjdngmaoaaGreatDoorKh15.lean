import Derived.Test.YtpppdfjdngmaoaaGreatDoorKh00
import Derived.Test.YtpppdfjdngmaoaaGreatDoorProg
import Derived.WalkKit
import Derived.WalkSpells
import Derived.WalkLawsBesides
import Derived.Lib.IndexBytes
import Derived.Laws.AppendOwn
import Derived.Deep.AppendSrc
import Derived.Deep.Slices
import Derived.Maps.AppendAt
import Derived.Below
set_option linter.unusedVariables false
set_option linter.unusedSimpArgs false
set_option maxRecDepth 100000
set_option maxHeartbeats 8000000
namespace Go.Proofs.YtpppdfjdngmaoaaGreatDoor.S7
open Go.RowKit
theorem hide {p : Prop} (h : p) : Hid p := h
theorem ret_bool {a b : Bool} (h : a = b) : Ending.returned (.bool a) = .returned (.bool b) := by rw [h]
theorem ret_int {k : IntKind} {a b : Int} (h : a = b) : Ending.returned (.int k a) = .returned (.int k b) := by rw [h]
theorem str_data (l : List UInt8) : (⟨l.toArray⟩ : ByteArray).data.toList = l := by simp
theorem cell_lt {w : World} {a : Addr} {v : Value} (h : w.cell? a = some v) : a.block < w.heap.size := World.block_lt_of_cell? w a h
theorem below_alloc (w : World) (o : Obj) : Below w.heap.size w (w.alloc o) := (Below.refl _ w).alloc (Nat.le_refl _) _
theorem box_below (w : World) (x : Obj) {w1 : World} (b1 : Below (w.alloc x).heap.size (w.alloc x) w1) : Below w.heap.size w w1 := (below_alloc w x).trans (b1.mono (below_alloc w x).size)
def IsQ (w : World) (v : Value) (aa : AttrL) : Prop := (aa = [] ∧ ∃ a c, v = .slice a 0 c) ∨ ∃ b o cap, v = .slice (some ⟨b, o, none⟩) aa.length cap ∧
  ∀ j (hj : j < aa.length), w.cell? ⟨b, o + j * 2, none⟩ = some (.string ⟨aa[j].1.toArray⟩) ∧ w.cell? ⟨b, o + j * 2 + 1, none⟩ = some (.string ⟨aa[j].2.toArray⟩)
theorem IsQ.below {w W : World} {v : Value} {aa : AttrL} (h : IsQ w v aa) (hb : Below w.heap.size w W) : IsQ W v aa := by
  rcases h with h | ⟨b, o, cap, h1, h3⟩
  · exact .inl h
  · refine .inr ⟨b, o, cap, h1, fun j hj => ?_⟩
    obtain ⟨c1, c2⟩ := h3 j hj
    exact ⟨by rw [hb.cell (cell_lt c1)]; exact c1, by rw [hb.cell (cell_lt c2)]; exact c2⟩
theorem isQ_form {w : World} {v : Value} {aa : AttrL} (h : IsQ w v aa) : ∃ a c, v = .slice a aa.length c := by
  rcases h with ⟨rfl, a, c, rfl⟩ | ⟨b, o, cap, rfl, _⟩
  · exact ⟨_, _, rfl⟩
  · exact ⟨_, _, rfl⟩
def RowM (w : World) (v : Value) (l : List MV) : Prop := (l = [] ∧ ∃ a c, v = .slice a 0 c) ∨ ∃ b o cap, v = .slice (some ⟨b, o, none⟩) l.length cap ∧ l.length ≤ cap ∧
  ∀ j (hj : j < l.length), w.cell? ⟨b, o + j * 3, none⟩ = some (.int .i64 l[j].id) ∧ w.cell? ⟨b, o + j * 3 + 1, none⟩ = some (.string l[j].nm) ∧ w.cell? ⟨b, o + j * 3 + 2, none⟩ = some l[j].av
def OkM (w : World) (l : List MV) : Prop := ∀ x ∈ l, IsQ w x.av x.aa
theorem OkM.below {w W : World} {l : List MV} (h : OkM w l) (hb : Below w.heap.size w W) : OkM W l := fun x hx => (h x hx).below hb
theorem OkM.at_ {w : World} {l : List MV} (h : OkM w l) (j : Nat) (hj : j < l.length) : IsQ w l[j].av l[j].aa := h _ (List.getElem_mem hj)
theorem RowM.below {w W : World} {v : Value} {l : List MV} (h : RowM w v l) (hb : Below w.heap.size w W) : RowM W v l := by
  rcases h with h | ⟨b, o, cap, rfl, hk, hc⟩
  · exact .inl h
  · refine .inr ⟨b, o, cap, rfl, hk, fun j hj => ?_⟩
    obtain ⟨h0, h1, h2⟩ := hc j hj
    exact ⟨by rw [hb.cell (cell_lt h0)]; exact h0, by rw [hb.cell (cell_lt h1)]; exact h1, by rw [hb.cell (cell_lt h2)]; exact h2⟩
theorem rowM_form {w : World} {v : Value} {l : List MV} (h : RowM w v l) : ∃ a c, v = .slice a l.length c := by
  rcases h with ⟨rfl, a, c, rfl⟩ | ⟨b, o, c, rfl, _⟩
  · exact ⟨_, _, rfl⟩
  · exact ⟨_, _, rfl⟩
theorem RowM.get {w : World} {a : Option Addr} {n c : Nat} {l : List MV} (h : RowM w (.slice a n c) l) (j : Nat) (hj : j < l.length) : ∃ b o, a = some ⟨b, o, none⟩ ∧
    w.cell? ⟨b, o + j * 3, none⟩ = some (.int .i64 l[j].id) ∧ w.cell? ⟨b, o + j * 3 + 1, none⟩ = some (.string l[j].nm) ∧ w.cell? ⟨b, o + j * 3 + 2, none⟩ = some l[j].av := by
  rcases h with ⟨rfl, _⟩ | ⟨b, o, c', e, _, h⟩
  · exact absurd hj (by simp)
  · simp only [Value.slice.injEq] at e
    obtain ⟨rfl, -, -⟩ := e
    exact ⟨b, o, rfl, h j hj⟩
def NewM (B : Nat) (w : World) (v : Value) (l : List MV) : Prop := (l = [] ∧ ∃ a c, v = .slice a 0 c) ∨ ∃ b o cap, v = .slice (some ⟨b, o, none⟩) l.length cap ∧ l.length ≤ cap ∧ B ≤ b ∧
  (∀ j (hj : j < l.length), w.cell? ⟨b, o + j * 3, none⟩ = some (.int .i64 l[j].id) ∧ w.cell? ⟨b, o + j * 3 + 1, none⟩ = some (.string l[j].nm) ∧ w.cell? ⟨b, o + j * 3 + 2, none⟩ = some l[j].av) ∧
  ∀ j, j < l.length → ∀ i, i < 3 → w.frozen? ⟨b, o + j * 3 + i, none⟩ = false
theorem NewM.row {B : Nat} {w : World} {v : Value} {l : List MV} (h : NewM B w v l) : RowM w v l := by
  rcases h with h | ⟨b, o, cap, rfl, hk, _, hc, _⟩
  · exact .inl h
  · exact .inr ⟨b, o, cap, rfl, hk, hc⟩
end Go.Proofs.YtpppdfjdngmaoaaGreatDoor.S7
