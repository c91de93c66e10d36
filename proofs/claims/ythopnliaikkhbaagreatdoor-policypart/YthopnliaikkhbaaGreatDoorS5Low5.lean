/- What the walks of stage 5 share. No function of the program in it. -/
import Derived.Test.YthopnliaikkhbaaGreatDoorProg
import Derived.Test.YthopnliaikkhbaaGreatDoorS5ArB
import Derived.WalkKit
import Derived.WalkSpells
import Derived.WalkLawsBesides
import Derived.Laws.IdiomStrings
import Derived.Laws.ResultCell
import Derived.Laws.AppendOwn
import Derived.Lib.IndexBytes
import Derived.Lib.RuneBytes
import Derived.Maps.AppendAt
import Derived.Below
set_option linter.unusedVariables false
set_option linter.unusedSimpArgs false
set_option maxRecDepth 4000
namespace Go.Proofs.YthopnliaikkhbaaGreatDoor.S5
open Go.RowKit

set_option linter.unusedVariables false
set_option linter.unusedSimpArgs false

theorem hide {p : Prop} (h : p) : Hid p := h
theorem ret_bool {a b : Bool} (h : a = b) : Ending.returned (.bool a) = .returned (.bool b) := by rw [h]
theorem ret_str {a b : List UInt8} (h : a = b) : Ending.returned (.string ⟨a.toArray⟩) = .returned (.string ⟨b.toArray⟩) := by rw [h]
theorem ret_int {k : IntKind} {a b : Int} (h : a = b) : Ending.returned (.int k a) = .returned (.int k b) := by rw [h]
theorem str_data (l : List UInt8) : (⟨l.toArray⟩ : ByteArray).data.toList = l := by simp
theorem size_list (s : ByteArray) : s.size = s.data.toList.length := by
  rw [Array.length_toList]; rfl
theorem below_alloc (w : World) (o : Obj) : Below w.heap.size w (w.alloc o) := (Below.refl _ w).alloc (Nat.le_refl _) _
theorem addr_add (b j : Nat) : (⟨b, 0, none⟩ : Addr).add j = ⟨b, j, none⟩ := by unfold Addr.add; split <;> simp_all
/-- A list that is written out, whose run is known. -/
theorem wpList_build_run {P : Program} {ops : Array Oper} {rest : List Oper} {o : Oper} {a : Act} {Q : Exit → Act → World → Prop} {w : World} (hgd : o.guard = none) (t : TypeId) (len : Nat) (ps : List (Nat × Operand)) (ho : o.op = .buildSlice t len ps.toArray)
    (vs : List (Nat × Value)) (hvs : ps.map (fun p => (p.1, a.eval p.2)) = vs) (v' : Value) (w' : World) (hr : (Instr.buildSlice t len vs.toArray).run P w = .ok v' w') (h : wpList P ops Q rest (a.put o.dst v') w') : wpList P ops Q (o :: rest) a w :=
  wpList_plain hgd fun _ hK => by
    have e : ps.toArray.map (fun p => (p.1, a.eval p.2)) = vs.toArray := by rw [List.map_toArray, hvs]
    unfold Oper.wp execOp
    simp only [ho]
    have hr2 := hr
    rw [← e] at hr2
    simp only [Sem.run_bind, Sem.run_pure, Result.andThen_ok, hr2]
    exact hK _ _ h
theorem cell_lt {w : World} {a : Addr} {v : Value} (h : w.cell? a = some v) : a.block < w.heap.size := World.block_lt_of_cell? w a h
theorem str_of (x : ByteArray) (R : List UInt8) (h : x.data.toList = R) : x = ⟨R.toArray⟩ := by
  subst h
  cases x
  simp
theorem str_app (a b : ByteArray) (x y : List UInt8) (ha : a.data.toList = x) (hb : b.data.toList = y) : (a ++ b).data.toList = x ++ y := by
  rw [ByteArray.data_append, Array.toList_append, ha, hb]
/-- An append whose run is known. -/
theorem wpList_append_run {P : Program} {ops : Array Oper} {rest : List Oper} {o : Oper} {a : Act} {Q : Exit → Act → World → Prop} {w : World} (hgd : o.guard = none) (s x : Operand) (t : TypeId)
    (ho : o.op = .call { callee := .builtin .append, args := #[s, x], argTypes := #[t, t] }) (v1 v2 v' : Value) (w' : World) (hs : a.eval s = v1) (hx : a.eval x = v2)
    (hr : (Builtin.append_ #[t, t] o.type #[v1, v2]).run P w = .ok v' w') (h : wpList P ops Q rest (a.put o.dst v') w') : wpList P ops Q (o :: rest) a w :=
  wpList_plain hgd fun _ hK => by
    unfold Oper.wp execOp
    simp only [ho, resolve, invoke, builtin, Sem.run_bind, Sem.run_pure, Result.andThen_ok, List.map_toArray, List.map_cons, List.map_nil, hs, hx, hr]
    exact hK _ _ h
theorem bcell {W w1 : World} (hb : Below W.heap.size W w1) : (∀ b o, b < W.heap.size → w1.cell? ⟨b, o, none⟩ = W.cell? ⟨b, o, none⟩) ∧ (∀ b o, b < W.heap.size → w1.frozen? ⟨b, o, none⟩ = W.frozen? ⟨b, o, none⟩) :=
  ⟨fun b o h => hb.cell (p := ⟨b, o, none⟩) h, fun b o h => hb.frozen (p := ⟨b, o, none⟩) h⟩
abbrev AttrL := List (List UInt8 × List UInt8)
/-- A list of attributes lies there. -/
def IsA (w : World) (v : Value) (aa : AttrL) : Prop :=
  ((∃ a c, v = .slice a 0 c) ∧ aa = []) ∨ ∃ b o cap, v = .slice (some ⟨b, o, none⟩) aa.length cap ∧ aa.length ≤ cap ∧
    ∀ j (hj : j < aa.length), w.cell? ⟨b, o + j * 2, none⟩ = some (.string ⟨aa[j].1.toArray⟩) ∧ w.cell? ⟨b, o + j * 2 + 1, none⟩ = some (.string ⟨aa[j].2.toArray⟩)
theorem IsA.below {w W : World} {v : Value} {aa : AttrL} (h : IsA w v aa) (hb : Below w.heap.size w W) : IsA W v aa := by
  rcases h with h | ⟨b, o, cap, h1, h2, h3⟩
  · exact .inl h
  · refine .inr ⟨b, o, cap, h1, h2, fun j hj => ?_⟩
    obtain ⟨c1, c2⟩ := h3 j hj
    exact ⟨by rw [hb.cell (cell_lt c1)]; exact c1, by rw [hb.cell (cell_lt c2)]; exact c2⟩
def attrCells : AttrL → List Value
  | [] => []
  | a :: r => .string ⟨a.1.toArray⟩ :: .string ⟨a.2.toArray⟩ :: attrCells r
theorem attrCells_len : ∀ aa : AttrL, (attrCells aa).length = aa.length * 2
  | [] => rfl
  | a :: r => by
    simp only [attrCells, List.length_cons, attrCells_len r]
    omega
theorem attrCells_app : ∀ aa bb : AttrL, attrCells (aa ++ bb) = attrCells aa ++ attrCells bb
  | [], bb => rfl
  | a :: r, bb => by
    simp only [List.cons_append, attrCells, attrCells_app r bb]
theorem attrCells_get : ∀ (aa : AttrL) (j : Nat) (hj : j < aa.length), (attrCells aa)[j * 2]? = some (.string ⟨aa[j].1.toArray⟩) ∧ (attrCells aa)[j * 2 + 1]? = some (.string ⟨aa[j].2.toArray⟩)
  | a :: r, 0, _ => ⟨rfl, rfl⟩
  | a :: r, j + 1, hj => by
    have h := attrCells_get r j (by simpa using hj)
    rw [show (j + 1) * 2 = j * 2 + 1 + 1 by omega]
    exact h
theorem attrCells_1c : ∀ (aa : AttrL), ∀ u ∈ attrCells aa, u.oneCell' = true
  | [] => by intro u hu; cases hu
  | a :: r => by
    intro u hu
    simp only [attrCells, List.mem_cons] at hu
    rcases hu with rfl | rfl | hu
    · rfl
    · rfl
    · exact attrCells_1c r u hu
theorem owns_isA {w : World} {B n : Nat} {v : Value} {aa : AttrL} (h : w.ownsRow B 46 2 v n (attrCells aa)) : IsA w v aa := by
  have hn : n = aa.length := by
    have := h.1
    rw [attrCells_len] at this
    omega
  subst hn
  rcases h.2 with ⟨rfl, h2⟩ | ⟨g, cap, cur, rfl, _, _, hc, _, _, _⟩
  · exact .inl ⟨⟨_, _, rfl⟩, List.eq_nil_of_length_eq_zero h2⟩
  · refine .inr ⟨g, 0, cap, rfl, hc, fun j hj => ?_⟩
    obtain ⟨g1, g2⟩ := attrCells_get aa j hj
    have c1 := h.cells rfl _ _ g1
    have c2 := h.cells rfl _ _ g2
    rw [addr_add] at c1 c2
    rw [Nat.zero_add]
    exact ⟨c1, c2⟩
theorem owns_below {w W : World} {B n : Nat} {e : TypeId} {z : Nat} {v : Value} {xs : List Value} (h : w.ownsRow B e z v n xs) (hb : Below w.heap.size w W) : W.ownsRow B e z v n xs := by
  refine ⟨h.1, ?_⟩
  rcases h.2 with h2 | ⟨g, cap, cur, h1, h2, h3, h4⟩
  · exact .inl h2
  · refine .inr ⟨g, cap, cur, h1, h2, ?_, h4⟩
    have hg : g < w.heap.size := (Array.getElem?_eq_some_iff.1 h3).1
    rw [hb.block g hg]; exact h3
theorem owns_form {w : World} {B n : Nat} {e : TypeId} {z : Nat} {v : Value} {xs : List Value} (h : w.ownsRow B e z v n xs) : ∃ a c, v = .slice a n c := by
  rcases h.2 with ⟨h1, h2⟩ | ⟨g, cap, _, h1, _⟩
  · subst h2
    exact ⟨_, _, h1⟩
  · exact ⟨_, _, h1⟩
theorem isA_form {w : World} {v : Value} {aa : AttrL} (h : IsA w v aa) : ∃ a c, v = .slice a aa.length c := by
  rcases h with ⟨⟨a, c, rfl⟩, rfl⟩ | ⟨b, o, cap, rfl, _⟩
  · exact ⟨_, _, rfl⟩
  · exact ⟨_, _, rfl⟩
theorem set_other (W : World) (a b : Addr) (v : Value) (h : a ≠ b) : (W.setCell a v).cell? b = W.cell? b := by
  apply World.cell?_setCell_other
  exact h
theorem set_same (W : World) (a : Addr) (v u : Value) (h : W.cell? a = some u) : (W.setCell a v).cell? a = some v := by
  apply World.cell?_setCell_same
  exact h
/-- Block k holds these cells, and may be written. -/
def Kept (w : World) (k : Nat) (cs : List Value) : Prop := (∀ o, w.cell? ⟨k, o, none⟩ = cs[o]?) ∧ ∀ o, w.frozen? ⟨k, o, none⟩ = false
theorem Kept.lt {w : World} {k : Nat} {v : Value} {cs : List Value} (h : Kept w k (v :: cs)) : k < w.heap.size := cell_lt (a := ⟨k, 0, none⟩) (h.1 0)
theorem Kept.new (w : World) (cs : List Value) (T : TypeId) : Kept (w.alloc (.cells cs.toArray T)) w.heap.size cs :=
  ⟨fun o => by rw [World.cell?_alloc_mark]; simp, fun o => by simp [go_sem]⟩
theorem Kept.below {k : Nat} {w w1 : World} {v : Value} {cs : List Value} (h : Kept w k (v :: cs)) (hb : Below w.heap.size w w1) : Kept w1 k (v :: cs) :=
  ⟨fun o => by rw [hb.cell (p := ⟨k, o, none⟩) h.lt]; exact h.1 o, fun o => by rw [hb.frozen (p := ⟨k, o, none⟩) h.lt]; exact h.2 o⟩
theorem Kept.alloc {k : Nat} {w : World} {v : Value} {cs : List Value} (h : Kept w k (v :: cs)) (o : Obj) : Kept (w.alloc o) k (v :: cs) := h.below (below_alloc w o)
end Go.Proofs.YthopnliaikkhbaaGreatDoor.S5
