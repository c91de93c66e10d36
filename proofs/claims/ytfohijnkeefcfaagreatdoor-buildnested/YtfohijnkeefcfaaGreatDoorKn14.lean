import Derived.Test.YtfohijnkeefcfaaGreatDoorKn00
import Derived.Test.YtfohijnkeefcfaaGreatDoorProg
import Derived.WalkKit
import Derived.WalkSpells
import Derived.WalkLawsBesides
import Derived.Lib.IndexBytes
import Derived.Laws.AppendOwn
import Derived.Deep.AppendSrc
import Derived.Deep.Slices
import Derived.Maps.AppendAt
import Derived.Below
set_option linter.unusedVariables false
set_option linter.unusedSimpArgs false
set_option maxRecDepth 100000
set_option maxHeartbeats 8000000
namespace Go.Proofs.YtfohijnkeefcfaaGreatDoor.S7
open Go.RowKit
theorem hide {p : Prop} (h : p) : Hid p := h
theorem ret_bool {a b : Bool} (h : a = b) : Ending.returned (.bool a) = .returned (.bool b) := by rw [h]
theorem ret_int {k : IntKind} {a b : Int} (h : a = b) : Ending.returned (.int k a) = .returned (.int k b) := by rw [h]
theorem ne_int (k j : Int) (h : k ≠ j) : (k == j) = false := beq_eq_false_iff_ne.2 h
theorem str_data (l : List UInt8) : (⟨l.toArray⟩ : ByteArray).data.toList = l := by simp
theorem cell_lt {w : World} {a : Addr} {v : Value} (h : w.cell? a = some v) : a.block < w.heap.size := World.block_lt_of_cell? w a h
theorem below_alloc (w : World) (o : Obj) : Below w.heap.size w (w.alloc o) := (Below.refl _ w).alloc (Nat.le_refl _) _
theorem box_below (w : World) (x : Obj) {w1 : World} (b1 : Below (w.alloc x).heap.size (w.alloc x) w1) : Below w.heap.size w w1 := (below_alloc w x).trans (b1.mono (below_alloc w x).size)
theorem addr_add (b o j : Nat) : (⟨b, o, none⟩ : Addr).add j = ⟨b, o + j, none⟩ := by unfold Addr.add; split <;> simp_all
theorem wpList_append_run {P : Program} {ops : Array Oper} {rest : List Oper} {o : Oper} {a : Act} {Q : Exit -> Act -> World -> Prop} {w : World} (hgd : o.guard = none) (s x : Operand) (t : TypeId)
    (ho : o.op = .call { callee := .builtin .append, args := #[s, x], argTypes := #[t, t] }) (v1 v2 v' : Value) (w' : World) (hs : a.eval s = v1) (hx : a.eval x = v2)
    (hr : (Builtin.append_ #[t, t] o.type #[v1, v2]).run P w = .ok v' w') (h : wpList P ops Q rest (a.put o.dst v') w') : wpList P ops Q (o :: rest) a w :=
  wpList_plain hgd fun _ hK => by
    unfold Oper.wp execOp
    simp only [ho, resolve, invoke, builtin, Sem.run_bind, Sem.run_pure, Result.andThen_ok, List.map_toArray, List.map_cons, List.map_nil, hs, hx, hr]
    exact hK _ _ h
def IsQ (w : World) (v : Value) (aa : AttrL) : Prop := (aa = [] /\ ∃ a c, v = .slice a 0 c) \/ ∃ b o cap, v = .slice (some ⟨b, o, none⟩) aa.length cap /\
  ∀ j (hj : j < aa.length), w.cell? ⟨b, o + j * 2, none⟩ = some (.string ⟨aa[j].1.toArray⟩) /\ w.cell? ⟨b, o + j * 2 + 1, none⟩ = some (.string ⟨aa[j].2.toArray⟩)
theorem IsQ.below {w W : World} {v : Value} {aa : AttrL} (h : IsQ w v aa) (hb : Below w.heap.size w W) : IsQ W v aa := by
  rcases h with h | ⟨b, o, cap, h1, h3⟩
  · exact .inl h
  · refine .inr ⟨b, o, cap, h1, fun j hj => ?_⟩
    obtain ⟨c1, c2⟩ := h3 j hj
    exact ⟨by rw [hb.cell (cell_lt c1)]; exact c1, by rw [hb.cell (cell_lt c2)]; exact c2⟩
theorem isQ_form {w : World} {v : Value} {aa : AttrL} (h : IsQ w v aa) : ∃ a c, v = .slice a aa.length c := by
  rcases h with ⟨rfl, a, c, rfl⟩ | ⟨b, o, cap, rfl, _⟩
  · exact ⟨_, _, rfl⟩
  · exact ⟨_, _, rfl⟩
theorem IsQ.get {w : World} {a : Option Addr} {n c : Nat} {aa : AttrL} (h : IsQ w (.slice a n c) aa) (j : Nat) (hj : j < aa.length) : ∃ b o, a = some ⟨b, o, none⟩ /\
    w.cell? ⟨b, o + j * 2, none⟩ = some (.string ⟨aa[j].1.toArray⟩) /\ w.cell? ⟨b, o + j * 2 + 1, none⟩ = some (.string ⟨aa[j].2.toArray⟩) := by
  rcases h with ⟨rfl, _⟩ | ⟨b, o, c', e, h⟩
  · exact absurd hj (by simp)
  · simp only [Value.slice.injEq] at e
    obtain ⟨rfl, -, -⟩ := e
    exact ⟨b, o, rfl, h j hj⟩
def RowM (w : World) (v : Value) (l : List MV) : Prop := (l = [] /\ ∃ a c, v = .slice a 0 c) \/ ∃ b o cap, v = .slice (some ⟨b, o, none⟩) l.length cap /\ l.length <= cap /\
  ∀ j (hj : j < l.length), w.cell? ⟨b, o + j * 3, none⟩ = some (.int .i64 l[j].id) /\ w.cell? ⟨b, o + j * 3 + 1, none⟩ = some (.string l[j].nm) /\ w.cell? ⟨b, o + j * 3 + 2, none⟩ = some l[j].av
def OkM (w : World) (l : List MV) : Prop := ∀ x ∈ l, IsQ w x.av x.aa
theorem OkM.below {w W : World} {l : List MV} (h : OkM w l) (hb : Below w.heap.size w W) : OkM W l := fun x hx => (h x hx).below hb
theorem OkM.at_ {w : World} {l : List MV} (h : OkM w l) (j : Nat) (hj : j < l.length) : IsQ w l[j].av l[j].aa := h _ (List.getElem_mem hj)
theorem RowM.below {w W : World} {v : Value} {l : List MV} (h : RowM w v l) (hb : Below w.heap.size w W) : RowM W v l := by
  rcases h with h | ⟨b, o, cap, rfl, hk, hc⟩
  · exact .inl h
  · refine .inr ⟨b, o, cap, rfl, hk, fun j hj => ?_⟩
    obtain ⟨h0, h1, h2⟩ := hc j hj
    exact ⟨by rw [hb.cell (cell_lt h0)]; exact h0, by rw [hb.cell (cell_lt h1)]; exact h1, by rw [hb.cell (cell_lt h2)]; exact h2⟩
theorem rowM_form0 {w : World} {v : Value} {l : List MV} (h : RowM w v l) : ∃ a c, v = .slice a l.length c /\ l.length <= c := by
  rcases h with ⟨rfl, a, c, rfl⟩ | ⟨b, o, c, rfl, hk, _⟩
  · exact ⟨_, _, rfl, Nat.zero_le _⟩
  · exact ⟨_, _, rfl, hk⟩
theorem rowM_form {w : World} {v : Value} {l : List MV} (h : RowM w v l) : ∃ a c, v = .slice a l.length c := by
  rcases h with ⟨rfl, a, c, rfl⟩ | ⟨b, o, c, rfl, _⟩
  · exact ⟨_, _, rfl⟩
  · exact ⟨_, _, rfl⟩
theorem RowM.get {w : World} {a : Option Addr} {n c : Nat} {l : List MV} (h : RowM w (.slice a n c) l) (j : Nat) (hj : j < l.length) : ∃ b o, a = some ⟨b, o, none⟩ /\
    w.cell? ⟨b, o + j * 3, none⟩ = some (.int .i64 l[j].id) /\ w.cell? ⟨b, o + j * 3 + 1, none⟩ = some (.string l[j].nm) /\ w.cell? ⟨b, o + j * 3 + 2, none⟩ = some l[j].av := by
  rcases h with ⟨rfl, _⟩ | ⟨b, o, c', e, _, h⟩
  · exact absurd hj (by simp)
  · simp only [Value.slice.injEq] at e
    obtain ⟨rfl, -, -⟩ := e
    exact ⟨b, o, rfl, h j hj⟩
def NewM (B : Nat) (w : World) (v : Value) (l : List MV) : Prop := (l = [] /\ ∃ a c, v = .slice a 0 c) \/ ∃ b o cap, v = .slice (some ⟨b, o, none⟩) l.length cap /\ l.length <= cap /\ B <= b /\
  (∀ j (hj : j < l.length), w.cell? ⟨b, o + j * 3, none⟩ = some (.int .i64 l[j].id) /\ w.cell? ⟨b, o + j * 3 + 1, none⟩ = some (.string l[j].nm) /\ w.cell? ⟨b, o + j * 3 + 2, none⟩ = some l[j].av) /\
  ∀ j, j < l.length -> ∀ i, i < 3 -> w.frozen? ⟨b, o + j * 3 + i, none⟩ = false
theorem NewM.row {B : Nat} {w : World} {v : Value} {l : List MV} (h : NewM B w v l) : RowM w v l := by
  rcases h with h | ⟨b, o, cap, rfl, hk, _, hc, _⟩
  · exact .inl h
  · exact .inr ⟨b, o, cap, rfl, hk, hc⟩
theorem NewM.mono {B C : Nat} {w : World} {v : Value} {l : List MV} (h : NewM B w v l) (hC : C <= B) : NewM C w v l := by
  rcases h with h | ⟨b, o, cap, rfl, hk, hB, hc, hf⟩
  · exact .inl h
  · exact .inr ⟨b, o, cap, rfl, hk, by omega, hc, hf⟩
def markC (m : MV) : List Value := [.int .i64 m.id, .string m.nm, m.av]
def markCells : List MV -> List Value
  | [] => []
  | m :: r => markC m ++ markCells r
theorem markCells_len : ∀ l : List MV, (markCells l).length = l.length * 3
  | [] => rfl
  | p :: r => by
    simp only [markCells, markC, List.length_append, List.length_cons, List.length_nil, markCells_len r]
    omega
theorem markCells_app : ∀ a b : List MV, markCells (a ++ b) = markCells a ++ markCells b
  | [], b => rfl
  | p :: r, b => by simp only [List.cons_append, markCells, markCells_app r b, List.append_assoc]
theorem markCells_get : ∀ (l : List MV) (j : Nat) (hj : j < l.length) (o : Nat) (ho : o < 3), (markCells l)[j * 3 + o]? = (markC l[j])[o]?
  | p :: r, 0, _, o, ho => by
    simp only [markCells, Nat.zero_mul, Nat.zero_add, List.getElem_cons_zero]
    rw [List.getElem?_append_left (by simpa [markC] using ho)]
  | p :: r, j + 1, hj, o, ho => by
    have h := markCells_get r j (by simpa using hj) o ho
    simp only [markCells, List.getElem_cons_succ]
    rw [List.getElem?_append_right (by simp [markC]; omega), show (j + 1) * 3 + o - (markC p).length = j * 3 + o by simp [markC]; omega]
    exact h
theorem markCells_1c {w : World} : ∀ (l : List MV), OkM w l -> ∀ u ∈ markCells l, u.oneCell' = true
  | [], _, u, hu => by simp [markCells] at hu
  | p :: r, h, u, hu => by
    rcases List.mem_append.1 hu with hu | hu
    · obtain ⟨a, c, e⟩ := isQ_form (h p (by simp))
      simp only [markC, e, List.mem_cons, List.not_mem_nil, or_false] at hu
      rcases hu with rfl | rfl | rfl <;> rfl
    · exact markCells_1c r (fun q hq => h q (by simp [hq])) u hu
theorem owns_own {w : World} {B : Nat} {v : Value} {n : Nat} {e : TypeId} {z : Nat} {xs : List Value} (h : w.ownsRow B e z v n xs) : ∀ k, v.ownBlock = some k -> B <= k := by
  intro k hk
  rcases h.2 with ⟨rfl, _⟩ | ⟨g, cap, cur, rfl, h2, _⟩
  · simp [Value.ownBlock] at hk
  · simp [Value.ownBlock] at hk; omega
theorem owns_below {w W : World} {B n : Nat} {e : TypeId} {z : Nat} {v : Value} {xs : List Value} (h : w.ownsRow B e z v n xs) (hb : Below w.heap.size w W) : W.ownsRow B e z v n xs := by
  refine ⟨h.1, ?_⟩
  rcases h.2 with h2 | ⟨g, cap, cur, h1, h2, h3, h4⟩
  · exact .inl h2
  · refine .inr ⟨g, cap, cur, h1, h2, ?_, h4⟩
    have hg : g < w.heap.size := (Array.getElem?_eq_some_iff.1 h3).1
    rw [hb.block g hg]; exact h3
theorem owns_form {w : World} {B n : Nat} {e : TypeId} {z : Nat} {v : Value} {xs : List Value} (h : w.ownsRow B e z v n xs) : ∃ a c, v = .slice a n c := by
  rcases h.2 with ⟨h1, h2⟩ | ⟨g, cap, _, h1, _⟩
  · subst h2
    exact ⟨_, _, h1⟩
  · exact ⟨_, _, h1⟩
end Go.Proofs.YtfohijnkeefcfaaGreatDoor.S7
