/- How the program's disk lies in memory: a struct, a row of all bytes, a row of writes. -/
import Derived.Test.YteacldkfdhhphaaPa14
import Derived.Deep.MidRow
import Derived.Deep.WholeRow
set_option linter.unusedVariables false
set_option linter.unusedSimpArgs false
set_option maxRecDepth 4000
namespace Go.Proofs.Yteacldkfdhhphaa
open Go.RowKit

/-- What a disk's call answers that may write: the number, and the disk behind it. -/
def KR (IsK : (Nat → Prop) → World → Value → DM → Prop) (A : Nat → Prop) (w : World) (v : Value) (m : DM) (w' : World) : Prop := ∃ A', IsK A' w' v m ∧ Grew A A' w.heap.size ∧ ButA A w w'
theorem heap_cells_other (g : Nat) : ∀ (vs : List Value) (o : Nat) (w : World) (k : Nat), k ≠ g → (w.setCells g o vs).heap[k]? = w.heap[k]?
  | [], _, _, _, _ => rfl
  | v :: r, o, w, k, h => by rw [World.setCells, heap_cells_other g r (o + 1) _ k h, Below.heap_setCell _ _ _ _ h]
theorem bytesV_setA (F : Bs) (o : Nat) (v : UInt8) : (bytesV F).toArray.setIfInBounds o (.int .u8 (v.toNat : Int)) = (bytesV (F.set o v)).toArray := by
  apply Array.ext'
  simp [bytesV, List.map_set]
theorem heap_cells_bytes (g : Nat) (t : TypeId) : ∀ (x F : Bs) (o : Nat) (w : World), w.heap[g]? = some (.cells (bytesV F).toArray t (0, 0)) → (w.setCells g o (bytesV x)).heap[g]? = some (.cells (bytesV (setB F o x)).toArray t (0, 0))
  | [], F, o, w, h => h
  | v :: r, F, o, w, h => by
    show ((w.setCell ⟨g, o, none⟩ (.int .u8 (v.toNat : Int))).setCells g (o + 1) (bytesV r)).heap[g]? = _
    refine heap_cells_bytes g t r (F.set o v) (o + 1) _ ?_
    rw [setCell_eq_setRow w g o _ t _ _ h, setRow_heap w g _ _ t _ h, bytesV_setA]
theorem setCells_size (g : Nat) : ∀ (vs : List Value) (o : Nat) (w : World), (w.setCells g o vs).heap.size = w.heap.size
  | [], _, _ => rfl
  | v :: r, o, w => by rw [World.setCells, setCells_size g r]; simp [World.setCell]
theorem setCells_out (g : Nat) : ∀ (vs : List Value) (o : Nat) (w : World), (w.setCells g o vs).os = w.os ∧ (w.setCells g o vs).tape = w.tape ∧ (w.setCells g o vs).output = w.output
  | [], _, _ => ⟨rfl, rfl, rfl⟩
  | v :: r, o, w => by rw [World.setCells]; exact setCells_out g r (o + 1) _
theorem butA_cells (A : Nat → Prop) (g : Nat) (hg : A g) (vs : List Value) (o : Nat) (w : World) : ButA A w (w.setCells g o vs) := by
  obtain ⟨h1, h2, h3⟩ := setCells_out g vs o w
  exact ⟨h1, h2, h3, by rw [setCells_size]; exact Nat.le_refl _, fun k _ hn => heap_cells_other g vs o w k (fun e => hn (e ▸ hg))⟩
theorem bytesV_get (F : Bs) (j : Nat) (hj : j < F.length) : (bytesV F)[j]? = some (.int .u8 (F[j].toNat : Int)) := by unfold bytesV; rw [List.getElem?_map, List.getElem?_eq_getElem hj]; rfl
theorem bytesV_one (F : Bs) : ∀ v ∈ bytesV F, v.oneCell' = true := by
  intro v hv
  obtain ⟨b, _, rfl⟩ := List.mem_map.1 hv
  rfl
theorem bytesV_sub (F : Bs) (o k : Nat) : bytesV ((F.drop o).take k) = ((bytesV F).drop o).take k := by unfold bytesV; rw [List.map_take, List.map_drop]
/-- A part of the row. -/
theorem range_sub {w : World} {g : Nat} {t : TypeId} {F : Bs} (h : w.heap[g]? = some (.cells (bytesV F).toArray t (0, 0))) (o k : Nat) : w.rangeAt g o (bytesV ((F.drop o).take k)) := fun j v hv => by
  rw [cell_of_row w g (o + j) _ t _ h]
  rw [bytesV_sub, List.getElem?_take] at hv
  split at hv
  · rw [List.getElem?_drop] at hv
    simpa using hv
  · cases hv
theorem there_sub {w : World} {g : Nat} {t : TypeId} {cur : Array Value} (h : w.heap[g]? = some (.cells cur t (0, 0))) (o k : Nat) (hk : o + k ≤ cur.size) : w.there g o k := fun j hj => by
  refine ⟨?_, by simp [World.frozen?, h]⟩
  rw [cell_of_row w g (o + j) _ t _ h, Array.getElem?_eq_getElem (by omega)]
  rfl
/-- The cells of a pending write. -/
def wV (x : PW) : List Value := .int .i64 (x.at_ : Int) :: (bytesV x.was ++ bytesV x.laid)
def wsV (ws : List PW) : List Value := ws.flatMap wV
def Good (x : PW) : Prop := x.was.length = 256 ∧ x.laid.length = 256
theorem wV_len {x : PW} (h : Good x) : (wV x).length = 513 := by unfold wV; rw [List.length_cons, List.length_append, bytesV_len, bytesV_len, h.1, h.2]
theorem wsV_app (a b : List PW) : wsV (a ++ b) = wsV a ++ wsV b := by unfold wsV; rw [List.flatMap_append]
theorem wsV_one (x : PW) : wsV [x] = wV x := by unfold wsV; simp
theorem wsV_len : ∀ ws : List PW, (∀ x ∈ ws, Good x) → (wsV ws).length = ws.length * 513
  | [], _ => rfl
  | x :: r, h => by
    show (wV x ++ wsV r).length = _
    rw [List.length_append, wV_len (h x (by simp)), wsV_len r (fun y hy => h y (by simp [hy])), List.length_cons]
    omega
theorem wsV_get : ∀ (ws : List PW) (i j : Nat) (hi : i < ws.length), (∀ x ∈ ws, Good x) → j < 513 → (wsV ws)[i * 513 + j]? = (wV ws[i])[j]?
  | x :: r, 0, j, hi, h, hj => by
    show (wV x ++ wsV r)[0 * 513 + j]? = _
    rw [List.getElem?_append_left (by rw [wV_len (h x (by simp))]; omega), Nat.zero_mul, Nat.zero_add]
    rfl
  | x :: r, i + 1, j, hi, h, hj => by
    show (wV x ++ wsV r)[(i + 1) * 513 + j]? = _
    have hl := wV_len (h x (by simp))
    rw [List.getElem?_append_right (by omega), hl, show (i + 1) * 513 + j - 513 = i * 513 + j by omega, wsV_get r i j (by simpa using hi) (fun y hy => h y (by simp [hy])) hj]
    rfl
theorem wV_one (x : PW) : ∀ v ∈ wV x, v.oneCell' = true := by
  intro v hv
  rcases List.mem_cons.1 hv with rfl | hv
  · rfl
  · rcases List.mem_append.1 hv with hv | hv
    · exact bytesV_one _ v hv
    · exact bytesV_one _ v hv
/-- All is numbers. -/
def IntV (v : Value) : Prop := ∃ k z, v = .int k z
def IntB (w : World) (b : Nat) : Prop := ∀ o v, w.cell? ⟨b, o, none⟩ = some v → IntV v
theorem wV_int (x : PW) : ∀ v ∈ wV x, IntV v := by
  intro v hv
  rcases List.mem_cons.1 hv with rfl | hv
  · exact ⟨_, _, rfl⟩
  · rcases List.mem_append.1 hv with hv | hv
    · obtain ⟨b, _, rfl⟩ := List.mem_map.1 hv
      exact ⟨_, _, rfl⟩
    · obtain ⟨b, _, rfl⟩ := List.mem_map.1 hv
      exact ⟨_, _, rfl⟩
theorem IntB.keep {w W : World} {b : Nat} (h : IntB w b) (hk : W.heap[b]? = w.heap[b]?) : IntB W b := fun o v hv => h o v ((cell_blk hk o).symm.trans hv)
theorem IntB.ns {w : World} {b : Nat} (h : IntB w b) : NoStr w b := fun j s hs => by
  obtain ⟨k, z, e⟩ := h j _ hs
  cases e
theorem intB_cells {w : World} {b : Nat} {cur : Array Value} {t : TypeId} (h : w.heap[b]? = some (.cells cur t (0, 0))) (hi : ∀ v ∈ cur.toList, IntV v) : IntB w b := fun o v hv => by
  rw [cell_of_row w b o cur t _ h] at hv
  exact hi v (by
    obtain ⟨h1, rfl⟩ := Array.getElem?_eq_some_iff.1 hv
    simp)
def PendAt (w : World) (pv : Value) (ws : List PW) : Prop := w.ownsRow 0 73 513 pv ws.length (wsV ws) ∧ ∀ j, pv.ownBlock = some j → IntB w j
theorem PendAt.keep {w W : World} {pv : Value} {ws : List PW} (h : PendAt w pv ws) (hk : ∀ j, pv.ownBlock = some j → W.heap[j]? = w.heap[j]?) : PendAt W pv ws := by
  refine ⟨⟨h.1.1, ?_⟩, fun j hj => (h.2 j hj).keep (hk j hj)⟩
  rcases h.1.2 with h1 | ⟨g, cap, cur, rfl, h2, h3, h4⟩
  · exact .inl h1
  · exact .inr ⟨g, cap, cur, rfl, h2, (hk g rfl).trans h3, h4⟩
theorem PendAt.nil (w : World) : PendAt w (.slice none 0 0) [] := ⟨World.ownsRow_nil _ _ _ _, fun j hj => by cases hj⟩
theorem PendAt.form {w : World} {pv : Value} {ws : List PW} (h : PendAt w pv ws) : ∃ a c, pv = .slice a ws.length c := owns_formG h.1
structure KD where
  a : Nat
  g : Nat
  n : Nat
  F : Bs
  pv : Value
  ws : List PW
  fu : Bool
  left : Int
  off : Bool
abbrev kdC (k : KD) : Array Value := #[.slice (some ⟨k.g, 0, none⟩) k.n k.n, k.pv, .bool k.fu, .int .i64 k.left, .bool k.off]
structure IsKD (w : World) (k : KD) : Prop where
  box : w.heap[k.a]? = some (.cells (kdC k) 62 (0, 0))
  blk : w.heap[k.g]? = some (.cells (bytesV k.F).toArray 69 (0, 0))
  pend : PendAt w k.pv k.ws
  ag : k.a ≠ k.g
  ap : ∀ j, k.pv.ownBlock = some j → j ≠ k.a ∧ j ≠ k.g
def kdA (k : KD) : Nat → Prop := fun j => j = k.a ∨ j = k.g ∨ k.pv.ownBlock = some j
def KRel (k : KD) (d : DM) : Prop := PRel k.n k.F k.ws k.fu k.left k.off d
def IsK (A : Nat → Prop) (w : World) (v : Value) (d : DM) : Prop := ∃ k : KD, A = kdA k ∧ v = .pointer (some ⟨k.a, 0, none⟩) ∧ IsKD w k ∧ KRel k d
theorem IsKD.keep {w x : World} {k : KD} (h : IsKD w k) (hk : ∀ j, kdA k j → x.heap[j]? = w.heap[j]?) : IsKD x k :=
  ⟨(hk _ (.inl rfl)).trans h.box, (hk _ (.inr (.inl rfl))).trans h.blk, h.pend.keep fun j hj => hk j (.inr (.inr hj)), h.ag, h.ap⟩
theorem IsK.keep {A : Nat → Prop} {w x : World} {v : Value} {d : DM} (h : IsK A w v d) (hk : ∀ k, A k → x.heap[k]? = w.heap[k]?) : IsK A x v d := by
  obtain ⟨k, rfl, rfl, h1, h2⟩ := h
  exact ⟨k, rfl, rfl, h1.keep hk, h2⟩
theorem IsKD.lt {w : World} {k : KD} (h : IsKD w k) : ∀ j, kdA k j → j < w.heap.size := by
  rintro j (rfl | rfl | hj)
  · exact (Array.getElem?_eq_some_iff.1 h.box).1
  · exact (Array.getElem?_eq_some_iff.1 h.blk).1
  · exact (h.pend.1.lt j hj).2
theorem IsK.lt {A : Nat → Prop} {w : World} {v : Value} {d : DM} (h : IsK A w v d) : ∀ k, A k → k < w.heap.size := by
  obtain ⟨k, rfl, rfl, h1, h2⟩ := h
  exact h1.lt
theorem IsK.ns {A : Nat → Prop} {w : World} {v : Value} {d : DM} (h : IsK A w v d) : ∀ k, A k → NoStr w k := by
  obtain ⟨k, rfl, rfl, h1, h2⟩ := h
  rintro j (rfl | rfl | hj)
  · intro o s hs
    obtain ⟨pa, pc, hp⟩ := h1.pend.form
    rw [cell_of_row w _ o _ _ _ h1.box] at hs
    unfold kdC at hs
    rw [hp] at hs
    rcases (by omega : 5 ≤ o ∨ o = 0 ∨ o = 1 ∨ o = 2 ∨ o = 3 ∨ o = 4) with h5 | rfl | rfl | rfl | rfl | rfl
    · rw [Array.getElem?_eq_none (by simpa using h5)] at hs
      cases hs
    all_goals simp at hs
  · refine (intB_cells h1.blk ?_).ns
    intro v hv
    obtain ⟨b, _, rfl⟩ := List.mem_map.1 (by simpa using hv : v ∈ bytesV k.F)
    exact ⟨_, _, rfl⟩
  · exact (h1.pend.2 j hj).ns
theorem IsK.ptr {A : Nat → Prop} {w : World} {v : Value} {d : DM} (h : IsK A w v d) : ∃ a, v = .pointer (some a) := by
  obtain ⟨k, rfl, rfl, h1, h2⟩ := h
  exact ⟨_, rfl⟩
theorem kd_cells {w : World} {k : KD} (h : w.heap[k.a]? = some (.cells (kdC k) 62 (0, 0))) : w.cell? ⟨k.a, 0, none⟩ = some (.slice (some ⟨k.g, 0, none⟩) k.n k.n) ∧ w.cell? ⟨k.a, 1, none⟩ = some k.pv ∧ w.cell? ⟨k.a, 2, none⟩ = some (.bool k.fu) ∧ w.cell? ⟨k.a, 3, none⟩ = some (.int .i64 k.left) ∧ w.cell? ⟨k.a, 4, none⟩ = some (.bool k.off) ∧ ∀ j, w.frozen? ⟨k.a, j, none⟩ = false := by
  refine ⟨?_, ?_, ?_, ?_, ?_, fun j => ?_⟩ <;> simp [World.cell?, World.frozen?, h]
theorem heap_box_set {w : World} {a : Nat} {C : Array Value} {t : TypeId} (h : w.heap[a]? = some (.cells C t (0, 0))) (o : Nat) (v : Value) : (w.setCell ⟨a, o, none⟩ v).heap[a]? = some (.cells (C.setIfInBounds o v) t (0, 0)) := by
  rw [setCell_eq_setRow w a o _ t _ _ h, setRow_heap w a _ _ t _ h]
/-- The struct's own fields turn; the two rows stay. -/
theorem IsKD.fields {w x : World} {k : KD} (h : IsKD w k) (fu : Bool) (left : Int) (off : Bool) (hb : ButA (fun j => j = k.a) w x) (hx : x.heap[k.a]? = some (.cells (kdC { k with fu := fu, left := left, off := off }) 62 (0, 0))) : IsKD x { k with fu := fu, left := left, off := off } := by
  refine ⟨hx, (hb.block _ ?_ ?_).trans h.blk, h.pend.keep fun j hj => hb.block j ?_ ?_, h.ag, h.ap⟩
  · exact h.lt _ (.inr (.inl rfl))
  · exact fun e => h.ag e.symm
  · exact h.lt _ (.inr (.inr hj))
  · exact (h.ap j hj).1
end Go.Proofs.Yteacldkfdhhphaa
