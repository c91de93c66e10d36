import Derived.Test.YthpepkfodcgbcaaWq03
import Derived.Deep.MidRow
import Derived.Deep.WholeRow
import Derived.Test.YthpepkfodcgbcaaWq00
/- How the program's disk lies in memory: a struct, a row of all bytes, a row of writes. -/
set_option linter.unusedVariables false
set_option linter.unusedSimpArgs false
set_option maxRecDepth 4000
namespace Go.Proofs.Ythpepkfodcgbcaa
open Go.RowKit

/-- What a disk's call answers that may write: the number, and the disk behind it. -/
def KR (IsK : (Nat → Prop) → World → Value → DM → Prop) (A : Nat → Prop) (w : World) (v : Value) (m : DM) (w' : World) : Prop := ∃ A', IsK A' w' v m ∧ Grew A A' w.heap.size ∧ ButA A w w'
theorem heap_cells_other (g : Nat) : ∀ (vs : List Value) (o : Nat) (w : World) (k : Nat), k ≠ g → (w.setCells g o vs).heap[k]? = w.heap[k]?
  | [], _, _, _, _ => rfl
  | v :: r, o, w, k, h => by rw [World.setCells, heap_cells_other g r (o + 1) _ k h, Below.heap_setCell _ _ _ _ h]
theorem bytesV_setA (F : Bs) (o : Nat) (v : UInt8) : (bytesV F).toArray.setIfInBounds o (.int .u8 (v.toNat : Int)) = (bytesV (F.set o v)).toArray := by
  apply Array.ext'
  simp [bytesV, List.map_set]
theorem heap_cells_bytes (g : Nat) (t : TypeId) : ∀ (x F : Bs) (o : Nat) (w : World), w.heap[g]? = some (.cells (bytesV F).toArray t (0, 0)) → (w.setCells g o (bytesV x)).heap[g]? = some (.cells (bytesV (setB F o x)).toArray t (0, 0))
  | [], F, o, w, h => h
  | v :: r, F, o, w, h => by
    show ((w.setCell ⟨g, o, none⟩ (.int .u8 (v.toNat : Int))).setCells g (o + 1) (bytesV r)).heap[g]? = _
    refine heap_cells_bytes g t r (F.set o v) (o + 1) _ ?_
    rw [setCell_eq_setRow w g o _ t _ _ h, setRow_heap w g _ _ t _ h, bytesV_setA]
theorem setCells_size (g : Nat) : ∀ (vs : List Value) (o : Nat) (w : World), (w.setCells g o vs).heap.size = w.heap.size
  | [], _, _ => rfl
  | v :: r, o, w => by rw [World.setCells, setCells_size g r]; simp [World.setCell]
theorem setCells_out (g : Nat) : ∀ (vs : List Value) (o : Nat) (w : World), (w.setCells g o vs).os = w.os ∧ (w.setCells g o vs).tape = w.tape ∧ (w.setCells g o vs).output = w.output
  | [], _, _ => ⟨rfl, rfl, rfl⟩
  | v :: r, o, w => by rw [World.setCells]; exact setCells_out g r (o + 1) _
theorem butA_cells (A : Nat → Prop) (g : Nat) (hg : A g) (vs : List Value) (o : Nat) (w : World) : ButA A w (w.setCells g o vs) := by
  obtain ⟨h1, h2, h3⟩ := setCells_out g vs o w
  exact ⟨h1, h2, h3, by rw [setCells_size]; exact Nat.le_refl _, fun k _ hn => heap_cells_other g vs o w k (fun e => hn (e ▸ hg))⟩
theorem bytesV_get (F : Bs) (j : Nat) (hj : j < F.length) : (bytesV F)[j]? = some (.int .u8 (F[j].toNat : Int)) := by unfold bytesV; rw [List.getElem?_map, List.getElem?_eq_getElem hj]; rfl
theorem bytesV_one (F : Bs) : ∀ v ∈ bytesV F, v.oneCell' = true := by
  intro v hv
  obtain ⟨b, _, rfl⟩ := List.mem_map.1 hv
  rfl
theorem bytesV_sub (F : Bs) (o k : Nat) : bytesV ((F.drop o).take k) = ((bytesV F).drop o).take k := by unfold bytesV; rw [List.map_take, List.map_drop]
/-- A part of the row. -/
theorem range_sub {w : World} {g : Nat} {t : TypeId} {F : Bs} (h : w.heap[g]? = some (.cells (bytesV F).toArray t (0, 0))) (o k : Nat) : w.rangeAt g o (bytesV ((F.drop o).take k)) := fun j v hv => by
  rw [cell_of_row w g (o + j) _ t _ h]
  rw [bytesV_sub, List.getElem?_take] at hv
  split at hv
  · rw [List.getElem?_drop] at hv
    simpa using hv
  · cases hv
theorem there_sub {w : World} {g : Nat} {t : TypeId} {cur : Array Value} (h : w.heap[g]? = some (.cells cur t (0, 0))) (o k : Nat) (hk : o + k ≤ cur.size) : w.there g o k := fun j hj => by
  refine ⟨?_, by simp [World.frozen?, h]⟩
  rw [cell_of_row w g (o + j) _ t _ h, Array.getElem?_eq_getElem (by omega)]
  rfl
/-- The cells of a pending write. -/
def wV (x : PW) : List Value := .int .i64 (x.at_ : Int) :: (bytesV x.was ++ bytesV x.laid)
def wsV (ws : List PW) : List Value := ws.flatMap wV
def Good (x : PW) : Prop := x.was.length = 256 ∧ x.laid.length = 256
theorem wV_len {x : PW} (h : Good x) : (wV x).length = 513 := by unfold wV; rw [List.length_cons, List.length_append, bytesV_len, bytesV_len, h.1, h.2]
theorem wsV_app (a b : List PW) : wsV (a ++ b) = wsV a ++ wsV b := by unfold wsV; rw [List.flatMap_append]
theorem wsV_one (x : PW) : wsV [x] = wV x := by unfold wsV; simp
theorem wsV_len : ∀ ws : List PW, (∀ x ∈ ws, Good x) → (wsV ws).length = ws.length * 513
  | [], _ => rfl
  | x :: r, h => by
    show (wV x ++ wsV r).length = _
    rw [List.length_append, wV_len (h x (by simp)), wsV_len r (fun y hy => h y (by simp [hy])), List.length_cons]
    omega
theorem wsV_get : ∀ (ws : List PW) (i j : Nat) (hi : i < ws.length), (∀ x ∈ ws, Good x) → j < 513 → (wsV ws)[i * 513 + j]? = (wV ws[i])[j]?
  | x :: r, 0, j, hi, h, hj => by
    show (wV x ++ wsV r)[0 * 513 + j]? = _
    rw [List.getElem?_append_left (by rw [wV_len (h x (by simp))]; omega), Nat.zero_mul, Nat.zero_add]
    rfl
  | x :: r, i + 1, j, hi, h, hj => by
    show (wV x ++ wsV r)[(i + 1) * 513 + j]? = _
    have hl := wV_len (h x (by simp))
    rw [List.getElem?_append_right (by omega), hl, show (i + 1) * 513 + j - 513 = i * 513 + j by omega, wsV_get r i j (by simpa using hi) (fun y hy => h y (by simp [hy])) hj]
    rfl
theorem wV_one (x : PW) : ∀ v ∈ wV x, v.oneCell' = true := by
  intro v hv
  rcases List.mem_cons.1 hv with rfl | hv
  · rfl
  · rcases List.mem_append.1 hv with hv | hv
    · exact bytesV_one _ v hv
    · exact bytesV_one _ v hv
/-- All is numbers. -/
def IntV (v : Value) : Prop := ∃ k z, v = .int k z
def IntB (w : World) (b : Nat) : Prop := ∀ o v, w.cell? ⟨b, o, none⟩ = some v → IntV v
theorem wV_int (x : PW) : ∀ v ∈ wV x, IntV v := by
  intro v hv
  rcases List.mem_cons.1 hv with rfl | hv
  · exact ⟨_, _, rfl⟩
  · rcases List.mem_append.1 hv with hv | hv
    · obtain ⟨b, _, rfl⟩ := List.mem_map.1 hv
      exact ⟨_, _, rfl⟩
    · obtain ⟨b, _, rfl⟩ := List.mem_map.1 hv
      exact ⟨_, _, rfl⟩
theorem IntB.keep {w W : World} {b : Nat} (h : IntB w b) (hk : W.heap[b]? = w.heap[b]?) : IntB W b := fun o v hv => h o v ((cell_blk hk o).symm.trans hv)
theorem IntB.ns {w : World} {b : Nat} (h : IntB w b) : NoStr w b := fun j s hs => by
  obtain ⟨k, z, e⟩ := h j _ hs
  cases e
theorem intB_cells {w : World} {b : Nat} {cur : Array Value} {t : TypeId} (h : w.heap[b]? = some (.cells cur t (0, 0))) (hi : ∀ v ∈ cur.toList, IntV v) : IntB w b := fun o v hv => by
  rw [cell_of_row w b o cur t _ h] at hv
  exact hi v (by
    obtain ⟨h1, rfl⟩ := Array.getElem?_eq_some_iff.1 hv
    simp)
def PendAt (w : World) (pv : Value) (ws : List PW) : Prop := w.ownsRow 0 112 513 pv ws.length (wsV ws) ∧ ∀ j, pv.ownBlock = some j → IntB w j
theorem PendAt.keep {w W : World} {pv : Value} {ws : List PW} (h : PendAt w pv ws) (hk : ∀ j, pv.ownBlock = some j → W.heap[j]? = w.heap[j]?) : PendAt W pv ws := by
  refine ⟨⟨h.1.1, ?_⟩, fun j hj => (h.2 j hj).keep (hk j hj)⟩
  rcases h.1.2 with h1 | ⟨g, cap, cur, rfl, h2, h3, h4⟩
  · exact .inl h1
  · exact .inr ⟨g, cap, cur, rfl, h2, (hk g rfl).trans h3, h4⟩
theorem PendAt.nil (w : World) : PendAt w (.slice none 0 0) [] := ⟨World.ownsRow_nil _ _ _ _, fun j hj => by cases hj⟩
theorem PendAt.form {w : World} {pv : Value} {ws : List PW} (h : PendAt w pv ws) : ∃ a c, pv = .slice a ws.length c := owns_formG h.1
structure KD where
  a : Nat
  g : Nat
  n : Nat
  F : Bs
  pv : Value
  ws : List PW
  fu : Bool
  left : Int
  off : Bool
abbrev kdC (k : KD) : Array Value := #[.slice (some ⟨k.g, 0, none⟩) k.n k.n, k.pv, .bool k.fu, .int .i64 k.left, .bool k.off]
structure IsKD (w : World) (k : KD) : Prop where
  box : w.heap[k.a]? = some (.cells (kdC k) 79 (0, 0))
  blk : w.heap[k.g]? = some (.cells (bytesV k.F).toArray 106 (0, 0))
  pend : PendAt w k.pv k.ws
  ag : k.a ≠ k.g
  ap : ∀ j, k.pv.ownBlock = some j → j ≠ k.a ∧ j ≠ k.g
def kdA (k : KD) : Nat → Prop := fun j => j = k.a ∨ j = k.g ∨ k.pv.ownBlock = some j
def KRel (k : KD) (d : DM) : Prop := PRel k.n k.F k.ws k.fu k.left k.off d
def IsK (A : Nat → Prop) (w : World) (v : Value) (d : DM) : Prop := ∃ k : KD, A = kdA k ∧ v = .pointer (some ⟨k.a, 0, none⟩) ∧ IsKD w k ∧ KRel k d
theorem IsKD.keep {w x : World} {k : KD} (h : IsKD w k) (hk : ∀ j, kdA k j → x.heap[j]? = w.heap[j]?) : IsKD x k :=
  ⟨(hk _ (.inl rfl)).trans h.box, (hk _ (.inr (.inl rfl))).trans h.blk, h.pend.keep fun j hj => hk j (.inr (.inr hj)), h.ag, h.ap⟩
theorem IsK.keep {A : Nat → Prop} {w x : World} {v : Value} {d : DM} (h : IsK A w v d) (hk : ∀ k, A k → x.heap[k]? = w.heap[k]?) : IsK A x v d := by
  obtain ⟨k, rfl, rfl, h1, h2⟩ := h
  exact ⟨k, rfl, rfl, h1.keep hk, h2⟩
theorem IsKD.lt {w : World} {k : KD} (h : IsKD w k) : ∀ j, kdA k j → j < w.heap.size := by
  rintro j (rfl | rfl | hj)
  · exact (Array.getElem?_eq_some_iff.1 h.box).1
  · exact (Array.getElem?_eq_some_iff.1 h.blk).1
  · exact (h.pend.1.lt j hj).2
theorem IsK.lt {A : Nat → Prop} {w : World} {v : Value} {d : DM} (h : IsK A w v d) : ∀ k, A k → k < w.heap.size := by
  obtain ⟨k, rfl, rfl, h1, h2⟩ := h
  exact h1.lt
theorem IsK.ns {A : Nat → Prop} {w : World} {v : Value} {d : DM} (h : IsK A w v d) : ∀ k, A k → NoStr w k := by
  obtain ⟨k, rfl, rfl, h1, h2⟩ := h
  rintro j (rfl | rfl | hj)
  · intro o s hs
    obtain ⟨pa, pc, hp⟩ := h1.pend.form
    rw [cell_of_row w _ o _ _ _ h1.box] at hs
    unfold kdC at hs
    rw [hp] at hs
    rcases (by omega : 5 ≤ o ∨ o = 0 ∨ o = 1 ∨ o = 2 ∨ o = 3 ∨ o = 4) with h5 | rfl | rfl | rfl | rfl | rfl
    · rw [Array.getElem?_eq_none (by simpa using h5)] at hs
      cases hs
    all_goals simp at hs
  · refine (intB_cells h1.blk ?_).ns
    intro v hv
    obtain ⟨b, _, rfl⟩ := List.mem_map.1 (by simpa using hv : v ∈ bytesV k.F)
    exact ⟨_, _, rfl⟩
  · exact (h1.pend.2 j hj).ns
theorem IsK.ptr {A : Nat → Prop} {w : World} {v : Value} {d : DM} (h : IsK A w v d) : ∃ a, v = .pointer (some a) := by
  obtain ⟨k, rfl, rfl, h1, h2⟩ := h
  exact ⟨_, rfl⟩
theorem kd_cells {w : World} {k : KD} (h : w.heap[k.a]? = some (.cells (kdC k) 79 (0, 0))) : w.cell? ⟨k.a, 0, none⟩ = some (.slice (some ⟨k.g, 0, none⟩) k.n k.n) ∧ w.cell? ⟨k.a, 1, none⟩ = some k.pv ∧ w.cell? ⟨k.a, 2, none⟩ = some (.bool k.fu) ∧ w.cell? ⟨k.a, 3, none⟩ = some (.int .i64 k.left) ∧ w.cell? ⟨k.a, 4, none⟩ = some (.bool k.off) ∧ ∀ j, w.frozen? ⟨k.a, j, none⟩ = false := by
  refine ⟨?_, ?_, ?_, ?_, ?_, fun j => ?_⟩ <;> simp [World.cell?, World.frozen?, h]
theorem heap_box_set {w : World} {a : Nat} {C : Array Value} {t : TypeId} (h : w.heap[a]? = some (.cells C t (0, 0))) (o : Nat) (v : Value) : (w.setCell ⟨a, o, none⟩ v).heap[a]? = some (.cells (C.setIfInBounds o v) t (0, 0)) := by
  rw [setCell_eq_setRow w a o _ t _ _ h, setRow_heap w a _ _ t _ h]
/-- The struct's own fields turn; the two rows stay. -/
theorem IsKD.fields {w x : World} {k : KD} (h : IsKD w k) (fu : Bool) (left : Int) (off : Bool) (hb : ButA (fun j => j = k.a) w x) (hx : x.heap[k.a]? = some (.cells (kdC { k with fu := fu, left := left, off := off }) 79 (0, 0))) : IsKD x { k with fu := fu, left := left, off := off } := by
  refine ⟨hx, (hb.block _ ?_ ?_).trans h.blk, h.pend.keep fun j hj => hb.block j ?_ ?_, h.ag, h.ap⟩
  · exact h.lt _ (.inr (.inl rfl))
  · exact fun e => h.ag e.symm
  · exact h.lt _ (.inr (.inr hj))
  · exact (h.ap j hj).1
end Go.Proofs.Ythpepkfodcgbcaa
/- What the program's Pending, Blocks, has, powered, Flush and Fuse answer, and all calls on no disk. -/
set_option linter.unusedVariables false
set_option linter.unusedSimpArgs false
set_option maxRecDepth 4000
namespace Go.Proofs.Ythpepkfodcgbcaa
open Go.RowKit

set_option maxHeartbeats 1000000 in
theorem nil_has (n : Int) (w : World) : Calls Try.prog 58 #[.pointer none, .int .i64 n] w fun e w' => e = .returned (.bool false) ∧ w' = w := by
  go_enter Try.func58, Try.ntmps58
  go_wp2
  go_ret
  exact ⟨rfl, rfl⟩
set_option maxHeartbeats 1000000 in
theorem nil_read (n : Int) (w : World) : Calls Try.prog 60 #[.pointer none, .int .i64 n] w fun e w' => (∃ a c, e = .returned (.tuple #[.slice a 0 c, .int .i64 1])) ∧ Below w.heap.size w w' := by
  have H := hide (nil_has n w)
  go_enter Try.func60, Try.ntmps60
  go_wp2_with fail
  refine H.out.mono ?_
  rintro e w1 ⟨rfl, rfl⟩
  clear H
  go_wp2
  go_ret2
  exact ⟨⟨_, _, rfl⟩, Below.refl _ _⟩
set_option maxHeartbeats 1000000 in
theorem nil_write (n : Int) (a : Option Addr) (k c : Nat) (w : World) : Calls Try.prog 35 #[.pointer none, .int .i64 n, .slice a k c] w fun e w' => e = .returned (.int .i64 1) ∧ Below w.heap.size w w' := by
  have H := hide (nil_has n w)
  go_enter Try.func35, Try.ntmps35
  go_wp2_with fail
  refine H.out.mono ?_
  rintro e w1 ⟨rfl, rfl⟩
  clear H
  go_wp2
  go_ret
  exact ⟨rfl, Below.refl _ _⟩
set_option maxHeartbeats 1000000 in
theorem nil_flush (w : World) : Calls Try.prog 51 #[.pointer none] w fun e w' => e = .returned (.int .i64 1) ∧ Below w.heap.size w w' := by
  go_enter Try.func51, Try.ntmps51
  go_wp2
  go_ret
  exact ⟨rfl, Below.refl _ _⟩
set_option maxHeartbeats 1000000 in
theorem nil_fuse (n : Int) (w : World) : Calls Try.prog 22 #[.pointer none, .int .i64 n] w fun e w' => e = .returned (.tuple #[]) ∧ Below w.heap.size w w' := by
  go_enter Try.func22, Try.ntmps22
  go_wp2
  refine bodyPost_ret (results_none rfl _ _ _) rfl ?_
  exact ⟨rfl, Below.refl _ _⟩
set_option maxHeartbeats 1000000 in
theorem nil_crash (w : World) : Calls Try.prog 20 #[.pointer none, .slice none 0 0] w fun e w' => e = .returned (.tuple #[]) ∧ Below w.heap.size w w' := by
  go_enter Try.func20, Try.ntmps20
  go_wp2
  refine bodyPost_ret (results_none rfl _ _ _) rfl ?_
  exact ⟨rfl, Below.refl _ _⟩
set_option maxHeartbeats 1000000 in
theorem nil_pending (w : World) : Calls Try.prog 70 #[.pointer none] w fun e w' => e = .returned (.int .i64 0) ∧ Below w.heap.size w w' := by
  go_enter Try.func70, Try.ntmps70
  go_wp2
  go_ret
  exact ⟨rfl, Below.refl _ _⟩
set_option maxHeartbeats 1000000 in
theorem nil_blocks (w : World) : Calls Try.prog 38 #[.pointer none] w fun e w' => e = .returned (.int .i64 0) ∧ Below w.heap.size w w' := by
  go_enter Try.func38, Try.ntmps38
  go_wp2
  go_ret
  exact ⟨rfl, Below.refl _ _⟩
set_option maxHeartbeats 1000000 in
theorem nil_dump (w : World) : Calls Try.prog 30 #[.pointer none] w fun e w' => (∃ a c, e = .returned (.slice a 0 c)) ∧ Below w.heap.size w w' := by
  go_enter Try.func30, Try.ntmps30
  go_wp2
  go_ret
  exact ⟨⟨_, _, rfl⟩, Below.refl _ _⟩
set_option maxHeartbeats 1000000 in
theorem kpending (k : KD) (w : World) (h : IsKD w k) (hl : k.ws.length ≤ 100000) : Calls Try.prog 70 #[.pointer (some ⟨k.a, 0, none⟩)] w fun e w' => e = .returned (.int .i64 (4 * (k.ws.length : Int))) ∧ w' = w := by
  obtain ⟨x0, x1, x2, x3, x4, xf⟩ := kd_cells h.box
  obtain ⟨pa, pc, hp⟩ := h.pend.form
  rw [hp] at x1
  clear h hp
  generalize k.ws.length = n at *
  generalize k.a = a at *
  go_enter Try.func70, Try.ntmps70
  go_wp2
  go_ret
  exact ⟨by go_num, rfl⟩
theorem ppending_any (A : Nat → Prop) (v : Value) (d : DM) (w : World) (hK : IsK A w v d) (hF : Fit d) : Calls Try.prog 70 #[v] w fun e w' => e = .returned (.int .i64 (d.l.length : Int)) ∧ Below w.heap.size w w' := by
  obtain ⟨k, rfl, rfl, h1, h2⟩ := hK
  have hl := hF.l
  have e : d.l.length = 4 * k.ws.length := by rw [h2.l, pcs_len]
  refine (kpending k w h1 (by omega)).mono ?_
  rintro e1 w1 ⟨rfl, rfl⟩
  exact ⟨by rw [e]; simp, Below.refl _ _⟩
set_option maxHeartbeats 1000000 in
theorem kblocks (k : KD) (w : World) (h : IsKD w k) : Calls Try.prog 38 #[.pointer (some ⟨k.a, 0, none⟩)] w fun e w' => e = .returned (.int .i64 (k.n : Int)) ∧ w' = w := by
  obtain ⟨x0, x1, x2, x3, x4, xf⟩ := kd_cells h.box
  clear h
  generalize k.n = n at *
  generalize k.a = a at *
  go_enter Try.func38, Try.ntmps38
  go_wp2
  go_ret
  exact ⟨rfl, rfl⟩
theorem pblocks_any (A : Nat → Prop) (v : Value) (d : DM) (w : World) (hK : IsK A w v d) (hF : Fit d) : Calls Try.prog 38 #[v] w fun e w' => e = .returned (.int .i64 ((d.safe.length / 4 : Nat) : Int)) ∧ Below w.heap.size w w' := by
  obtain ⟨k, rfl, rfl, h1, h2⟩ := hK
  refine (kblocks k w h1).mono ?_
  rintro e1 w1 ⟨rfl, rfl⟩
  exact ⟨by rw [h2.n4, show 4 * k.n / 4 = k.n by omega], Below.refl _ _⟩
set_option maxHeartbeats 1000000 in
theorem khas (k : KD) (n : Int) (w : World) (h : IsKD w k) : Calls Try.prog 58 #[.pointer (some ⟨k.a, 0, none⟩), .int .i64 n] w fun e w' => e = .returned (.bool (decide (0 ≤ n) && decide (n < (k.n : Int)))) ∧ w' = w := by
  obtain ⟨x0, x1, x2, x3, x4, xf⟩ := kd_cells h.box
  clear h
  generalize k.n = m at *
  generalize k.a = a at *
  by_cases h0 : 0 ≤ n
  · rw [decide_eq_true h0, Bool.true_and]
    by_cases h1 : n < (m : Int)
    · rw [decide_eq_true h1]
      go_enter Try.func58, Try.ntmps58
      go_wp2
      go_ret
      exact ⟨rfl, rfl⟩
    · rw [decide_eq_false h1]
      go_enter Try.func58, Try.ntmps58
      go_wp2
      go_ret
      exact ⟨rfl, rfl⟩
  · rw [decide_eq_false h0, Bool.false_and]
    go_enter Try.func58, Try.ntmps58
    go_wp2
    go_ret
    exact ⟨rfl, rfl⟩
/-- What powered leaves. -/
def PowR (k : KD) (d : DM) (w : World) (e : Ending) (w' : World) : Prop := e = .returned (.bool (spendD d).2) ∧ ∃ left off, IsKD w' { k with left := left, off := off } ∧ KRel { k with left := left, off := off } (spendD d).1 ∧ ButA (fun j => j = k.a) w w'
theorem powR_same {k : KD} {d : DM} {w : World} {b : Bool} (h : IsKD w k) (hb : (spendD d).2 = b) (hR : KRel k (spendD d).1) : PowR k d w (.returned (.bool b)) w := ⟨by rw [hb], k.left, k.off, h, hR, ButA.refl _ _⟩
theorem powR_set {k : KD} {d : DM} {w : World} {b : Bool} (left : Int) (off : Bool) (h : IsKD w k) (hb : (spendD d).2 = b) (hR : KRel { k with left := left, off := off } (spendD d).1) (o : Nat) (v : Value) (hv : (kdC k).setIfInBounds o v = kdC { k with left := left, off := off }) : PowR k d w (.returned (.bool b)) (w.setCell ⟨k.a, o, none⟩ v) := by
  have hb1 : ButA (fun j => j = k.a) w (w.setCell ⟨k.a, o, none⟩ v) := ButA.setCell (A := fun j => j = k.a) (ButA.refl _ w) (a := ⟨k.a, o, none⟩) (.inl rfl) v
  refine ⟨by rw [hb], left, off, ?_, hR, hb1⟩
  refine h.fields k.fu left off hb1 ?_
  have h1 := heap_box_set h.box o v
  rw [hv] at h1
  exact h1
set_option maxHeartbeats 4000000 in
theorem kpowered (k : KD) (d : DM) (w : World) (h : IsKD w k) (hR : KRel k d) (hl : 0 ≤ d.left ∧ d.left ≤ 9223372036854775807) : Calls Try.prog 59 #[.pointer (some ⟨k.a, 0, none⟩)] w (PowR k d w) := by
  obtain ⟨x0, x1, x2, x3, x4, xf⟩ := kd_cells h.box
  obtain ⟨a, g, n, F, pv, ws, fu, left, off⟩ := k
  have hoff : off = d.off := hR.off_
  have hon : d.off = false → fu = d.fuse ∧ left = d.left := hR.on
  simp only [] at x0 x1 x2 x3 x4 xf
  have HS := hide (fun b hb hR => powR_same (d := d) (b := b) h hb hR)
  have HT := hide (fun left off b hb hR o v hv => powR_set (d := d) (b := b) left off h hb hR o v hv)
  have HR := hide hR
  clear hR h
  cases off
  · have ho : d.off = false := hoff.symm
    obtain ⟨rfl, rfl⟩ := hon ho
    cases hf : d.fuse
    · have hs : spendD d = (d, true) := by simp [spendD, ho, hf]
      have HG := hide (HS.out true (by rw [hs]) (by rw [hs]; exact HR.out))
      rw [hf] at x2 HG
      clear HS HT HR hs hoff hon ho hf hl
      generalize d.left = left at *
      go_enter Try.func59, Try.ntmps59
      go_wp2
      go_ret
      exact HG.out
    · by_cases h0 : d.left = 0
      · have hs : spendD d = ({ d with off := true, fuse := false }, false) := by simp [spendD, ho, hf, h0]
        have HG := hide (HT.out d.left true false (by rw [hs]) (by rw [hs]; exact HR.out.spend rfl rfl rfl (fun e => by cases e)) 4 (.bool true) rfl)
        rw [hf, h0] at HG
        rw [hf] at x2
        rw [h0] at x3
        have y4 : (w.setCell ⟨a, 4, none⟩ (.bool true)).cell? ⟨a, 4, none⟩ = some (.bool true) := World.cell?_setCell_same _ _ _ x4
        clear HS HT HR hs hl h0 hoff hon ho hf
        go_enter Try.func59, Try.ntmps59
        go_wp2
        go_ret
        exact HG.out
      · have hs : spendD d = ({ d with left := d.left - 1 }, true) := by simp [spendD, ho, hf, h0]
        have HG := hide (HT.out (d.left - 1) false true (by rw [hs]) (by rw [hs]; exact HR.out.spend rfl rfl ho.symm (fun _ => ⟨rfl, rfl⟩)) 3 (.int .i64 (d.left - 1)) rfl)
        rw [hf] at x2 HG
        have h0b : (d.left == 0) = false := by simp [h0]
        have hw : wrap64 (d.left - 1) = d.left - 1 := by unfold wrap64; omega
        clear HS HT HR hs hoff hon ho hf
        generalize d.left = left at *
        clear h0
        go_enter Try.func59, Try.ntmps59
        go_wp2
        go_ret
        exact HG.out
  · have ho : d.off = true := hoff.symm
    have hs : spendD d = ({ d with off := true, fuse := false }, false) := by simp [spendD, ho]
    have HG := hide (HS.out false (by rw [hs]) (by rw [hs]; exact HR.out.spend rfl rfl rfl (fun e => by cases e)))
    have HG2 := hide (HT.out left true false (by rw [hs]) (by rw [hs]; exact HR.out.spend rfl rfl rfl (fun e => by cases e)) 4 (.bool true) rfl)
    have y4 : (w.setCell ⟨a, 4, none⟩ (.bool true)).cell? ⟨a, 4, none⟩ = some (.bool true) := World.cell?_setCell_same _ _ _ x4
    clear HS HT HR hs hoff hon ho hl
    cases fu
    · go_enter Try.func59, Try.ntmps59
      go_wp2
      go_ret
      exact HG.out
    · by_cases h0 : left = 0
      · subst h0
        go_enter Try.func59, Try.ntmps59
        go_wp2
        go_ret
        exact HG2.out
      · have h0b : (left == 0) = false := by simp [h0]
        clear h0
        go_enter Try.func59, Try.ntmps59
        go_wp2
        go_ret
        exact HG.out
theorem ButA.box {k : KD} {w w' : World} (h : ButA (fun j => j = k.a) w w') : ButA (kdA k) w w' := h.mono fun j hj => .inl hj
set_option maxHeartbeats 4000000 in
theorem pflush_any (A : Nat → Prop) (v : Value) (d : DM) (w : World) (hK : IsK A w v d) (hF : Fit d) : Calls Try.prog 51 #[v] w fun e w' => e = .returned (.int .i64 (flushD d).2) ∧ KR IsK A w v (flushD d).1 w' := by
  obtain ⟨k, rfl, rfl, h1, h2⟩ := hK
  have HP := hide (kpowered k d w h1 h2 hF.left)
  cases hs : (spendD d).2
  · have HF : Hid (∀ x left off, IsKD x { k with left := left, off := off } → KRel { k with left := left, off := off } (spendD d).1 → ButA (fun j => j = k.a) w x → KR IsK (kdA k) w (.pointer (some ⟨k.a, 0, none⟩)) (flushD d).1 x) := hide (fun x left off a b c => by
      have e : flushD d = ((spendD d).1, 9) := by unfold flushD; rw [hs]; rfl
      rw [e]
      exact ⟨kdA k, ⟨{ k with left := left, off := off }, rfl, rfl, a, b⟩, Grew.refl _ _, c.box⟩)
    have e2 : (flushD d).2 = 9 := by unfold flushD; rw [hs]; rfl
    rw [e2]
    clear h1 h2 e2
    go_enter Try.func51, Try.ntmps51
    go_wp2_with fail
    refine HP.out.mono ?_
    rintro e w1 ⟨rfl, left, off, a, b, c⟩
    rw [hs]
    have HG := hide (HF.out w1 left off a b c)
    clear HF HP hs a b c
    go_wp2
    go_ret
    exact ⟨rfl, HG.out⟩
  · have HF : Hid (∀ x left off, IsKD x { k with left := left, off := off } → KRel { k with left := left, off := off } (spendD d).1 → ButA (fun j => j = k.a) w x → KR IsK (kdA k) w (.pointer (some ⟨k.a, 0, none⟩)) (flushD d).1 (x.setCell ⟨k.a, 1, none⟩ (.slice none 0 0))) := hide (fun x left off a b c => by
      have e : flushD d = ({ (spendD d).1 with safe := nowD (spendD d).1, l := [] }, 0) := by unfold flushD; rw [hs]; rfl
      rw [e]
      have hb := heap_box_set a.box 1 (.slice none 0 0)
      have ho : ∀ j, j ≠ k.a → (x.setCell ⟨k.a, 1, none⟩ (.slice none 0 0)).heap[j]? = x.heap[j]? := fun j hj => Below.heap_setCell _ _ _ _ hj
      refine ⟨kdA { k with left := left, off := off, pv := .slice none 0 0, ws := [] }, ⟨{ k with left := left, off := off, pv := .slice none 0 0, ws := [] }, rfl, rfl, ⟨hb, (ho _ (fun e => a.ag e.symm)).trans a.blk, PendAt.nil _, a.ag, fun j hj => by cases hj⟩, b.flush⟩, fun j hj => ?_, ButA.setCell c.box (.inl (.inl rfl)) _⟩
      rcases hj with hj | hj | hj
      · exact .inl (.inl hj)
      · exact .inl (.inr (.inl hj))
      · cases hj)
    have e2 : (flushD d).2 = 0 := by unfold flushD; rw [hs]; rfl
    rw [e2]
    clear h1 h2 e2
    go_enter Try.func51, Try.ntmps51
    go_wp2_with fail
    refine HP.out.mono ?_
    rintro e w1 ⟨rfl, left, off, a, b, c⟩
    rw [hs]
    have HG := hide (HF.out w1 left off a b c)
    obtain ⟨x0, x1, x2, x3, x4, xf⟩ := kd_cells a.box
    obtain ⟨pa, pc, hp⟩ := a.pend.form
    simp only [] at x0 x1 x2 x3 x4 xf hp
    rw [hp] at x1
    clear HF HP hs a b c hp
    generalize k.ws.length = n at *
    go_wp2
    go_ret
    exact ⟨rfl, HG.out⟩
set_option maxHeartbeats 4000000 in
theorem pfuse_any (A : Nat → Prop) (v : Value) (d : DM) (n : Int) (w : World) (hK : IsK A w v d) (hF : Fit d) (hn : -9223372036854775808 ≤ n ∧ n ≤ 9223372036854775807) : Calls Try.prog 22 #[v, .int .i64 n] w fun e w' => e = .returned (.tuple #[]) ∧ KR IsK A w v (armD d n) w' := by
  obtain ⟨k, rfl, rfl, h1, h2⟩ := hK
  obtain ⟨x0, x1, x2, x3, x4, xf⟩ := kd_cells h1.box
  have hoff : k.off = d.off := h2.off_
  cases ho : d.off
  · rw [ho] at hoff
    rw [hoff] at x4
    have e : armD d n = { d with fuse := true, left := if n < 0 then 0 else n } := by unfold armD; rw [ho]; rfl
    have em : max n 0 = if n < 0 then 0 else n := by split <;> omega
    have HF := hide (show KR IsK (kdA k) w (.pointer (some ⟨k.a, 0, none⟩)) (armD d n) ((w.setCell ⟨k.a, 2, none⟩ (.bool true)).setCell ⟨k.a, 3, none⟩ (.int .i64 (max n 0))) from by
      rw [e]
      have hb1 : ButA (fun j => j = k.a) w ((w.setCell ⟨k.a, 2, none⟩ (.bool true)).setCell ⟨k.a, 3, none⟩ (.int .i64 (max n 0))) := ButA.setCell (ButA.setCell (A := fun j => j = k.a) (ButA.refl _ w) (a := ⟨k.a, 2, none⟩) (.inl rfl) _) (a := ⟨k.a, 3, none⟩) (.inl rfl) _
      have hb := heap_box_set (heap_box_set h1.box 2 (.bool true)) 3 (.int .i64 (max n 0))
      exact ⟨kdA k, ⟨{ k with fu := true, left := max n 0 }, rfl, rfl, h1.fields true (max n 0) k.off hb1 hb, h2.spend rfl rfl (by rw [hoff]; exact ho.symm) (fun _ => ⟨rfl, em⟩)⟩, Grew.refl _ _, hb1.box⟩)
    have y3 : (w.setCell ⟨k.a, 2, none⟩ (.bool true)).cell? ⟨k.a, 3, none⟩ = some (.int .i64 k.left) := (World.cell?_setCell_other _ _ _ _ (by intro e; injection e; omega)).trans x3
    have y4 : (w.setCell ⟨k.a, 2, none⟩ (.bool true)).frozen? ⟨k.a, 3, none⟩ = false := by rw [World.frozen?_setCell]; exact xf 3
    clear h1 h2 e em hoff ho
    generalize k.left = left at *
    generalize k.a = a at *
    go_enter Try.func22, Try.ntmps22
    go_wp2
    · go_end0
      have hh := HF.out
      rw [show max n 0 = 0 by omega] at hh
      exact ⟨rfl, hh⟩
    · go_end0
      have hh := HF.out
      rw [show max n 0 = n by omega] at hh
      exact ⟨rfl, hh⟩
  · rw [ho] at hoff
    rw [hoff] at x4
    have e : armD d n = d := by unfold armD; rw [ho]; rfl
    have HF := hide (show KR IsK (kdA k) w (.pointer (some ⟨k.a, 0, none⟩)) (armD d n) w from by
      rw [e]
      exact ⟨kdA k, ⟨k, rfl, rfl, h1, h2⟩, Grew.refl _ _, ButA.refl _ _⟩)
    clear h1 h2 e hoff ho
    generalize k.left = left at *
    generalize k.a = a at *
    go_enter Try.func22, Try.ntmps22
    go_wp2
    refine bodyPost_ret (results_none rfl _ _ _) rfl ?_
    exact ⟨rfl, HF.out⟩
end Go.Proofs.Ythpepkfodcgbcaa
/- Bytes that lie there; what the walks share. -/
set_option linter.unusedVariables false
set_option linter.unusedSimpArgs false
set_option maxRecDepth 4000
namespace Go.Proofs.Ythpepkfodcgbcaa
open Go.RowKit

end Go.Proofs.Ythpepkfodcgbcaa
/- The check sum, plainly: over 32 bits. No program in it. -/
set_option linter.unusedVariables false
set_option linter.unusedSimpArgs false
namespace Go.Proofs.Ythpepkfodcgbcaa

/-- One bit further, the lowest bit first. -/
def tB (x : BitVec 32) : BitVec 32 := (x >>> 1) ^^^ (if x.getLsbD 0 then 0xEDB88320#32 else 0#32)
theorem if_xor (a b : Bool) (c : BitVec 32) : (if (a ^^ b) then c else 0#32) = (if a then c else 0#32) ^^^ (if b then c else 0#32) := by
  cases a <;> cases b <;> simp
theorem tB_xor (x y : BitVec 32) : tB (x ^^^ y) = tB x ^^^ tB y := by
  unfold tB
  rw [BitVec.getLsbD_xor, if_xor, BitVec.ushiftRight_xor_distrib]
  ac_rfl
theorem tB_top (x : BitVec 32) : (tB x).getLsbD 31 = x.getLsbD 0 := by
  unfold tB
  rw [BitVec.getLsbD_xor, BitVec.getLsbD_ushiftRight, BitVec.getLsbD_of_ge x (1 + 31) (by decide)]
  cases x.getLsbD 0 <;> decide
theorem tB_inj {x y : BitVec 32} (h : tB x = tB y) : x = y := by
  have h0 : x.getLsbD 0 = y.getLsbD 0 := by rw [← tB_top x, ← tB_top y, h]
  have h1 : x >>> 1 = y >>> 1 := by
    unfold tB at h
    rw [h0] at h
    have := congrArg (· ^^^ (if y.getLsbD 0 then 0xEDB88320#32 else 0#32)) h
    simpa [BitVec.xor_assoc] using this
  apply BitVec.eq_of_getLsbD_eq
  intro i hi
  cases i with
  | zero => exact h0
  | succ i =>
    have := congrArg (fun z => z.getLsbD i) h1
    simp only [BitVec.getLsbD_ushiftRight] at this
    rw [Nat.add_comm]
    exact this
def tN : Nat → BitVec 32 → BitVec 32
  | 0, x => x
  | n + 1, x => tN n (tB x)
theorem tN_xor : ∀ (n : Nat) (x y : BitVec 32), tN n (x ^^^ y) = tN n x ^^^ tN n y
  | 0, _, _ => rfl
  | n + 1, x, y => by rw [tN, tN, tN, tB_xor, tN_xor n]
theorem tN_inj : ∀ (n : Nat) {x y : BitVec 32}, tN n x = tN n y → x = y
  | 0, _, _, h => h
  | n + 1, x, y, h => tB_inj (tN_inj n h)
/-- A byte more. -/
def byB (x : BitVec 32) (c : UInt8) : BitVec 32 := tN 8 (x ^^^ c.toBitVec.zeroExtend 32)
def foldB (x : BitVec 32) (l : List UInt8) : BitVec 32 := l.foldl byB x
def moreB (s : BitVec 32) (l : List UInt8) : BitVec 32 := foldB (s ^^^ 0xFFFFFFFF#32) l ^^^ 0xFFFFFFFF#32
def sumB (l : List UInt8) : BitVec 32 := moreB 0#32 l
/-! The promises. -/
theorem xor_twice (x c : BitVec 32) : (x ^^^ c) ^^^ c = x := by rw [BitVec.xor_assoc, BitVec.xor_self, BitVec.xor_zero]
theorem more_nil (s : BitVec 32) : moreB s [] = s := xor_twice s _
theorem sum_nil : sumB [] = 0#32 := more_nil _
theorem more_app (s : BitVec 32) (a b : List UInt8) : moreB (moreB s a) b = moreB s (a ++ b) := by
  unfold moreB foldB
  rw [xor_twice, List.foldl_append]
theorem more_sum (a b : List UInt8) : moreB (sumB a) b = sumB (a ++ b) := more_app _ _ _
theorem byB_inj {x y : BitVec 32} {c : UInt8} (h : byB x c = byB y c) : x = y := by
  have h1 := tN_inj 8 h
  have := congrArg (· ^^^ c.toBitVec.zeroExtend 32) h1
  simpa only [xor_twice] using this
theorem byB_byte {x : BitVec 32} {c d : UInt8} (h : byB x c = byB x d) : c = d := by
  have h1 := tN_inj 8 h
  have h2 : c.toBitVec.zeroExtend 32 = d.toBitVec.zeroExtend 32 := by
    have := congrArg (x ^^^ ·) h1
    simp only [← BitVec.xor_assoc, BitVec.xor_self, BitVec.zero_xor] at this
    exact this
  have h3 := congrArg BitVec.toNat h2
  simp only [BitVec.truncate_eq_setWidth, BitVec.toNat_setWidth] at h3
  have hc := c.toBitVec.isLt
  have hd := d.toBitVec.isLt
  apply UInt8.toBitVec_inj.1
  apply BitVec.eq_of_toNat_eq
  omega
theorem fold_inj : ∀ (l : List UInt8) {x y : BitVec 32}, foldB x l = foldB y l → x = y
  | [], _, _, h => h
  | c :: r, x, y, h => byB_inj (fold_inj r h)
/-- One byte another one: another sum. -/
theorem sum_one (a : List UInt8) (c d : UInt8) (b : List UInt8) : sumB (a ++ c :: b) = sumB (a ++ d :: b) ↔ c = d := by
  refine ⟨fun h => ?_, fun h => by rw [h]⟩
  unfold sumB moreB at h
  have h1 := congrArg (· ^^^ 0xFFFFFFFF#32) h
  simp only [xor_twice] at h1
  unfold foldB at h1
  rw [List.foldl_append, List.foldl_append, List.foldl_cons, List.foldl_cons] at h1
  exact byB_byte (fold_inj b h1)
theorem byB_three (x y z : BitVec 32) (c d e : UInt8) : byB (x ^^^ y ^^^ z) (c ^^^ d ^^^ e) = byB x c ^^^ byB y d ^^^ byB z e := by
  unfold byB
  rw [← tN_xor, ← tN_xor]
  congr 1
  have : (c ^^^ d ^^^ e).toBitVec.zeroExtend 32 = c.toBitVec.zeroExtend 32 ^^^ d.toBitVec.zeroExtend 32 ^^^ e.toBitVec.zeroExtend 32 := by
    simp
  rw [this]
  ac_rfl
def over3 : List UInt8 → List UInt8 → List UInt8 → List UInt8
  | a :: r, b :: s, c :: t => (a ^^^ b ^^^ c) :: over3 r s t
  | _, _, _ => []
theorem fold_three : ∀ (l m n : List UInt8) (x y z : BitVec 32), l.length = m.length → l.length = n.length → foldB (x ^^^ y ^^^ z) (over3 l m n) = foldB x l ^^^ foldB y m ^^^ foldB z n
  | [], [], [], x, y, z, _, _ => rfl
  | a :: r, b :: s, c :: t, x, y, z, h1, h2 => by
    show foldB (byB (x ^^^ y ^^^ z) (a ^^^ b ^^^ c)) (over3 r s t) = foldB (byB x a) r ^^^ foldB (byB y b) s ^^^ foldB (byB z c) t
    rw [byB_three]
    exact fold_three r s t _ _ _ (by simpa using h1) (by simpa using h2)
/-- Side by side. -/
theorem sum_three (l m n : List UInt8) (h1 : l.length = m.length) (h2 : l.length = n.length) : sumB l ^^^ sumB m ^^^ sumB n = sumB (over3 l m n) := by
  unfold sumB moreB
  have e0 : (0#32 ^^^ 0xFFFFFFFF#32 : BitVec 32) = 0xFFFFFFFF#32 := by decide
  have e3 : (0xFFFFFFFF#32 ^^^ 0xFFFFFFFF#32 ^^^ 0xFFFFFFFF#32 : BitVec 32) = 0xFFFFFFFF#32 := by decide
  have e1 := fold_three l m n 0xFFFFFFFF#32 0xFFFFFFFF#32 0xFFFFFFFF#32 h1 h2
  rw [e3] at e1
  rw [e0, e1]
  generalize foldB 0xFFFFFFFF#32 l = A
  generalize foldB 0xFFFFFFFF#32 m = B
  generalize foldB 0xFFFFFFFF#32 n = C
  rw [show A ^^^ 0xFFFFFFFF#32 ^^^ (B ^^^ 0xFFFFFFFF#32) ^^^ (C ^^^ 0xFFFFFFFF#32) = (A ^^^ B ^^^ C) ^^^ (0xFFFFFFFF#32 ^^^ 0xFFFFFFFF#32 ^^^ 0xFFFFFFFF#32) from by ac_rfl, e3]
end Go.Proofs.Ythpepkfodcgbcaa
/- Cells, plainly: over lists of bytes. No program in it. -/
set_option linter.unusedVariables false
set_option linter.unusedSimpArgs false
namespace Go.Proofs.Ythpepkfodcgbcaa

/-- A number in so many bytes, the highest first. -/
def putB (n : Nat) : Nat → List UInt8
  | 0 => []
  | k + 1 => UInt8.ofNat (n / 256 ^ k) :: putB n k
/-- The number that bytes are, behind what was read before. -/
def numF (n : Nat) (l : List UInt8) : Nat := l.foldl (fun n c => n * 256 + c.toNat) n
def numB (l : List UInt8) : Nat := numF 0 l
theorem put_len (n : Nat) : ∀ k, (putB n k).length = k
  | 0 => rfl
  | k + 1 => by rw [putB, List.length_cons, put_len n k]
theorem num_from : ∀ (l : List UInt8) (n : Nat), numF n l = n * 256 ^ l.length + numF 0 l
  | [], n => by simp [numF]
  | c :: l, n => by
    have h1 := num_from l (n * 256 + c.toNat)
    have h2 := num_from l (0 * 256 + c.toNat)
    have e1 : numF n (c :: l) = numF (n * 256 + c.toNat) l := rfl
    have e2 : numF 0 (c :: l) = numF (0 * 256 + c.toNat) l := rfl
    rw [e1, e2, h1, h2, List.length_cons, Nat.pow_succ]
    rw [Nat.zero_mul, Nat.zero_add, Nat.add_mul, Nat.mul_assoc, Nat.mul_comm 256, Nat.add_assoc]
theorem num_lt : ∀ (l : List UInt8), numB l < 256 ^ l.length
  | [] => by simp [numB, numF]
  | c :: l => by
    have h := num_lt l
    have hc := c.toNat_lt
    have e : numB (c :: l) = numF c.toNat l := by
      show numF (0 * 256 + c.toNat) l = _
      rw [Nat.zero_mul, Nat.zero_add]
    rw [e, num_from]
    have : numF 0 l < 256 ^ l.length := h
    rw [List.length_cons, Nat.pow_succ, Nat.mul_comm]
    have h3 : 256 ^ l.length * c.toNat + 256 ^ l.length ≤ 256 ^ l.length * 256 := by
      rw [← Nat.mul_succ]; exact Nat.mul_le_mul_left _ hc
    omega
theorem put_mod : ∀ (k n : Nat), numB (putB n k) = n % 256 ^ k
  | 0, n => by simp [putB, numB, numF, Nat.mod_one]
  | k + 1, n => by
    have e : numB (putB n (k + 1)) = numF (UInt8.ofNat (n / 256 ^ k)).toNat (putB n k) := by
      show numF (0 * 256 + _) _ = _
      rw [Nat.zero_mul, Nat.zero_add]
    have h := put_mod k n
    rw [e, num_from, put_len]
    have : numF 0 (putB n k) = n % 256 ^ k := h
    rw [this, UInt8.toNat_ofNat', show 256 ^ (k + 1) = 256 ^ k * 256 from Nat.pow_succ .., Nat.mod_mul (a := 256 ^ k), Nat.mul_comm, Nat.add_comm]
theorem num_put {n k : Nat} (h : n < 256 ^ k) : numB (putB n k) = n := by rw [put_mod, Nat.mod_eq_of_lt h]
theorem put_inj {n m k : Nat} (hn : n < 256 ^ k) (hm : m < 256 ^ k) (h : putB n k = putB m k) : n = m := by
  rw [← num_put hn, ← num_put hm, h]

/-- A cell. -/
structure CL where
  ep : Nat
  li : Nat
  part : Int
  of : Int
  data : List UInt8
abbrev mayC (c : CL) : Prop := 0 ≤ c.part ∧ c.part < c.of ∧ c.of ≤ 65535 ∧ c.data.length ≤ 39
def headC (c : CL) : List UInt8 := putB c.ep 8 ++ (putB c.li 8 ++ (putB c.part.toNat 2 ++ (putB c.of.toNat 2 ++ (putB c.data.length 1 ++ c.data))))
def bodyC (c : CL) : List UInt8 := headC c ++ List.replicate (39 - c.data.length) 0
def encC (c : CL) : List UInt8 := bodyC c ++ putB (sumB (bodyC c)).toNat 4
/-- What bytes are, read loosely. -/
def readC (b : List UInt8) : CL :=
  ⟨numB (b.take 8), numB ((b.drop 8).take 8), numB ((b.drop 16).take 2), numB ((b.drop 18).take 2), (b.drop 21).take (numB ((b.drop 20).take 1))⟩
def decC (b : List UInt8) : Option CL :=
  if b.length = 64 ∧ numB ((b.drop 20).take 1) ≤ 39 ∧ mayC (readC b) ∧ encC (readC b) = b then some (readC b) else none

theorem head_len (c : CL) : (headC c).length = 21 + c.data.length := by
  simp only [headC, List.length_append, put_len]; omega
theorem body_len (c : CL) (h : c.data.length ≤ 39) : (bodyC c).length = 60 := by
  rw [bodyC, List.length_append, head_len, List.length_replicate]; omega
theorem enc_len (c : CL) (h : c.data.length ≤ 39) : (encC c).length = 64 := by
  rw [encC, List.length_append, body_len c h, put_len]

theorem drop_put (n k : Nat) (l : List UInt8) : (putB n k ++ l).drop k = l := by
  conv => lhs; arg 1; rw [← put_len n k]
  exact List.drop_left
theorem take_put (n k : Nat) (l : List UInt8) : (putB n k ++ l).take k = putB n k := by
  conv => lhs; arg 1; rw [← put_len n k]
  exact List.take_left

theorem read_enc (c : CL) (hm : mayC c) (he : c.ep < 2 ^ 64) (hl : c.li < 2 ^ 64) :
    readC (encC c) = c ∧ numB (((encC c).drop 20).take 1) = c.data.length := by
  obtain ⟨h0, h1, h2, h3⟩ := hm
  obtain ⟨ep, li, part, of, data⟩ := c
  simp only at h0 h1 h2 h3 he hl
  generalize ht : List.replicate (39 - data.length) (0 : UInt8) ++ putB (sumB (bodyC ⟨ep, li, part, of, data⟩)).toNat 4 = t
  have e0 : encC ⟨ep, li, part, of, data⟩ = putB ep 8 ++ (putB li 8 ++ (putB part.toNat 2 ++ (putB of.toNat 2 ++ (putB data.length 1 ++ (data ++ t))))) := by
    rw [← ht, encC]
    conv => lhs; arg 1; rw [bodyC]
    simp only [headC, List.append_assoc]
  have d8 : (encC ⟨ep, li, part, of, data⟩).drop 8 = putB li 8 ++ (putB part.toNat 2 ++ (putB of.toNat 2 ++ (putB data.length 1 ++ (data ++ t)))) := by rw [e0, drop_put]
  have d16 : (encC ⟨ep, li, part, of, data⟩).drop 16 = putB part.toNat 2 ++ (putB of.toNat 2 ++ (putB data.length 1 ++ (data ++ t))) := by
    rw [show (16 : Nat) = 8 + 8 from rfl, ← List.drop_drop, d8, drop_put]
  have d18 : (encC ⟨ep, li, part, of, data⟩).drop 18 = putB of.toNat 2 ++ (putB data.length 1 ++ (data ++ t)) := by
    rw [show (18 : Nat) = 16 + 2 from rfl, ← List.drop_drop, d16, drop_put]
  have d20 : (encC ⟨ep, li, part, of, data⟩).drop 20 = putB data.length 1 ++ (data ++ t) := by
    rw [show (20 : Nat) = 18 + 2 from rfl, ← List.drop_drop, d18, drop_put]
  have d21 : (encC ⟨ep, li, part, of, data⟩).drop 21 = data ++ t := by
    rw [show (21 : Nat) = 20 + 1 from rfl, ← List.drop_drop, d20, drop_put]
  have n1 : numB (((encC ⟨ep, li, part, of, data⟩).drop 20).take 1) = data.length := by
    rw [d20, take_put, num_put (by omega)]
  refine ⟨?_, n1⟩
  rw [readC, n1, d8, d16, d18, d21, take_put, take_put, take_put, List.take_left]
  rw [num_put (show li < 256 ^ 8 by omega), num_put (show part.toNat < 256 ^ 2 by omega), num_put (show of.toNat < 256 ^ 2 by omega)]
  rw [e0, take_put, num_put (show ep < 256 ^ 8 by omega), Int.toNat_of_nonneg h0, Int.toNat_of_nonneg (by omega)]
/-- P16.2: what is encoded is decoded as it was. -/
theorem dec_enc (c : CL) (hm : mayC c) (he : c.ep < 2 ^ 64) (hl : c.li < 2 ^ 64) : decC (encC c) = some c := by
  have ⟨r, n⟩ := read_enc c hm he hl
  rw [decC, r, if_pos ⟨enc_len c hm.2.2.2, by rw [n]; exact hm.2.2.2, hm, rfl⟩]
/-- P16.2: what is decoded is encoded as it was. -/
theorem enc_dec {b : List UInt8} {c : CL} (h : decC b = some c) : b.length = 64 ∧ mayC c ∧ encC c = b ∧ c = readC b := by
  rw [decC] at h
  split at h
  · next g =>
    cases h
    exact ⟨g.1, g.2.2.1, g.2.2.2, rfl⟩
  · cases h
theorem enc_take (c : CL) (h : c.data.length ≤ 39) : (encC c).take 60 = bodyC c := by
  rw [encC, ← body_len c h, List.take_left]
theorem enc_drop (c : CL) (h : c.data.length ≤ 39) : (encC c).drop 60 = putB (sumB ((encC c).take 60)).toNat 4 := by
  rw [enc_take c h, encC]
  conv => lhs; arg 1; rw [← body_len c h]
  exact List.drop_left
/-- P16.3: with one byte another one they are none of any cell. -/
theorem dec_one {a b : List UInt8} {x y : UInt8} {c : CL} (h : decC (a ++ x :: b) = some c) (hn : x ≠ y) : decC (a ++ y :: b) = none := by
  cases hd : decC (a ++ y :: b) with
  | none => rfl
  | some d =>
    exfalso
    obtain ⟨l1, m1, e1, -⟩ := enc_dec h
    obtain ⟨l2, m2, e2, -⟩ := enc_dec hd
    have s1 := enc_drop c m1.2.2.2
    have s2 := enc_drop d m2.2.2.2
    rw [e1] at s1
    rw [e2] at s2
    by_cases ha : a.length < 60
    · obtain ⟨k, hk⟩ : ∃ k, 60 = a.length + (k + 1) := ⟨59 - a.length, by omega⟩
      have t1 : (a ++ x :: b).take 60 = a ++ x :: b.take k := by rw [hk, List.take_length_add_append, List.take_succ_cons]
      have t2 : (a ++ y :: b).take 60 = a ++ y :: b.take k := by rw [hk, List.take_length_add_append, List.take_succ_cons]
      have u1 : (a ++ x :: b).drop 60 = b.drop k := by rw [hk, List.drop_length_add_append, List.drop_succ_cons]
      have u2 : (a ++ y :: b).drop 60 = b.drop k := by rw [hk, List.drop_length_add_append, List.drop_succ_cons]
      rw [u1, t1] at s1
      rw [u2, t2] at s2
      have q := put_inj (BitVec.isLt _) (BitVec.isLt _) (s1.symm.trans s2)
      exact hn ((sum_one _ _ _ _).1 (BitVec.eq_of_toNat_eq q))
    · have hk : 60 ≤ a.length := by omega
      have t1 : (a ++ x :: b).take 60 = a.take 60 := List.take_append_of_le_length hk
      have t2 : (a ++ y :: b).take 60 = a.take 60 := List.take_append_of_le_length hk
      rw [t1] at s1
      rw [t2] at s2
      have w : a ++ x :: b = a ++ y :: b := by
        rw [← List.take_append_drop 60 (a ++ x :: b), ← List.take_append_drop 60 (a ++ y :: b), s1, s2, t1, t2]
      have := List.append_cancel_left w
      cases this
      exact hn rfl

/-- A record's pieces: at most k of them, of 39 bytes each but the last. -/
def piecesF : Nat → List UInt8 → List (List UInt8)
  | 0, _ => []
  | _ + 1, [] => []
  | k + 1, c :: b => (c :: b).take 39 :: piecesF k ((c :: b).drop 39)
theorem pieces_join : ∀ (k : Nat) (b : List UInt8), b.length ≤ 39 * k → (piecesF k b).flatten = b
  | 0, b, h => by cases b with | nil => rfl | cons c b => simp at h
  | k + 1, [], _ => rfl
  | k + 1, c :: b, h => by
    rw [piecesF, List.flatten_cons, pieces_join k _ (by rw [List.length_drop]; omega), List.take_append_drop]
theorem piecesF_len : ∀ (k : Nat) (b : List UInt8), b.length ≤ 39 * k → (piecesF k b).length = (b.length + 38) / 39
  | 0, b, h => by cases b with | nil => rfl | cons c b => simp at h
  | k + 1, [], _ => rfl
  | k + 1, c :: b, h => by
    rw [piecesF, List.length_cons, piecesF_len k _ (by rw [List.length_drop]; omega), List.length_drop]
    simp only [List.length_cons] at h ⊢
    omega
theorem pieces_short : ∀ (k : Nat) (b d : List UInt8), d ∈ piecesF k b → d.length ≤ 39 ∧ 0 < d.length
  | 0, _, _, h => by cases h
  | _ + 1, [], _, h => by cases h
  | k + 1, c :: b, d, h => by
    rw [piecesF] at h
    rcases List.mem_cons.1 h with h | h
    · subst h
      rw [List.length_take]
      simp only [List.length_cons]
      omega
    · exact pieces_short k _ d h
/-- The cells of a record's pieces, from the i-th on. -/
def cellsF (e l : Nat) (n : Int) : Nat → List (List UInt8) → List CL
  | _, [] => []
  | i, d :: ds => ⟨e, l, i, n, d⟩ :: cellsF e l n (i + 1) ds
def cutC (b : List UInt8) (e l : Nat) : List CL :=
  if b.length > 65535 * 39 then [] else cellsF e l ((b.length + 38) / 39 : Nat) 0 (piecesF b.length b)
theorem cells_data (e l : Nat) (n : Int) : ∀ (i : Nat) (ds : List (List UInt8)), (cellsF e l n i ds).map CL.data = ds
  | _, [] => rfl
  | i, d :: ds => by rw [cellsF, List.map_cons, cells_data e l n (i + 1) ds]
def sameC (a b : CL) : Bool := decide (a.ep = b.ep) && (decide (a.li = b.li) && (decide (a.part = b.part) && (decide (a.of = b.of) && decide (a.data = b.data))))
theorem sameC_iff {a b : CL} : sameC a b = true ↔ a = b := by
  unfold sameC
  simp only [Bool.and_eq_true, decide_eq_true_eq]
  constructor
  · rintro ⟨h1, h2, h3, h4, h5⟩
    cases a
    cases b
    simp_all
  · rintro rfl
    exact ⟨rfl, rfl, rfl, rfl, rfl⟩
def samesC : List CL → List CL → Bool
  | [], [] => true
  | a :: l, b :: m => sameC a b && samesC l m
  | _, _ => false
theorem samesC_iff : ∀ {l m : List CL}, samesC l m = true ↔ l = m
  | [], [] => by simp [samesC]
  | a :: l, [] => by simp [samesC]
  | [], b :: m => by simp [samesC]
  | a :: l, b :: m => by
    unfold samesC
    rw [Bool.and_eq_true, sameC_iff, samesC_iff, List.cons.injEq]
def dataC (l : List CL) : List UInt8 := (l.map CL.data).flatten
def joinC (l : List CL) : Option (List UInt8) :=
  match l with
  | [] => none
  | c :: _ => if samesC (cutC (dataC l) c.ep c.li) l then some (dataC l) else none
theorem cut_data (b : List UInt8) (e l : Nat) (h : b.length ≤ 65535 * 39) : dataC (cutC b e l) = b := by
  rw [dataC, cutC, if_neg (by omega), cells_data, pieces_join _ _ (by omega)]
/-- P16.2: what is cut is joined as it was. -/
theorem cut_join (b : List UInt8) (e l : Nat) (h : b.length ≤ 65535 * 39) : joinC (cutC b e l) = if b = [] then none else some b := by
  cases b with
  | nil => rfl
  | cons x b =>
    have hd := cut_data (x :: b) e l h
    obtain ⟨n, d, ds, hc⟩ : ∃ n d ds, cutC (x :: b) e l = ⟨e, l, 0, n, d⟩ :: ds := by
      rw [cutC, if_neg (by omega)]
      exact ⟨_, _, _, rfl⟩
    rw [if_neg (List.cons_ne_nil _ _), hc]
    show (if samesC (cutC (dataC (⟨e, l, 0, n, d⟩ :: ds)) e l) (⟨e, l, 0, n, d⟩ :: ds) then some (dataC (⟨e, l, 0, n, d⟩ :: ds)) else none) = _
    rw [← hc, hd, if_pos (samesC_iff.2 rfl)]
/-- Each cell of a record may be. -/
theorem cells_may (e l n : Nat) (hn : n ≤ 65535) : ∀ (i : Nat) (ds : List (List UInt8)), i + ds.length ≤ n → (∀ d ∈ ds, d.length ≤ 39) →
    ∀ c ∈ cellsF e l n i ds, mayC c ∧ c.ep = e ∧ c.li = l
  | _, [], _, _, c, h => by cases h
  | i, d :: ds, h1, h2, c, h => by
    rw [cellsF] at h
    simp only [List.length_cons] at h1
    rcases List.mem_cons.1 h with h | h
    · subst h
      refine ⟨⟨?_, ?_, ?_, h2 d (List.mem_cons_self ..)⟩, rfl, rfl⟩
      · exact Int.natCast_nonneg _
      · show (i : Int) < n
        omega
      · show (n : Int) ≤ 65535
        omega
    · exact cells_may e l n hn (i + 1) ds (by omega) (fun d h => h2 d (List.mem_cons_of_mem _ h)) c h
theorem cut_may (b : List UInt8) (e l : Nat) : ∀ c ∈ cutC b e l, mayC c ∧ c.ep = e ∧ c.li = l := by
  intro c h
  rw [cutC] at h
  split at h
  · cases h
  · next g =>
    exact cells_may e l _ (by omega) 0 _ (by rw [piecesF_len _ _ (by omega)]; omega) (fun d hd => (pieces_short _ _ d hd).1) c h
end Go.Proofs.Ythpepkfodcgbcaa
/- Logs, plainly: records that are read from sectors. No program in it. -/
set_option linter.unusedVariables false
set_option linter.unusedSimpArgs false
namespace Go.Proofs.Ythpepkfodcgbcaa

/-- The sectors of a record. -/
def secsC (b : Bs) (ep li : Nat) : List Bs := (cutC b ep li).map encC
def cellsL : List Bs → Option (List CL)
  | [] => some []
  | s :: r => match decC s with
    | none => none
    | some c => match cellsL r with
      | none => none
      | some cs => some (c :: cs)
/-- The record that begins here: its bytes, its life, how many sectors it has. -/
def recL (ep : Nat) (l : List Bs) : Option (Bs × Nat × Nat) :=
  match l with
  | [] => none
  | s :: _ => match decC s with
    | none => none
    | some c => if c.ep = ep ∧ c.part = 0 ∧ c.of.toNat ≤ l.length then
        match cellsL (l.take c.of.toNat) with
        | none => none
        | some cs => match joinC cs with
          | none => none
          | some b => some (b, c.li, c.of.toNat)
      else none
/-- The records that are read from here on, behind one of a life. -/
def readL (ep : Nat) : Nat → List Bs → Nat → List (Bs × Nat × Nat)
  | 0, _, _ => []
  | k + 1, l, least => match recL ep l with
    | none => []
    | some (b, li, n) => if least ≤ li then (b, li, n) :: readL ep k (l.drop n) li else []
theorem cells_enc : ∀ {l : List Bs} {cs : List CL}, cellsL l = some cs → l = cs.map encC ∧ ∀ c ∈ cs, decC (encC c) = some c
  | [], cs, h => by
    cases h
    exact ⟨rfl, fun c hc => by cases hc⟩
  | s :: r, cs, h => by
    unfold cellsL at h
    split at h
    · cases h
    · next c hc =>
      split at h
      · cases h
      · next ds hd =>
        cases h
        obtain ⟨h1, h2⟩ := cells_enc hd
        obtain ⟨_, _, e, _⟩ := enc_dec hc
        refine ⟨by rw [List.map_cons, ← h1, e], fun c' hc' => ?_⟩
        rcases List.mem_cons.1 hc' with rfl | hc'
        · rw [e]; exact hc
        · exact h2 c' hc'
theorem enc_cells : ∀ {cs : List CL}, (∀ c ∈ cs, decC (encC c) = some c) → cellsL (cs.map encC) = some cs
  | [], _ => rfl
  | c :: cs, h => by
    rw [List.map_cons]
    unfold cellsL
    rw [h c (List.mem_cons_self ..)]
    show (match cellsL (cs.map encC) with | none => none | some ds => some (c :: ds)) = _
    rw [enc_cells fun d hd => h d (List.mem_cons_of_mem _ hd)]
/-- A record such as may be cut. -/
structure RecOk (b : Bs) : Prop where
  ne : b ≠ []
  le : b.length ≤ 65535 * 39
theorem cut_dec {b : Bs} {ep li : Nat} (he : ep < 2 ^ 64) (hl : li < 2 ^ 64) : ∀ c ∈ cutC b ep li, decC (encC c) = some c := fun c hc => by
  obtain ⟨h1, h2, h3⟩ := cut_may b ep li c hc
  exact dec_enc c h1 (by rw [h2]; exact he) (by rw [h3]; exact hl)
theorem secs_mem {b : Bs} {ep li : Nat} (he : ep < 2 ^ 64) (hl : li < 2 ^ 64) {x : Bs} (h : x ∈ secsC b ep li) : ∃ c, decC x = some c ∧ c.ep = ep ∧ c.li = li ∧ x.length = 64 := by
  obtain ⟨c, hc, rfl⟩ := List.mem_map.1 h
  obtain ⟨h1, h2, h3⟩ := cut_may b ep li c hc
  exact ⟨c, cut_dec he hl c hc, h2, h3, enc_len c h1.2.2.2⟩
theorem cut_head {b : Bs} (ep li : Nat) (h : RecOk b) : ∃ d ds, cutC b ep li = ⟨ep, li, 0, ((b.length + 38) / 39 : Nat), d⟩ :: ds := by
  obtain ⟨h1, h2⟩ := h
  cases b with
  | nil => exact absurd rfl h1
  | cons x b =>
    rw [cutC, if_neg (by omega)]
    exact ⟨_, _, rfl⟩
theorem cellsF_len (e l : Nat) (n : Int) : ∀ (i : Nat) (ds : List (List UInt8)), (cellsF e l n i ds).length = ds.length
  | _, [] => rfl
  | i, d :: ds => by rw [cellsF, List.length_cons, cellsF_len e l n (i + 1) ds, List.length_cons]
theorem cutC_len {b : Bs} (ep li : Nat) (h : b.length ≤ 65535 * 39) : (cutC b ep li).length = (b.length + 38) / 39 := by
  rw [cutC, if_neg (by omega), cellsF_len, piecesF_len _ _ (by omega)]
theorem secs_len {b : Bs} (ep li : Nat) (h : b.length ≤ 65535 * 39) : (secsC b ep li).length = (b.length + 38) / 39 := by
  rw [secsC, List.length_map, cutC_len ep li h]
theorem secs_inj {a b : Bs} {ep li : Nat} (he : ep < 2 ^ 64) (hl : li < 2 ^ 64) (ha : RecOk a) (hb : RecOk b) (h : secsC a ep li = secsC b ep li) : a = b := by
  have h1 := enc_cells (cut_dec (b := a) he hl)
  have h2 := enc_cells (cut_dec (b := b) he hl)
  rw [secsC, secsC] at h
  rw [h, h2] at h1
  injection h1 with h1
  rw [← cut_data a ep li ha.le, ← cut_data b ep li hb.le, h1]
theorem rec_some {ep : Nat} {l : List Bs} {b : Bs} {li n : Nat} (h : recL ep l = some (b, li, n)) : RecOk b ∧ li < 2 ^ 64 ∧ ep < 2 ^ 64 ∧ n = (b.length + 38) / 39 ∧ 0 < n ∧ n ≤ l.length ∧ l.take n = secsC b ep li := by
  unfold recL at h
  split at h
  · cases h
  · next s r =>
    split at h
    · cases h
    · next c hc =>
      split at h
      · next hg =>
        split at h
        · cases h
        · next cs hcs =>
          split at h
          · cases h
          · next b' hj =>
            cases h
            obtain ⟨hl, hm, he, hr⟩ := enc_dec hc
            obtain ⟨g1, g2, g3⟩ := hg
            have hn : 0 < c.of.toNat := by have := hm.1; have := hm.2.1; omega
            obtain ⟨k, hk⟩ : ∃ k, c.of.toNat = k + 1 := ⟨c.of.toNat - 1, by omega⟩
            obtain ⟨e1, e2⟩ := cells_enc hcs
            have hhead : ∃ ds, cs = c :: ds := by
              rw [hk, List.take_succ_cons] at hcs
              unfold cellsL at hcs
              rw [hc] at hcs
              simp only at hcs
              split at hcs
              · cases hcs
              · cases hcs; exact ⟨_, rfl⟩
            obtain ⟨ds, rfl⟩ := hhead
            unfold joinC at hj
            simp only at hj
            split at hj
            · next hs =>
              cases hj
              have hcut := samesC_iff.1 hs
              rw [g1] at hcut
              have hlen : dataC (c :: ds) ≠ [] ∧ (dataC (c :: ds)).length ≤ 65535 * 39 := by
                constructor
                · intro e0
                  rw [e0] at hcut
                  have : cutC [] ep c.li = [] := rfl
                  rw [this] at hcut
                  cases hcut
                · unfold cutC at hcut
                  split at hcut
                  · cases hcut
                  · omega
              have hok : RecOk (dataC (c :: ds)) := ⟨hlen.1, hlen.2⟩
              have hep : ep < 2 ^ 64 := by
                rw [← g1, hr]
                exact Nat.lt_of_lt_of_le (num_lt _) (Nat.le_trans (Nat.pow_le_pow_right (by decide) (by rw [List.length_take]; omega : (s.take 8).length ≤ 8)) (by decide))
              have hli : c.li < 2 ^ 64 := by
                rw [hr]
                exact Nat.lt_of_lt_of_le (num_lt _) (Nat.le_trans (Nat.pow_le_pow_right (by decide) (by rw [List.length_take]; omega : ((s.drop 8).take 8).length ≤ 8)) (by decide))
              have hnn : c.of.toNat = ((dataC (c :: ds)).length + 38) / 39 := by
                have h1 := congrArg List.length e1
                rw [List.length_take, List.length_map, Nat.min_eq_left g3, ← hcut, cutC_len _ _ hlen.2] at h1
                exact h1
              refine ⟨hok, hli, hep, hnn, hn, g3, ?_⟩
              rw [e1, secsC, hcut]
            · cases hj
      · cases h
theorem rec_of {ep : Nat} {l : List Bs} {b : Bs} {li : Nat} (he : ep < 2 ^ 64) (hl : li < 2 ^ 64) (hb : RecOk b) (h : l.take ((b.length + 38) / 39) = secsC b ep li) : recL ep l = some (b, li, (b.length + 38) / 39) := by
  obtain ⟨d, ds, hcut⟩ := cut_head ep li hb
  have hlen := secs_len ep li hb.le
  have hn : (b.length + 38) / 39 ≤ l.length := by
    have := congrArg List.length h
    rw [List.length_take, hlen] at this
    omega
  have hpos : 0 < (b.length + 38) / 39 := by
    have := List.length_pos_iff.2 hb.ne
    omega
  cases l with
  | nil => simp at hn; omega
  | cons s r =>
    have hs : s = encC ⟨ep, li, 0, ((b.length + 38) / 39 : Nat), d⟩ := by
      obtain ⟨k, hk⟩ : ∃ k, (b.length + 38) / 39 = k + 1 := ⟨(b.length + 38) / 39 - 1, by omega⟩
      rw [hk, List.take_succ_cons, secsC, hcut, List.map_cons] at h
      injection h with h1 h2
    have hd : decC s = some ⟨ep, li, 0, ((b.length + 38) / 39 : Nat), d⟩ := by
      rw [hs]
      exact cut_dec he hl _ (by rw [hcut]; exact List.mem_cons_self ..)
    unfold recL
    simp only [hd]
    rw [if_pos ⟨trivial, trivial, by rw [Int.toNat_natCast]; exact hn⟩, Int.toNat_natCast, h, secsC, enc_cells (cut_dec he hl)]
    simp only
    have hj : joinC (cutC b ep li) = some b := by
      rw [cut_join b ep li hb.le, if_neg hb.ne]
    rw [hj]
theorem rec_take {ep : Nat} {l m : List Bs} {b : Bs} {li n : Nat} (h : recL ep l = some (b, li, n)) (e : m.take n = l.take n) : recL ep m = some (b, li, n) := by
  obtain ⟨h1, h2, h3, rfl, _, _, h7⟩ := rec_some h
  exact rec_of h3 h2 h1 (by rw [e, h7])
end Go.Proofs.Ythpepkfodcgbcaa
