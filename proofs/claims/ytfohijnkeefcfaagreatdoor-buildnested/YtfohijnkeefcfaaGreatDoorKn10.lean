import Derived.Test.YtfohijnkeefcfaaGreatDoorKn09
import Derived.Deep.AppendSrc
import Derived.Deep.RegionHeld2
set_option linter.unusedVariables false
set_option linter.unusedSimpArgs false
set_option maxRecDepth 100000
set_option maxHeartbeats 8000000
namespace Go.Proofs.YtfohijnkeefcfaaGreatDoor
open Go.RowKit
open G5 (hide)
theorem isK_keepB {w W : World} {k : Nat} {ts : List (G5.NT k)} {v : Value} {B : Nat -> Prop} (hB : ∀ k, B k -> k < w.heap.size) (h : G5.IsK B w ts v) (hb : Below w.heap.size w W) : G5.IsK B W ts v := h.below hB hb
theorem wpList_append_run {P : Program} {ops : Array Oper} {rest : List Oper} {o : Oper} {a : Act} {Q : Exit -> Act -> World -> Prop} {w : World} (hgd : o.guard = none) (s x : Operand) (t : TypeId)
    (ho : o.op = .call { callee := .builtin .append, args := #[s, x], argTypes := #[t, t] }) (v1 v2 v' : Value) (w' : World) (hs : a.eval s = v1) (hx : a.eval x = v2)
    (hr : (Builtin.append_ #[t, t] o.type #[v1, v2]).run P w = .ok v' w') (h : wpList P ops Q rest (a.put o.dst v') w') : wpList P ops Q (o :: rest) a w := G5.wpList_append_run hgd s x t ho v1 v2 v' w' hs hx hr h
theorem addr_add9 (b o j : Nat) : (⟨b, o, none⟩ : Addr).add j = ⟨b, o + j, none⟩ := by
  unfold Addr.add
  split
  · next h => simp_all
  · rfl
theorem isN_one {Bk : Nat -> Prop} {w : World} {k : Nat} {t : G5.NT k} {vs : List Value} (h : G5.IsN Bk w t vs) : ∀ u ∈ vs, u.oneCell' = true := by
  obtain ⟨q1, q2, q3, q4, q5, q6, q7, q8, q9, q10, rfl⟩ := h.form
  intro u hu
  simp only [List.mem_cons, List.not_mem_nil, or_false] at hu
  rcases hu with rfl | rfl | rfl | rfl | rfl | rfl <;> rfl
theorem row_cells {Bk : Nat -> Prop} {w : World} {b k : Nat} : ∀ (o : Nat) (ts : List (G5.NT k)), G5.IsNs Bk w b o ts ->
    ∃ cs : List (List Value), cs.length = ts.length /\ (∀ j (h1 : j < cs.length) (h2 : j < ts.length), G5.IsN Bk w ts[j] cs[j]) /\ cs.flatten.length = ts.length * 6 /\ (∀ u ∈ cs.flatten, u.oneCell' = true) /\ ∀ j u, cs.flatten[j]? = some u -> w.cell? ⟨b, o + j, none⟩ = some u
  | o, [], _ => ⟨[], rfl, fun j h1 => absurd h1 (Nat.not_lt_zero _), rfl, (by intro u hu; simp at hu), (by intro j u hu; simp at hu)⟩
  | o, t :: r, h => by
    obtain ⟨⟨vs, c, hN⟩, h2⟩ := h
    obtain ⟨cs, e1, e2, e3, e4, e5⟩ := row_cells (o + 6) r h2
    have hv := G5.isN_len hN
    refine ⟨vs :: cs, by simp [e1], ?_, ?_, ?_, ?_⟩
    · intro j h1 h2
      cases j with
      | zero => exact hN
      | succ j => exact e2 j (by simpa using h1) (by simpa using h2)
    · rw [List.flatten_cons, List.length_append, hv, e3, List.length_cons]
      omega
    · intro u hu
      rw [List.flatten_cons, List.mem_append] at hu
      rcases hu with hu | hu
      · exact isN_one hN u hu
      · exact e4 u hu
    · intro j u hu
      rw [List.flatten_cons] at hu
      by_cases hj : j < 6
      · rw [List.getElem?_append_left (by omega)] at hu
        rw [c j hj]
        exact hu
      · rw [List.getElem?_append_right (by omega), hv] at hu
        have := e5 (j - 6) u hu
        rw [show o + 6 + (j - 6) = o + j by omega] at this
        exact this
def RowQ (N : Nat) (W : World) (v : Value) {k : Nat} (ts : List (G5.NT k)) : Prop :=
  v ≠ .slice none 0 0 /\ ∃ cs : List (List Value), cs.length = ts.length /\ W.ownsRow N 45 6 v ts.length cs.flatten /\ ∀ j (h1 : j < cs.length) (h2 : j < ts.length), G5.IsN (fun k => k < N) W ts[j] cs[j]
theorem RowQ.isK {N : Nat} {W : World} {v : Value} {k : Nat} {ts : List (G5.NT k)} (h : RowQ N W v ts) (hN : N <= W.heap.size) : G5.IsK (fun k => k < W.heap.size) W ts v := by
  obtain ⟨hv, cs, h1, h2, h3⟩ := h
  have hl : ∀ c ∈ cs, c.length = 6 := fun c hc => by
    obtain ⟨j, hj, rfl⟩ := List.mem_iff_getElem.1 hc
    exact G5.isN_len (h3 j hj (by omega))
  rcases h2.2 with ⟨e1, e2⟩ | ⟨g, cap, cur, rfl, hbg, hg, hnc, _⟩
  · exact absurd e1 hv
  · refine .inr ⟨g, 0, cap, rfl, hnc, .inr (Array.getElem?_eq_some_iff.1 hg).1, G5.IsNs.of 0 ts fun j hj => ⟨cs[j], fun i hi => ?_, (h3 j (by omega) hj).mono fun q hq => Nat.lt_of_lt_of_le hq hN⟩⟩
    rw [Nat.zero_add, h2.cellAt (j * 6 + i) (by omega), G5.flatten_get6 cs hl j (by omega) i hi]
def withT {k : Nat} (t : G5.NT (k + 1)) (x : List UInt8) : G5.NT (k + 1) := .mk { t.nd with text := x } t.kids
theorem flatten_set : ∀ (cs : List (List Value)), (∀ c ∈ cs, c.length = 6) -> ∀ (j : Nat) (hj : j < cs.length) (u : Value), (cs.set j (cs[j].set 4 u)).flatten = cs.flatten.set (j * 6 + 4) u
  | c :: r, h, 0, _, u => by
    have hc := h c (by simp)
    simp only [List.set_cons_zero, List.flatten_cons, List.getElem_cons_zero, Nat.zero_mul, Nat.zero_add]
    rw [List.set_append_left _ _ (by omega)]
  | c :: r, h, j + 1, hj, u => by
    have hc := h c (by simp)
    have ih := flatten_set r (fun x hx => h x (by simp [hx])) j (by simpa using hj) u
    simp only [List.set_cons_succ, List.flatten_cons, List.getElem_cons_succ]
    rw [ih, List.set_append_right _ _ (by omega), hc, show (j + 1) * 6 + 4 - 6 = j * 6 + 4 by omega]
theorem ownsRow_set {W : World} {N n z : Nat} {e : TypeId} {g cap : Nat} {xs : List Value} (h : W.ownsRow N e z (.slice (some ⟨g, 0, none⟩) n cap) n xs) (j : Nat) (hj : j < xs.length) (u : Value) : (W.setCell ⟨g, j, none⟩ u).ownsRow N e z (.slice (some ⟨g, 0, none⟩) n cap) n (xs.set j u) := by
  refine ⟨by rw [List.length_set]; exact h.1, ?_⟩
  rcases h.2 with ⟨h1, _⟩ | ⟨g', cap', cur, e1, e2, e3, e4, e5, e6, e7⟩
  · cases h1
  · injection e1 with e1 _ e1c
    injection e1 with e1
    injection e1 with e1
    subst e1 e1c
    have hl := (Array.getElem?_eq_some_iff.1 e3).1
    refine .inr ⟨g, cap, cur.setIfInBounds j u, rfl, e2, ?_, e4, e5, by rw [Array.size_setIfInBounds]; exact e6, ?_⟩
    · have := e3
      unfold World.setCell
      simp [this, Array.getElem?_modify]
    · rw [Array.toList_setIfInBounds, <- e7, List.take_set]
def boxN (kd sp : Int) (nm : ByteArray) (a1 : Option Addr) (n1 c1 : Nat) (tx : ByteArray) (a2 : Option Addr) (n2 c2 : Nat) : List Value := [.int .i64 kd, .int .i64 sp, .string nm, .slice a1 n1 c1, .string tx, .slice a2 n2 c2]
theorem step_append_ex {P : Program} {ops : Array Oper} {o : Oper} {a : Act} {w : World} {K : Act -> World -> Prop} {Q : Exit -> Act -> World -> Prop} {E : Prop} (hgd : o.guard = none) (s x : Operand) (t : TypeId)
    (ho : o.op = .call { callee := .builtin .append, args := #[s, x], argTypes := #[t, t] }) (v1 v2 : Value) (hs : a.eval s = v1) (hx : a.eval x = v2) (R : Value -> World -> Prop)
    (hr : ∃ v' w', (Builtin.append_ #[t, t] o.type #[v1, v2]).run P w = .ok v' w' /\ R v' w') (hK : ∀ v' w', R v' w' -> K (a.put o.dst v') w') : if Region.wanted o (yielded ops a.tmps) = true then Oper.wp P o a w K Q else E := by
  obtain ⟨v', w', hr, hR⟩ := hr
  have hw : Region.wanted o (yielded ops a.tmps) = true := by simp [Region.wanted, hgd]
  rw [if_pos hw]
  unfold Oper.wp execOp
  simp only [ho, resolve, invoke, builtin, Sem.run_bind, Sem.run_pure, Result.andThen_ok, List.map_toArray, List.map_cons, List.map_nil, hs, hx, hr]
  exact hK _ _ hR
theorem copy_ex {N : Nat} {X : World} {k : Nat} {ts : List (G5.NT k)} {v : Value} (g : Nat) (hg : X.heap[g]? = some (.cells #[] 45 (0, 0))) (hN : N <= g) (hK : G5.IsK (fun k => k < N) X ts v) (hl : ts.length <= 1000000) :
    ∃ v' w', (Builtin.append_ #[23, 23] 23 #[.slice (some ⟨g, 0, none⟩) 0 0, v]).run Tryz.prog X = .ok v' w' /\ RowQ N w' v' ts /\ Below N X w' /\ (∀ q, q < X.heap.size -> q ≠ g -> w'.heap[q]? = X.heap[q]?) := by
  have hgl : g < X.heap.size := (Array.getElem?_eq_some_iff.1 hg).1
  have h0 : RowQ N X (.slice (some ⟨g, 0, none⟩) 0 0) ([] : List (G5.NT k)) :=
    ⟨by simp, [], rfl, ⟨rfl, .inr ⟨g, 0, #[], rfl, hN, hg, Nat.le_refl _, by unfold maxLen; omega, rfl, rfl⟩⟩, fun j h1 => absurd h1 (Nat.not_lt_zero _)⟩
  obtain ⟨hv, cs, h1, h2, h3⟩ := h0
  obtain rfl : cs = [] := List.eq_nil_of_length_eq_zero h1
  rcases hK with ⟨⟨a, c, rfl⟩, rfl⟩ | ⟨b, o, cap, rfl, _, _, hn⟩
  · have hsrc : Src Tryz.prog Tryz.t45.size 23 (.slice a 0 c) 0 [] X := by
      cases a with
      | none => exact Src.ofNil _ Tryz.underlying23 c
      | some x => exact Src.ofSlice _ Tryz.underlying23 x 0 c [] (by simp) (by simp) (by simp)
    have hr := run_append_room_src (P := Tryz.prog) X 23 23 23 45 Tryz.t45 Tryz.underlying23 (by kernel_rfl) g 0 0 0 (.slice a 0 c) 0 [] hsrc (by omega) (by simp) (by simp)
    exact ⟨_, _, hr, ⟨by simp, [], rfl, h2, fun j h1 => absurd h1 (Nat.not_lt_zero _)⟩, Below.refl _ _, fun _ _ _ => rfl⟩
  · obtain ⟨ds, e1, e2, e3, e4, e5⟩ := row_cells o ts hn
    obtain ⟨v', w', hr, ho, hgr, hv'⟩ := run_append_own (P := Tryz.prog) X N 23 23 45 Tryz.t45 _ 6 96 Tryz.underlying23 (by kernel_rfl) rfl (by kernel_rfl) (by kernel_rfl) (by kernel_rfl) (by omega)
      (.slice (some ⟨g, 0, none⟩) 0 0) 0 [] h2 ⟨b, o, none⟩ ts.length cap ds.flatten e3 (fun j u hu => by rw [addr_add9]; exact e5 j u hu) e4 (by unfold maxLen; omega) (by omega) (by omega)
    have hb : Below N X w' := (Below.refl N X).grown hgr (by omega) (fun q hq => (h2.lt q hq).1)
    obtain ⟨_, _, _, _, g5⟩ := hgr
    refine ⟨v', w', hr, ⟨fun e => hv (hv'.1 e).1, ds, e1, ?_, ?_⟩, hb, fun q hq hqg => g5 q hq (fun e => hqg ?_)⟩
    · have := ho
      rw [List.nil_append, Nat.zero_add] at this
      exact this
    · intro j g1 g2
      exact (e2 j g1 g2).on fun q hq => hb.block q hq
    · simpa [Value.ownBlock] using e
theorem more_ex {N : Nat} {X : World} {v : Value} {k : Nat} {ts : List (G5.NT k)} (h : RowQ N X v ts) (hN : N <= X.heap.size) (t : G5.NT k) (g : Nat) (vs : List Value) (hg : ∀ j, j < 6 -> X.cell? ⟨g, j, none⟩ = vs[j]?) (ht : G5.IsN (fun k => k < N) X t vs) (hl : ts.length <= 1000000) :
    ∃ v' w', (Builtin.append_ #[23, 23] 23 #[v, .slice (some ⟨g, 0, none⟩) 1 1]).run Tryz.prog X = .ok v' w' /\ RowQ N w' v' (ts ++ [t]) /\ Below N X w' := by
  obtain ⟨hv, cs, h1, h2, h3⟩ := h
  have hone : ∀ u ∈ vs, u.oneCell' = true := isN_one ht
  have hvl : vs.length = 6 := G5.isN_len ht
  obtain ⟨v', w', hr, ho, hg, hv'⟩ := run_append_own (P := Tryz.prog) X N 23 23 45 Tryz.t45 _ 6 96 Tryz.underlying23 (by kernel_rfl) rfl (by kernel_rfl) (by kernel_rfl) (by kernel_rfl) (by omega)
      v ts.length cs.flatten h2 ⟨g, 0, none⟩ 1 1 vs (by omega) (fun j u hu => by
        rw [addr_add9, Nat.zero_add, hg j (by have := (List.getElem?_eq_some_iff.1 hu).1; omega)]
        exact hu) hone (by unfold maxLen; omega) (by omega) hN
  have hb : Below N X w' := (Below.refl N X).grown hg hN (fun q hq => (h2.lt q hq).1)
  have hkeep : ∀ {t : G5.NT k} {vs : List Value}, G5.IsN (fun k => k < N) X t vs -> G5.IsN (fun k => k < N) w' t vs := fun hn => hn.on fun q hq => hb.block q hq
  refine ⟨v', w', hr, ⟨fun e => hv (hv'.1 e).1, cs ++ [vs], by simp [h1], ?_, ?_⟩, hb⟩
  · rw [List.length_append, List.flatten_append]
    have e : [vs].flatten = vs := by simp
    rw [e]
    exact ho
  · intro j g1 g2
    by_cases hj : j < ts.length
    · have a1 : (ts ++ [t])[j] = ts[j] := List.getElem_append_left hj
      have a2 : (cs ++ [vs])[j] = cs[j]'(by omega) := List.getElem_append_left (by omega)
      rw [a1, a2]
      exact hkeep (h3 j (by omega) hj)
    · have hjt : j = ts.length := by simp at g2; omega
      subst hjt
      have a1 : (ts ++ [t])[ts.length] = t := by simp
      have a2 : (cs ++ [vs])[ts.length] = vs := by
        rw [List.getElem_append_right (by omega)]
        simp [h1]
      rw [a1, a2]
      exact hkeep ht
end Go.Proofs.YtfohijnkeefcfaaGreatDoor
namespace Go.Proofs.YtfohijnkeefcfaaGreatDoor
open Go.RowKit
open G5 (hide)
abbrev boxW (w : World) (kd sp : Int) (nm : ByteArray) (a1 : Option Addr) (n1 c1 : Nat) (tx : ByteArray) (a2 : Option Addr) (n2 c2 : Nat) : World := w.alloc (.cells #[.int .i64 kd, .int .i64 sp, .string nm, .slice a1 n1 c1, .string tx, .slice a2 n2 c2] 45)
structure PuS {k : Nat} (w : World) (t : G5.NT k) (ts : List (G5.NT k)) (v : Value) (vs : List Value) (X : World) : Prop where
  bel : Below w.heap.size w X
  box : ∀ j, j < 6 -> X.cell? ⟨w.heap.size, j, none⟩ = vs[j]?
theorem PuS.start {k : Nat} {w : World} {t : G5.NT k} {ts : List (G5.NT k)} {v : Value} (kd sp : Int) (nm : ByteArray) (a1 : Option Addr) (n1 c1 : Nat) (tx : ByteArray) (a2 : Option Addr) (n2 c2 : Nat) : PuS w t ts v (boxN kd sp nm a1 n1 c1 tx a2 n2 c2) (boxW w kd sp nm a1 n1 c1 tx a2 n2 c2) := by
  refine ⟨(Below.refl _ w).alloc (Nat.le_refl _) _, fun j hj => ?_⟩
  rcases (by omega : j = 0 \/ j = 1 \/ j = 2 \/ j = 3 \/ j = 4 \/ j = 5) with rfl | rfl | rfl | rfl | rfl | rfl <;> (simp [go_sem, boxN])
theorem PuS.drew {k : Nat} {w X : World} {t : G5.NT k} {ts : List (G5.NT k)} {v : Value} {vs : List Value} (h : PuS w t ts v vs X) : PuS w t ts v vs X.drew := ⟨h.bel.drew, h.box⟩
theorem PuS.hl {k : Nat} {w X : World} {t : G5.NT k} {ts : List (G5.NT k)} {v : Value} {vs : List Value} (h : PuS w t ts v vs X) (h6 : vs.length = 6) : w.heap.size < X.heap.size := by
  have := h.box 0 (by omega)
  rw [List.getElem?_eq_getElem (by omega)] at this
  exact G5.cell_lt (a := ⟨w.heap.size, 0, none⟩) this
theorem PuS.on {k : Nat} {w X Y : World} {t : G5.NT k} {ts : List (G5.NT k)} {v : Value} {vs : List Value} (h : PuS w t ts v vs X) (hb : Below w.heap.size X Y) (hk : Y.heap[w.heap.size]? = X.heap[w.heap.size]?) : PuS w t ts v vs Y :=
  ⟨h.bel.trans hb, fun j hj => (World.cell?_of_block (a := ⟨w.heap.size, j, none⟩) hk).trans (h.box j hj)⟩
theorem PuS.alloc {k : Nat} {w X : World} {t : G5.NT k} {ts : List (G5.NT k)} {v : Value} {vs : List Value} (h : PuS w t ts v vs X) (h6 : vs.length = 6) (o : Obj) : PuS w t ts v vs (X.alloc o) :=
  h.on ((Below.refl _ X).alloc h.bel.size o) (((Below.refl X.heap.size X).alloc (Nat.le_refl _) o).block _ (h.hl h6))
theorem heap_new (Y : World) (o : Obj) : (Y.alloc o).drew.heap[Y.heap.size]? = some o := heap_alloc_new Y o
theorem heap_old (Y : World) (o o2 : Obj) : ((Y.alloc o).alloc o2).drew.heap[Y.heap.size]? = some o :=
  (((Below.refl (Y.alloc o).heap.size (Y.alloc o)).alloc (Nat.le_refl _) o2).block Y.heap.size (by simp)).trans (heap_alloc_new Y o)
theorem heap_new2 (Y : World) (o o2 : Obj) : ((Y.alloc o).alloc o2).drew.heap[Y.heap.size + 1]? = some o2 := by
  have h := heap_alloc_new (Y.alloc o) o2
  have e : (Y.alloc o).heap.size = Y.heap.size + 1 := by simp
  rw [e] at h
  exact h
theorem box_cells {X : World} {g : Nat} (kd sp : Int) (nm : ByteArray) (a1 : Option Addr) (n1 c1 : Nat) (tx : ByteArray) (a2 : Option Addr) (n2 c2 : Nat) (T : TypeId) (m : Nat × Nat) (h : X.heap[g]? = some (.cells #[.int .i64 kd, .int .i64 sp, .string nm, .slice a1 n1 c1, .string tx, .slice a2 n2 c2] T m)) : ∀ j, j < 6 -> X.cell? ⟨g, j, none⟩ = (boxN kd sp nm a1 n1 c1 tx a2 n2 c2)[j]? := by
  intro j hj
  unfold World.cell?
  rw [h]
  rcases (by omega : j = 0 \/ j = 1 \/ j = 2 \/ j = 3 \/ j = 4 \/ j = 5) with rfl | rfl | rfl | rfl | rfl | rfl <;> rfl
theorem RowQ.alloc {N : Nat} {W : World} {v : Value} {k : Nat} {ts : List (G5.NT k)} (h : RowQ N W v ts) (hN : N <= W.heap.size) (o : Obj) : RowQ N (W.alloc o) v ts := by
  obtain ⟨hv, cs, h1, h2, h3⟩ := h
  have b0 : Below W.heap.size W (W.alloc o) := (Below.refl _ W).alloc (Nat.le_refl _) _
  refine ⟨hv, cs, h1, ⟨h2.1, ?_⟩, fun j g1 g2 => (h3 j g1 g2).on fun q hq => b0.block q (Nat.lt_of_lt_of_le hq hN)⟩
  rcases h2.2 with h | ⟨g, cap, cur, e1, e2, e3, e4⟩
  · exact .inl h
  · refine .inr ⟨g, cap, cur, e1, e2, ?_, e4⟩
    rw [b0.block g (Array.getElem?_eq_some_iff.1 e3).1]; exact e3
theorem isK_wide {B C : Nat -> Prop} {w : World} {k : Nat} {ts : List (G5.NT k)} {v : Value} (h : G5.IsK B w ts v) (hm : ∀ k, B k -> C k) : G5.IsK C w ts v := by
  rcases h with h | ⟨b, o, cap, e, h1, h2, h3⟩
  · exact .inl h
  · exact .inr ⟨b, o, cap, e, h1, h2.imp id (hm b), G5.IsNs.of o ts fun j hj => by obtain ⟨vs, g, n⟩ := G5.IsNs.get o ts h3 j hj; exact ⟨vs, g, n.mono hm⟩⟩
structure PuA {k : Nat} (w : World) (t : G5.NT k) (ts : List (G5.NT k)) (v : Value) (vs : List Value) (gn : Option Nat) (v1 : Value) (X : World) : Prop where
  s : PuS w t ts v vs X
  q : RowQ (w.heap.size + 1) X v1 ts
  n : ∀ g, gn = some g -> ∀ j, j < 6 -> X.cell? ⟨g, j, none⟩ = vs[j]?
theorem copy_s {k : Nat} {w X : World} {t : G5.NT k} {ts : List (G5.NT k)} {v : Value} {vs : List Value} (h : PuS w t ts v vs X) (h6 : vs.length = 6) (hK : ∀ X, Below w.heap.size w X -> G5.IsK (fun k => k < w.heap.size) X ts v) (hl : ts.length <= 1000000) (g : Nat) (hg : X.heap[g]? = some (.cells #[] 45 (0, 0))) (hg2 : w.heap.size < g) (gn : Option Nat) (hn : ∀ q, gn = some q -> q ≠ g /\ ∀ j, j < 6 -> X.cell? ⟨q, j, none⟩ = vs[j]?) :
    ∃ v' w', (Builtin.append_ #[23, 23] 23 #[.slice (some ⟨g, 0, none⟩) 0 0, v]).run Tryz.prog X = .ok v' w' /\ PuA w t ts v vs gn v' w' := by
  obtain ⟨v', w', r, q, b, kp⟩ := copy_ex (N := w.heap.size + 1) g hg (by omega) (isK_wide (hK X h.bel) fun q hq => Nat.lt_succ_of_lt hq) hl
  refine ⟨v', w', r, h.on (b.mono (Nat.le_succ _)) (kp _ (h.hl h6) (by omega)), q, fun q2 e j hj => ?_⟩
  obtain ⟨n1, n2⟩ := hn q2 e
  have := n2 j hj
  rw [List.getElem?_eq_getElem (by omega)] at this
  have hlt : q2 < X.heap.size := G5.cell_lt (a := ⟨q2, j, none⟩) this
  rw [World.cell?_of_block (a := ⟨q2, j, none⟩) (kp q2 hlt n1)]
  exact n2 j hj
theorem more_s {k : Nat} {w X : World} {t : G5.NT k} {ts : List (G5.NT k)} {v v1 : Value} {vs : List Value} {g : Nat} (h : PuA w t ts v vs (some g) v1 X) (hT : ∀ X, Below w.heap.size w X -> G5.IsN (fun k => k < w.heap.size) X t vs) (hl : ts.length <= 1000000) :
    ∃ v' w', (Builtin.append_ #[23, 23] 23 #[v1, .slice (some ⟨g, 0, none⟩) 1 1]).run Tryz.prog X = .ok v' w' /\ RowQ (w.heap.size + 1) w' v' (ts ++ [t]) /\ PuS w t ts v vs w' := by
  have hlt := h.s.hl (G5.isN_len (hT X h.s.bel))
  obtain ⟨v', w', r, q, b⟩ := more_ex h.q hlt t g vs (h.n g rfl) ((hT X h.s.bel).mono fun q hq => Nat.lt_succ_of_lt hq) hl
  exact ⟨v', w', r, q, h.s.on (b.mono (Nat.le_succ _)) (b.block _ (Nat.lt_succ_self _))⟩
theorem PuA.alloc {k : Nat} {w X : World} {t : G5.NT k} {ts : List (G5.NT k)} {v v1 : Value} {vs : List Value} {gn : Option Nat} (h : PuA w t ts v vs gn v1 X) (h6 : vs.length = 6) (o : Obj) (hn : ∀ j, j < 6 -> (X.alloc o).cell? ⟨X.heap.size, j, none⟩ = vs[j]?) : PuA w t ts v vs (some X.heap.size) v1 (X.alloc o) :=
  ⟨h.s.alloc h6 o, h.q.alloc (h.s.hl h6) o, fun g e => by cases e; exact hn⟩
theorem push_none {k : Nat} (t : G5.NT (k + 1)) (v : Value) (kd sp : Int) (nm : ByteArray) (a1 : Option Addr) (n1 c1 : Nat) (tx : ByteArray) (a2 : Option Addr) (n2 c2 : Nat) (w : World) (hK : G5.IsK (fun k => k < w.heap.size) w ([] : List (G5.NT (k + 1))) v) (ht : G5.IsN (fun k => k < w.heap.size) w t (boxN kd sp nm a1 n1 c1 tx a2 n2 c2)) :
    Calls Tryz.prog 16 #[v, .agg (boxN kd sp nm a1 n1 c1 tx a2 n2 c2).toArray] w fun e w' => (∃ v', e = .returned v' /\ G5.IsK (fun k => k < w'.heap.size) w' ([] ++ [t]) v') /\ Below w.heap.size w w' := by
  have HK : Hid (∀ X, Below w.heap.size w X -> G5.IsK (fun k => k < w.heap.size) X ([] : List (G5.NT (k + 1))) v) := hide fun X hb => isK_keepB (fun _ h => h) hK hb
  have HT : Hid (∀ X, Below w.heap.size w X -> G5.IsN (fun k => k < w.heap.size) X t (boxN kd sp nm a1 n1 c1 tx a2 n2 c2)) := hide fun X hb => ht.on fun q hq => hb.block q hq
  have HS := hide (PuS.start (w := w) (t := t) (ts := []) (v := v) kd sp nm a1 n1 c1 tx a2 n2 c2)
  obtain ⟨a, c, rfl⟩ := G5.isK_form hK
  clear hK ht
  simp only [List.length_nil] at *
  show Calls Tryz.prog 16 #[.slice a 0 c, .agg #[.int .i64 kd, .int .i64 sp, .string nm, .slice a1 n1 c1, .string tx, .slice a2 n2 c2]] w _
  go_enter Tryz.func16, Tryz.ntmps16
  go_wp2
  obtain ⟨W0, hW0⟩ : ∃ W0, boxW w kd sp nm a1 n1 c1 tx a2 n2 c2 = W0 := ⟨_, rfl⟩
  rw [show w.alloc (Obj.cells #[Value.int IntKind.i64 kd, Value.int IntKind.i64 sp, Value.string nm, Value.slice a1 n1 c1, Value.string tx, Value.slice a2 n2 c2] 45) = W0 from hW0]
  rw [hW0] at HS
  clear hW0
  have HC : Hid (∀ X, PuS w t [] (.slice a 0 c) (boxN kd sp nm a1 n1 c1 tx a2 n2 c2) X -> X.cell? ⟨w.heap.size, 0, none⟩ = some (.int .i64 kd) /\ X.cell? ⟨w.heap.size, 1, none⟩ = some (.int .i64 sp) /\ X.cell? ⟨w.heap.size, 2, none⟩ = some (.string nm) /\ X.cell? ⟨w.heap.size, 3, none⟩ = some (.slice a1 n1 c1) /\ X.cell? ⟨w.heap.size, 4, none⟩ = some (.string tx) /\ X.cell? ⟨w.heap.size, 5, none⟩ = some (.slice a2 n2 c2)) := hide fun X h => ⟨h.box 0 (by omega), h.box 1 (by omega), h.box 2 (by omega), h.box 3 (by omega), h.box 4 (by omega), h.box 5 (by omega)⟩
  have hgt : w.heap.size < W0.heap.size := HS.out.hl rfl
  have A1 := hide (copy_s ((HS.out.alloc rfl (.cells #[] 45)).drew) rfl HK.out (by simp) W0.heap.size (heap_new W0 _) hgt none (fun q e => by cases e))
  have A2 := hide (copy_s (((HS.out.alloc rfl (.cells #[] 45)).alloc rfl (.cells #[.int .i64 kd, .int .i64 sp, .string nm, .slice a1 n1 c1, .string tx, .slice a2 n2 c2] 45)).drew) rfl HK.out (by simp) W0.heap.size (heap_old W0 _ _) hgt (some (W0.heap.size + 1)) (fun q e => by cases e; exact ⟨by omega, box_cells kd sp nm a1 n1 c1 tx a2 n2 c2 _ _ (heap_new2 W0 _ _)⟩))
  have A3 := hide (copy_s (((HS.out.alloc rfl (.cells #[.int .i64 kd, .int .i64 sp, .string nm, .slice a1 n1 c1, .string tx, .slice a2 n2 c2] 45)).alloc rfl (.cells #[] 45)).drew) rfl HK.out (by simp) (W0.heap.size + 1) (heap_new2 W0 _ _) (by omega) (some W0.heap.size) (fun q e => by cases e; exact ⟨by omega, box_cells kd sp nm a1 n1 c1 tx a2 n2 c2 _ _ (heap_old W0 _ _)⟩))
  have DD := hide HS.out.drew
  go_region_held2 (fun W' => W'.cell? ⟨w.heap.size, 0, none⟩ = some (.int .i64 kd) /\ W'.cell? ⟨w.heap.size, 1, none⟩ = some (.int .i64 sp) /\ W'.cell? ⟨w.heap.size, 2, none⟩ = some (.string nm) /\ W'.cell? ⟨w.heap.size, 3, none⟩ = some (.slice a1 n1 c1) /\ W'.cell? ⟨w.heap.size, 4, none⟩ = some (.string tx) /\ W'.cell? ⟨w.heap.size, 5, none⟩ = some (.slice a2 n2 c2))
    (first | with_reducible exact HC.out _ Q2.out.2 | with_reducible exact HC.out _ DD.out | with_reducible exact HC.out _ (HS.out.alloc rfl _).drew | with_reducible exact HC.out _ ((HS.out.alloc rfl _).alloc rfl _).drew | with_reducible exact HC.out _ P1.out.s | with_reducible exact HC.out _ (P1.out.s.alloc rfl _))
    (first
      | (with_reducible refine step_append_ex rfl (.tmp 41) (.tmp 42) 23 rfl (.slice (some ⟨W0.heap.size, 0, none⟩) 0 0) (.slice a 0 c) rfl rfl _ A1.out ?_; rintro v1 x1 h1; have P1 := hide h1; clear h1)
      | (with_reducible refine step_append_ex rfl (.tmp 41) (.tmp 42) 23 rfl (.slice (some ⟨W0.heap.size, 0, none⟩) 0 0) (.slice a 0 c) rfl rfl _ A2.out ?_; rintro v1 x1 h1; have P1 := hide h1; clear h1)
      | (with_reducible refine step_append_ex rfl (.tmp 41) (.tmp 42) 23 rfl (.slice (some ⟨W0.heap.size + 1, 0, none⟩) 0 0) (.slice a 0 c) rfl rfl _ A3.out ?_; rintro v1 x1 h1; have P1 := hide h1; clear h1)
      | (with_reducible refine step_append_ex rfl (.tmp 43) (.tmp 45) 23 rfl v1 (.slice (some ⟨x1.heap.size, 0, none⟩) 1 1) rfl rfl _ (more_s (P1.out.alloc rfl (.cells #[.int .i64 kd, .int .i64 sp, .string nm, .slice a1 n1 c1, .string tx, .slice a2 n2 c2] 45) (box_cells kd sp nm a1 n1 c1 tx a2 n2 c2 _ _ (heap_alloc_new x1 _))) HT.out (by simp)) ?_; rintro v2 x2 h2; have Q2 := hide h2; clear h2)
      | (with_reducible refine step_append_ex rfl (.tmp 43) (.tmp 45) 23 rfl v1 (.slice (some ⟨_, 0, none⟩) 1 1) rfl rfl _ (more_s P1.out HT.out (by simp)) ?_; rintro v2 x2 h2; have Q2 := hide h2; clear h2))
  all_goals go_wp2
  all_goals go_ret
  all_goals exact ⟨⟨_, rfl, Q2.out.1.isK (Q2.out.2.hl rfl)⟩, Q2.out.2.bel⟩
theorem push_more {k : Nat} (t : G5.NT (k + 1)) (v : Value) (kd sp : Int) (nm : ByteArray) (a1 : Option Addr) (n1 c1 : Nat) (tx : ByteArray) (a2 : Option Addr) (n2 c2 : Nat) (w : World) (ts : List (G5.NT (k + 1))) (n : Nat) (hn : ts.length = n + 1) (hl : n < 1000000) (hno : (ts[n].nd.kind == 2) = false) (hK : G5.IsK (fun k => k < w.heap.size) w ts v) (ht : G5.IsN (fun k => k < w.heap.size) w t (boxN kd sp nm a1 n1 c1 tx a2 n2 c2)) :
    Calls Tryz.prog 16 #[v, .agg (boxN kd sp nm a1 n1 c1 tx a2 n2 c2).toArray] w fun e w' => (∃ v', e = .returned v' /\ G5.IsK (fun k => k < w'.heap.size) w' (ts ++ [t]) v') /\ Below w.heap.size w w' := by
  have HK : Hid (∀ X, Below w.heap.size w X -> G5.IsK (fun k => k < w.heap.size) X (ts : List (G5.NT (k + 1))) v) := hide fun X hb => isK_keepB (fun _ h => h) hK hb
  have HT : Hid (∀ X, Below w.heap.size w X -> G5.IsN (fun k => k < w.heap.size) X t (boxN kd sp nm a1 n1 c1 tx a2 n2 c2)) := hide fun X hb => ht.on fun q hq => hb.block q hq
  have HS := hide (PuS.start (w := w) (t := t) (ts := ts) (v := v) kd sp nm a1 n1 c1 tx a2 n2 c2)
  have hlen : (ts).length = n + 1 := hn
  obtain ⟨b, o, cap, rfl, hcell⟩ : ∃ b o cap, v = .slice (some ⟨b, o, none⟩) (n + 1) cap /\ ∀ X, Below w.heap.size w X -> X.cell? ⟨b, o + n * 6, none⟩ = some (.int .i64 ts[n].nd.kind) := by
    rcases hK with ⟨_, h0⟩ | ⟨b, o, cap, e, h1, h2, h3⟩
    · rw [h0] at hlen; simp at hlen
    · refine ⟨b, o, cap, by rw [e, hlen], fun X hb => ?_⟩
      obtain ⟨vs, g, m⟩ := G5.IsNs.get o ts h3 n (by omega)
      obtain ⟨av, kv, rfl, _⟩ := m
      have := g 0 (by omega)
      rw [Nat.add_zero] at this
      rw [hb.cell (G5.cell_lt (a := ⟨b, o + n * 6, none⟩) this)]
      exact this
  have hq := hcell _ HS.out.bel
  generalize ts[n].nd.kind = ku at *
  clear hK ht hcell
  have hn2 : (n : Int) <= 1000000 := by omega
  have hlt : (n : Int) < (n : Int) + 1 := by omega
  show Calls Tryz.prog 16 #[.slice (some ⟨b, o, none⟩) (n + 1) cap, .agg #[.int .i64 kd, .int .i64 sp, .string nm, .slice a1 n1 c1, .string tx, .slice a2 n2 c2]] w _
  go_enter Tryz.func16, Tryz.ntmps16
  go_wp2
  clear hq
  obtain ⟨W0, hW0⟩ : ∃ W0, boxW w kd sp nm a1 n1 c1 tx a2 n2 c2 = W0 := ⟨_, rfl⟩
  rw [show w.alloc (Obj.cells #[Value.int IntKind.i64 kd, Value.int IntKind.i64 sp, Value.string nm, Value.slice a1 n1 c1, Value.string tx, Value.slice a2 n2 c2] 45) = W0 from hW0]
  rw [hW0] at HS
  clear hW0
  have HC : Hid (∀ X, PuS w t ts (.slice (some ⟨b, o, none⟩) (n + 1) cap) (boxN kd sp nm a1 n1 c1 tx a2 n2 c2) X -> X.cell? ⟨w.heap.size, 0, none⟩ = some (.int .i64 kd) /\ X.cell? ⟨w.heap.size, 1, none⟩ = some (.int .i64 sp) /\ X.cell? ⟨w.heap.size, 2, none⟩ = some (.string nm) /\ X.cell? ⟨w.heap.size, 3, none⟩ = some (.slice a1 n1 c1) /\ X.cell? ⟨w.heap.size, 4, none⟩ = some (.string tx) /\ X.cell? ⟨w.heap.size, 5, none⟩ = some (.slice a2 n2 c2)) := hide fun X h => ⟨h.box 0 (by omega), h.box 1 (by omega), h.box 2 (by omega), h.box 3 (by omega), h.box 4 (by omega), h.box 5 (by omega)⟩
  have hgt : w.heap.size < W0.heap.size := HS.out.hl rfl
  have A1 := hide (copy_s ((HS.out.alloc rfl (.cells #[] 45)).drew) rfl HK.out (by omega) W0.heap.size (heap_new W0 _) hgt none (fun q e => by cases e))
  have A2 := hide (copy_s (((HS.out.alloc rfl (.cells #[] 45)).alloc rfl (.cells #[.int .i64 kd, .int .i64 sp, .string nm, .slice a1 n1 c1, .string tx, .slice a2 n2 c2] 45)).drew) rfl HK.out (by omega) W0.heap.size (heap_old W0 _ _) hgt (some (W0.heap.size + 1)) (fun q e => by cases e; exact ⟨by omega, box_cells kd sp nm a1 n1 c1 tx a2 n2 c2 _ _ (heap_new2 W0 _ _)⟩))
  have A3 := hide (copy_s (((HS.out.alloc rfl (.cells #[.int .i64 kd, .int .i64 sp, .string nm, .slice a1 n1 c1, .string tx, .slice a2 n2 c2] 45)).alloc rfl (.cells #[] 45)).drew) rfl HK.out (by omega) (W0.heap.size + 1) (heap_new2 W0 _ _) (by omega) (some W0.heap.size) (fun q e => by cases e; exact ⟨by omega, box_cells kd sp nm a1 n1 c1 tx a2 n2 c2 _ _ (heap_old W0 _ _)⟩))
  have DD := hide HS.out.drew
  go_region_held2 (fun W' => W'.cell? ⟨w.heap.size, 0, none⟩ = some (.int .i64 kd) /\ W'.cell? ⟨w.heap.size, 1, none⟩ = some (.int .i64 sp) /\ W'.cell? ⟨w.heap.size, 2, none⟩ = some (.string nm) /\ W'.cell? ⟨w.heap.size, 3, none⟩ = some (.slice a1 n1 c1) /\ W'.cell? ⟨w.heap.size, 4, none⟩ = some (.string tx) /\ W'.cell? ⟨w.heap.size, 5, none⟩ = some (.slice a2 n2 c2))
    (first | with_reducible exact HC.out _ Q2.out.2 | with_reducible exact HC.out _ DD.out | with_reducible exact HC.out _ (HS.out.alloc rfl _).drew | with_reducible exact HC.out _ ((HS.out.alloc rfl _).alloc rfl _).drew | with_reducible exact HC.out _ P1.out.s | with_reducible exact HC.out _ (P1.out.s.alloc rfl _))
    (first
      | (with_reducible refine step_append_ex rfl (.tmp 41) (.tmp 42) 23 rfl (.slice (some ⟨W0.heap.size, 0, none⟩) 0 0) (.slice (some ⟨b, o, none⟩) (n + 1) cap) rfl rfl _ A1.out ?_; rintro v1 x1 h1; have P1 := hide h1; clear h1)
      | (with_reducible refine step_append_ex rfl (.tmp 41) (.tmp 42) 23 rfl (.slice (some ⟨W0.heap.size, 0, none⟩) 0 0) (.slice (some ⟨b, o, none⟩) (n + 1) cap) rfl rfl _ A2.out ?_; rintro v1 x1 h1; have P1 := hide h1; clear h1)
      | (with_reducible refine step_append_ex rfl (.tmp 41) (.tmp 42) 23 rfl (.slice (some ⟨W0.heap.size + 1, 0, none⟩) 0 0) (.slice (some ⟨b, o, none⟩) (n + 1) cap) rfl rfl _ A3.out ?_; rintro v1 x1 h1; have P1 := hide h1; clear h1)
      | (with_reducible refine step_append_ex rfl (.tmp 43) (.tmp 45) 23 rfl v1 (.slice (some ⟨x1.heap.size, 0, none⟩) 1 1) rfl rfl _ (more_s (P1.out.alloc rfl (.cells #[.int .i64 kd, .int .i64 sp, .string nm, .slice a1 n1 c1, .string tx, .slice a2 n2 c2] 45) (box_cells kd sp nm a1 n1 c1 tx a2 n2 c2 _ _ (heap_alloc_new x1 _))) HT.out (by omega)) ?_; rintro v2 x2 h2; have Q2 := hide h2; clear h2)
      | (with_reducible refine step_append_ex rfl (.tmp 43) (.tmp 45) 23 rfl v1 (.slice (some ⟨_, 0, none⟩) 1 1) rfl rfl _ (more_s P1.out HT.out (by omega)) ?_; rintro v2 x2 h2; have Q2 := hide h2; clear h2))
  all_goals go_wp2
  all_goals go_ret
  all_goals exact ⟨⟨_, rfl, Q2.out.1.isK (Q2.out.2.hl rfl)⟩, Q2.out.2.bel⟩
theorem push_apart {k : Nat} (t : G5.NT (k + 1)) (v : Value) (kd sp : Int) (nm : ByteArray) (a1 : Option Addr) (n1 c1 : Nat) (tx : ByteArray) (a2 : Option Addr) (n2 c2 : Nat) (w : World) (ts : List (G5.NT (k + 1))) (n : Nat) (hn : ts.length = n + 1) (hl : n < 1000000) (hyes : (ts[n].nd.kind == 2) = true) (hno : (kd == 2) = false) (hK : G5.IsK (fun k => k < w.heap.size) w ts v) (ht : G5.IsN (fun k => k < w.heap.size) w t (boxN kd sp nm a1 n1 c1 tx a2 n2 c2)) :
    Calls Tryz.prog 16 #[v, .agg (boxN kd sp nm a1 n1 c1 tx a2 n2 c2).toArray] w fun e w' => (∃ v', e = .returned v' /\ G5.IsK (fun k => k < w'.heap.size) w' (ts ++ [t]) v') /\ Below w.heap.size w w' := by
  have HK : Hid (∀ X, Below w.heap.size w X -> G5.IsK (fun k => k < w.heap.size) X (ts : List (G5.NT (k + 1))) v) := hide fun X hb => isK_keepB (fun _ h => h) hK hb
  have HT : Hid (∀ X, Below w.heap.size w X -> G5.IsN (fun k => k < w.heap.size) X t (boxN kd sp nm a1 n1 c1 tx a2 n2 c2)) := hide fun X hb => ht.on fun q hq => hb.block q hq
  have HS := hide (PuS.start (w := w) (t := t) (ts := ts) (v := v) kd sp nm a1 n1 c1 tx a2 n2 c2)
  have hlen : (ts).length = n + 1 := hn
  obtain ⟨b, o, cap, rfl, hcell⟩ : ∃ b o cap, v = .slice (some ⟨b, o, none⟩) (n + 1) cap /\ ∀ X, Below w.heap.size w X -> X.cell? ⟨b, o + n * 6, none⟩ = some (.int .i64 ts[n].nd.kind) := by
    rcases hK with ⟨_, h0⟩ | ⟨b, o, cap, e, h1, h2, h3⟩
    · rw [h0] at hlen; simp at hlen
    · refine ⟨b, o, cap, by rw [e, hlen], fun X hb => ?_⟩
      obtain ⟨vs, g, m⟩ := G5.IsNs.get o ts h3 n (by omega)
      obtain ⟨av, kv, rfl, _⟩ := m
      have := g 0 (by omega)
      rw [Nat.add_zero] at this
      rw [hb.cell (G5.cell_lt (a := ⟨b, o + n * 6, none⟩) this)]
      exact this
  have hq := hcell _ HS.out.bel
  have f0 : (boxW w kd sp nm a1 n1 c1 tx a2 n2 c2).cell? ⟨w.heap.size, 0, none⟩ = some (.int .i64 kd) := HS.out.box 0 (by omega)
  generalize ts[n].nd.kind = ku at *
  clear hK ht hcell
  have hn2 : (n : Int) <= 1000000 := by omega
  have hlt : (n : Int) < (n : Int) + 1 := by omega
  show Calls Tryz.prog 16 #[.slice (some ⟨b, o, none⟩) (n + 1) cap, .agg #[.int .i64 kd, .int .i64 sp, .string nm, .slice a1 n1 c1, .string tx, .slice a2 n2 c2]] w _
  go_enter Tryz.func16, Tryz.ntmps16
  go_wp2
  clear hq f0
  obtain ⟨W0, hW0⟩ : ∃ W0, boxW w kd sp nm a1 n1 c1 tx a2 n2 c2 = W0 := ⟨_, rfl⟩
  rw [show w.alloc (Obj.cells #[Value.int IntKind.i64 kd, Value.int IntKind.i64 sp, Value.string nm, Value.slice a1 n1 c1, Value.string tx, Value.slice a2 n2 c2] 45) = W0 from hW0]
  rw [hW0] at HS
  clear hW0
  have HC : Hid (∀ X, PuS w t ts (.slice (some ⟨b, o, none⟩) (n + 1) cap) (boxN kd sp nm a1 n1 c1 tx a2 n2 c2) X -> X.cell? ⟨w.heap.size, 0, none⟩ = some (.int .i64 kd) /\ X.cell? ⟨w.heap.size, 1, none⟩ = some (.int .i64 sp) /\ X.cell? ⟨w.heap.size, 2, none⟩ = some (.string nm) /\ X.cell? ⟨w.heap.size, 3, none⟩ = some (.slice a1 n1 c1) /\ X.cell? ⟨w.heap.size, 4, none⟩ = some (.string tx) /\ X.cell? ⟨w.heap.size, 5, none⟩ = some (.slice a2 n2 c2)) := hide fun X h => ⟨h.box 0 (by omega), h.box 1 (by omega), h.box 2 (by omega), h.box 3 (by omega), h.box 4 (by omega), h.box 5 (by omega)⟩
  have hgt : w.heap.size < W0.heap.size := HS.out.hl rfl
  have A1 := hide (copy_s ((HS.out.alloc rfl (.cells #[] 45)).drew) rfl HK.out (by omega) W0.heap.size (heap_new W0 _) hgt none (fun q e => by cases e))
  have A2 := hide (copy_s (((HS.out.alloc rfl (.cells #[] 45)).alloc rfl (.cells #[.int .i64 kd, .int .i64 sp, .string nm, .slice a1 n1 c1, .string tx, .slice a2 n2 c2] 45)).drew) rfl HK.out (by omega) W0.heap.size (heap_old W0 _ _) hgt (some (W0.heap.size + 1)) (fun q e => by cases e; exact ⟨by omega, box_cells kd sp nm a1 n1 c1 tx a2 n2 c2 _ _ (heap_new2 W0 _ _)⟩))
  have A3 := hide (copy_s (((HS.out.alloc rfl (.cells #[.int .i64 kd, .int .i64 sp, .string nm, .slice a1 n1 c1, .string tx, .slice a2 n2 c2] 45)).alloc rfl (.cells #[] 45)).drew) rfl HK.out (by omega) (W0.heap.size + 1) (heap_new2 W0 _ _) (by omega) (some W0.heap.size) (fun q e => by cases e; exact ⟨by omega, box_cells kd sp nm a1 n1 c1 tx a2 n2 c2 _ _ (heap_old W0 _ _)⟩))
  have DD := hide HS.out.drew
  go_region_held2 (fun W' => W'.cell? ⟨w.heap.size, 0, none⟩ = some (.int .i64 kd) /\ W'.cell? ⟨w.heap.size, 1, none⟩ = some (.int .i64 sp) /\ W'.cell? ⟨w.heap.size, 2, none⟩ = some (.string nm) /\ W'.cell? ⟨w.heap.size, 3, none⟩ = some (.slice a1 n1 c1) /\ W'.cell? ⟨w.heap.size, 4, none⟩ = some (.string tx) /\ W'.cell? ⟨w.heap.size, 5, none⟩ = some (.slice a2 n2 c2))
    (first | with_reducible exact HC.out _ Q2.out.2 | with_reducible exact HC.out _ DD.out | with_reducible exact HC.out _ (HS.out.alloc rfl _).drew | with_reducible exact HC.out _ ((HS.out.alloc rfl _).alloc rfl _).drew | with_reducible exact HC.out _ P1.out.s | with_reducible exact HC.out _ (P1.out.s.alloc rfl _))
    (first
      | (with_reducible refine step_append_ex rfl (.tmp 41) (.tmp 42) 23 rfl (.slice (some ⟨W0.heap.size, 0, none⟩) 0 0) (.slice (some ⟨b, o, none⟩) (n + 1) cap) rfl rfl _ A1.out ?_; rintro v1 x1 h1; have P1 := hide h1; clear h1)
      | (with_reducible refine step_append_ex rfl (.tmp 41) (.tmp 42) 23 rfl (.slice (some ⟨W0.heap.size, 0, none⟩) 0 0) (.slice (some ⟨b, o, none⟩) (n + 1) cap) rfl rfl _ A2.out ?_; rintro v1 x1 h1; have P1 := hide h1; clear h1)
      | (with_reducible refine step_append_ex rfl (.tmp 41) (.tmp 42) 23 rfl (.slice (some ⟨W0.heap.size + 1, 0, none⟩) 0 0) (.slice (some ⟨b, o, none⟩) (n + 1) cap) rfl rfl _ A3.out ?_; rintro v1 x1 h1; have P1 := hide h1; clear h1)
      | (with_reducible refine step_append_ex rfl (.tmp 43) (.tmp 45) 23 rfl v1 (.slice (some ⟨x1.heap.size, 0, none⟩) 1 1) rfl rfl _ (more_s (P1.out.alloc rfl (.cells #[.int .i64 kd, .int .i64 sp, .string nm, .slice a1 n1 c1, .string tx, .slice a2 n2 c2] 45) (box_cells kd sp nm a1 n1 c1 tx a2 n2 c2 _ _ (heap_alloc_new x1 _))) HT.out (by omega)) ?_; rintro v2 x2 h2; have Q2 := hide h2; clear h2)
      | (with_reducible refine step_append_ex rfl (.tmp 43) (.tmp 45) 23 rfl v1 (.slice (some ⟨_, 0, none⟩) 1 1) rfl rfl _ (more_s P1.out HT.out (by omega)) ?_; rintro v2 x2 h2; have Q2 := hide h2; clear h2))
  all_goals go_wp2
  all_goals go_ret
  all_goals exact ⟨⟨_, rfl, Q2.out.1.isK (Q2.out.2.hl rfl)⟩, Q2.out.2.bel⟩
theorem isK_drew {w : World} {k : Nat} {ts : List (G5.NT k)} {v : Value} (h : G5.IsK (fun k => k < w.heap.size) w ts v) : G5.IsK (fun k => k < w.drew.heap.size) w.drew ts v := isK_wide (isK_keepB (B := fun k => k < w.heap.size) (W := w.drew) (fun _ h => h) h ((Below.refl _ w).drew)) (fun _ h => h)
theorem rowQ_row {N : Nat} {W : World} {v : Value} {k : Nat} {ts : List (G5.NT k)} (h : RowQ N W v ts) : ∃ g cap, v = .slice (some ⟨g, 0, none⟩) ts.length cap /\ N <= g /\ g < W.heap.size /\ ts.length <= cap := by
  obtain ⟨hv, cs, h1, h2, h3⟩ := h
  rcases h2.2 with ⟨e1, e2⟩ | ⟨g, cap, cur, rfl, hbg, hg, hnc, _⟩
  · exact absurd e1 hv
  · exact ⟨g, cap, rfl, hbg, (Array.getElem?_eq_some_iff.1 hg).1, hnc⟩
theorem rowQ_text {N : Nat} {W : World} {g cap n : Nat} {k : Nat} {ts : List (G5.NT (k + 1))} (h : RowQ N W (.slice (some ⟨g, 0, none⟩) ts.length cap) ts) (hn : n < ts.length) : W.cell? ⟨g, n * 6 + 4, none⟩ = some (.string ⟨ts[n].nd.text.toArray⟩) /\ W.frozen? ⟨g, n * 6 + 4, none⟩ = false := by
  obtain ⟨hv, cs, h1, h2, h3⟩ := h
  have hl : ∀ c ∈ cs, c.length = 6 := fun c hc => by
    obtain ⟨j, hj, rfl⟩ := List.mem_iff_getElem.1 hc
    exact G5.isN_len (h3 j hj (by omega))
  obtain ⟨av, kv, e, _⟩ := h3 n (by omega) hn
  refine ⟨?_, ?_⟩
  · rw [h2.cellAt (n * 6 + 4) (by omega), G5.flatten_get6 cs hl n (by omega) 4 (by omega), e]
    rfl
  · rcases h2.2 with ⟨e1, _⟩ | ⟨g', cap', cur, e1, e2, e3, _⟩
    · cases e1
    · injection e1 with e1
      injection e1 with e1
      injection e1 with e1
      subst e1
      unfold World.frozen?
      rw [e3]
      simp
theorem rowQ_set {N : Nat} {W : World} {g cap n : Nat} {k : Nat} {ts : List (G5.NT (k + 1))} (h : RowQ N W (.slice (some ⟨g, 0, none⟩) ts.length cap) ts) (hg : N <= g) (hn : n < ts.length) (x : ByteArray) : RowQ N (W.setCell ⟨g, n * 6 + 4, none⟩ (.string x)) (.slice (some ⟨g, 0, none⟩) (ts.set n (withT ts[n] x.data.toList)).length cap) (ts.set n (withT ts[n] x.data.toList)) := by
  obtain ⟨hv, cs, h1, h2, h3⟩ := h
  have hl : ∀ c ∈ cs, c.length = 6 := fun c hc => by
    obtain ⟨j, hj, rfl⟩ := List.mem_iff_getElem.1 hc
    exact G5.isN_len (h3 j hj (by omega))
  have hc : n < cs.length := by omega
  have hoth : ∀ q, q < N -> (W.setCell ⟨g, n * 6 + 4, none⟩ (.string x)).heap[q]? = W.heap[q]? := fun q hq => Below.heap_setCell _ _ _ _ (show q ≠ g by omega)
  rw [List.length_set]
  refine ⟨by simp, cs.set n (cs[n].set 4 (.string x)), by rw [List.length_set, List.length_set]; exact h1, ?_, ?_⟩
  · rw [List.length_set, flatten_set cs hl n hc]
    refine ownsRow_set h2 (n * 6 + 4) ?_ _
    have := h2.1
    omega
  · intro j g1 g2
    have g3 : j < cs.length := by rw [List.length_set] at g1; exact g1
    have g4 : j < ts.length := by rw [List.length_set] at g2; exact g2
    by_cases e : j = n
    · subst e
      simp only [List.getElem_set_self]
      obtain ⟨av, kv, e, e2, e3⟩ := (h3 j g3 g4).on hoth
      refine ⟨av, kv, ?_, e2, e3⟩
      rw [e]
      show [_, _, _, _, _, _].set 4 _ = _
      simp only [G5.nodeC, List.set_cons_succ, List.set_cons_zero]
      have : (⟨x.data.toList.toArray⟩ : ByteArray) = x := by cases x; simp
      show _ = [Value.int .i64 ts[j].nd.kind, .int .i64 ts[j].nd.space, .string ⟨ts[j].nd.name.toArray⟩, av, .string ⟨x.data.toList.toArray⟩, kv]
      rw [this]
    · rw [List.getElem_set_ne (fun h => e h.symm), List.getElem_set_ne (fun h => e h.symm)]
      exact (h3 j g3 g4).on hoth
theorem push_join {k : Nat} (v : Value) (sp : Int) (nm : ByteArray) (a1 : Option Addr) (n1 c1 : Nat) (tx : ByteArray) (a2 : Option Addr) (n2 c2 : Nat) (w : World) (ts : List (G5.NT (k + 1))) (n : Nat) (hn : ts.length = n + 1) (hl : n < 1000000) (hyes : ts[n].nd.kind = 2) (hx : ts[n].nd.text.length + tx.size <= 1000000) (hK : G5.IsK (fun k => k < w.heap.size) w ts v) :
    Calls Tryz.prog 16 #[v, .agg (boxN 2 sp nm a1 n1 c1 tx a2 n2 c2).toArray] w fun e w' => (∃ v', e = .returned v' /\ G5.IsK (fun k => k < w'.heap.size) w' (ts.set n (withT ts[n] (ts[n].nd.text ++ tx.data.toList))) v') /\ Below w.heap.size w w' := by
  have HK : Hid (∀ X, Below w.heap.size w X -> G5.IsK (fun k => k < w.heap.size) X (ts : List (G5.NT (k + 1))) v) := hide fun X hb => isK_keepB (fun _ h => h) hK hb
  have HS := hide (PuS.start (w := w) (t := ts[n]) (ts := ts) (v := v) 2 sp nm a1 n1 c1 tx a2 n2 c2)
  have hlen : (ts).length = n + 1 := hn
  obtain ⟨b, o, cap, rfl, hcell⟩ : ∃ b o cap, v = .slice (some ⟨b, o, none⟩) (n + 1) cap /\ ∀ X, Below w.heap.size w X -> X.cell? ⟨b, o + n * 6, none⟩ = some (.int .i64 2) := by
    rcases hK with ⟨_, h0⟩ | ⟨b, o, cap, e, h1, h2, h3⟩
    · rw [h0] at hlen; simp at hlen
    · refine ⟨b, o, cap, by rw [e, hlen], fun X hb => ?_⟩
      obtain ⟨vs, g, m⟩ := G5.IsNs.get o ts h3 n (by omega)
      obtain ⟨av, kv, rfl, _⟩ := m
      have := g 0 (by omega)
      rw [Nat.add_zero] at this
      rw [hb.cell (G5.cell_lt (a := ⟨b, o + n * 6, none⟩) this), this]
      show some (Value.int .i64 ts[n].nd.kind) = _
      rw [hyes]
  have hq := hcell _ HS.out.bel
  have f0 : (boxW w 2 sp nm a1 n1 c1 tx a2 n2 c2).cell? ⟨w.heap.size, 0, none⟩ = some (.int .i64 2) := HS.out.box 0 (by omega)
  clear hK hcell
  have hgs : (boxW w 2 sp nm a1 n1 c1 tx a2 n2 c2).heap.size = w.heap.size + 1 := by simp
  obtain ⟨v1, x1, hr, hP⟩ := copy_s (HS.out.alloc rfl (.cells #[] 45)) rfl HK.out (by omega) (w.heap.size + 1) (by have := heap_new (boxW w 2 sp nm a1 n1 c1 tx a2 n2 c2) (.cells #[] 45); rw [hgs] at this; exact this) (by omega) none (fun q e => by cases e)
  obtain ⟨g, cp, rfl, hgN, hgL, hcp⟩ := rowQ_row hP.q
  have hP' := hP.q
  obtain ⟨ht1, ht2⟩ := rowQ_text (n := n) hP' (by omega)
  have hb4 : x1.cell? ⟨w.heap.size, 4, none⟩ = some (.string tx) := hP.s.box 4 (by omega)
  have hst := fun x => rowQ_set (n := n) hP' hgN (by omega) x
  have hbel := hP.s.bel
  have hxs : (⟨ts[n].nd.text.toArray⟩ : ByteArray).size = ts[n].nd.text.length := by rw [G5.size_list, G5.str_data]
  have hdata : ((⟨ts[n].nd.text.toArray⟩ : ByteArray) ++ tx).data.toList = ts[n].nd.text ++ tx.data.toList := by rw [ByteArray.data_append, Array.toList_append]
  have HST : Hid (G5.IsK (fun k => k < (x1.setCell ⟨g, n * 6 + 4, none⟩ (.string ((⟨ts[n].nd.text.toArray⟩ : ByteArray) ++ tx))).heap.size) (x1.setCell ⟨g, n * 6 + 4, none⟩ (.string ((⟨ts[n].nd.text.toArray⟩ : ByteArray) ++ tx))) (ts.set n (withT ts[n] (ts[n].nd.text ++ tx.data.toList))) (.slice (some ⟨g, 0, none⟩) (n + 1) cp)) := hide (by
    have h := (hst ((⟨ts[n].nd.text.toArray⟩ : ByteArray) ++ tx)).isK (by simp [World.setCell]; omega)
    have hv : Value.slice (some ⟨g, 0, none⟩) ts.length cp = .slice (some ⟨g, 0, none⟩) (n + 1) cp := by rw [hlen]
    rw [hdata, List.length_set, hv] at h
    exact h)
  have HBE : Hid (Below w.heap.size w (x1.setCell ⟨g, n * 6 + 4, none⟩ (.string ((⟨ts[n].nd.text.toArray⟩ : ByteArray) ++ tx)))) := hide (hbel.setCell (by show w.heap.size <= g; omega) _)
  rw [hlen] at hr
  have hr2 := hide hr
  have hbd : ¬ 9223372036854775807 < ts[n].nd.text.length + tx.size := by omega
  have hbd2 : ts[n].nd.text.length + tx.size <= 1000000 := hx
  clear hr hP hP' hst hdata hbel HS HK hcp hyes
  rw [<- hxs] at hbd hbd2 hx
  clear hxs
  generalize withT ts[n] (ts[n].nd.text ++ tx.data.toList) = U at *
  generalize (⟨ts[n].nd.text.toArray⟩ : ByteArray) = Y at *
  have hn2 : (n : Int) <= 1000000 := by omega
  have hlt : (n : Int) < (n : Int) + 1 := by omega
  show Calls Tryz.prog 16 #[.slice (some ⟨b, o, none⟩) (n + 1) cap, .agg #[.int .i64 2, .int .i64 sp, .string nm, .slice a1 n1 c1, .string tx, .slice a2 n2 c2]] w _
  go_enter Tryz.func16, Tryz.ntmps16
  go_wp2_with (at_builtin; with_reducible refine wpList_append_run rfl _ _ 23 rfl (.slice (some ⟨w.heap.size + 1, 0, none⟩) 0 0) (.slice (some ⟨b, o, none⟩) (n + 1) cap) _ x1 rfl rfl hr2.out ?_)
  go_region
  all_goals go_wp2
  all_goals go_ret
  all_goals exact ⟨⟨.slice (some ⟨g, 0, none⟩) (n + 1) cp, rfl, isK_drew HST.out⟩, HBE.out.drew⟩
end Go.Proofs.YtfohijnkeefcfaaGreatDoor
