/- What SpaceLeast asks, over lists; a space and a list beside it that are taken from and given to. -/
import Derived.Test.YtkopfigagnagoaaLp18
set_option linter.unusedVariables false
set_option linter.unusedSimpArgs false
set_option maxRecDepth 40000
namespace Go.Proofs.Ytkopfigagnagoaa
open Go.RowKit

theorem least_of_free {l : SL} (h : 0 < freeS l) : ∃ a, leastS l 0 = some a := by
  cases hl : leastS l 0 with
  | some a => exact ⟨a, rfl⟩
  | none =>
    exfalso
    have h1 := least_none hl
    have h2 : false ∈ l := List.count_pos_iff.1 h
    have := h1 false h2
    cases this
/-- All that SpaceLeast asks of one round. -/
structure LeastR (l : SL) (a : Nat) : Prop where
  lt : a < l.length
  no : l[a]? = some false
  up : ∀ j, j < a → l[j]? = some true
  t1 : takeS l = (l.set a true, a, 0)
  g1 : giveS (l.set a true) (a : Int) = (l, 0)
  tk : takenS (l.set a true) (a : Int) = true
  fr : freeS (l.set a true) + 1 = freeS l
theorem leastR {l : SL} {a : Nat} (h : leastS l 0 = some a) : LeastR l a := by
  obtain ⟨h1, h2, h3, h4⟩ := least_some h
  rw [Nat.sub_zero] at h3 h4
  have hlt : a < l.length := by omega
  have htk : takenS (l.set a true) (a : Int) = true := by
    unfold takenS
    rw [List.length_set, decide_eq_true (by omega : (0 : Int) ≤ (a : Int)), decide_eq_true (by omega : (a : Int) < (l.length : Int)), Int.toNat_natCast, List.getD_eq_getElem?_getD, List.getElem?_set_self hlt]
    rfl
  have hb : (l.set a true).set a false = l := by
    rw [List.set_set]
    obtain ⟨_, e⟩ := List.getElem?_eq_some_iff.1 h3
    rw [← e, List.set_getElem_self]
  refine ⟨hlt, h3, h4, by unfold takeS; rw [h], ?_, htk, free_set_true l a h3⟩
  unfold giveS
  rw [if_pos htk, Int.toNat_natCast, hb]
theorem full_take {l : SL} (h : freeS l = 0) : takeS l = (l, 0, 3) := by
  have : leastS l 0 = none := by
    cases hl : leastS l 0 with
    | none => rfl
    | some a =>
      obtain ⟨_, _, h3, _⟩ := least_some hl
      rw [Nat.sub_zero] at h3
      have h4 : 0 < freeS l := List.count_pos_iff.2 (List.mem_of_getElem? h3)
      omega
  unfold takeS
  rw [this]
theorem taken_at {l : SL} {i : Nat} {x : Bool} (h : l[i]? = some x) : takenS l (i : Int) = x := by
  obtain ⟨hi, e⟩ := List.getElem?_eq_some_iff.1 h
  unfold takenS
  rw [decide_eq_true (by omega : (0 : Int) ≤ (i : Int)), decide_eq_true (by omega : (i : Int) < (l.length : Int)), Int.toNat_natCast, List.getD_eq_getElem?_getD, h]
  rfl
/-- What was filled so far. -/
def wasS (l : SL) (i : Nat) : SL := l.take i ++ List.replicate (l.length - i) false
theorem wasS_len (l : SL) (i : Nat) (h : i ≤ l.length) : (wasS l i).length = l.length := by unfold wasS; rw [List.length_append, List.length_take, List.length_replicate]; omega
theorem wasS_zero (l : SL) : wasS l 0 = List.replicate l.length false := rfl
theorem wasS_end (l : SL) : wasS l l.length = l := by unfold wasS; simp
theorem wasS_step (l : SL) (i : Nat) (x : Bool) (h : l[i]? = some x) : (wasS l i).set i x = wasS l (i + 1) := by
  obtain ⟨hi, rfl⟩ := List.getElem?_eq_some_iff.1 h
  unfold wasS
  have e : l.length - i = (l.length - (i + 1)) + 1 := by omega
  have hl : (l.take i).length = i := by rw [List.length_take]; omega
  rw [e, List.replicate_succ, List.set_append_right _ _ (by omega), hl, Nat.sub_self, List.set_cons_zero, List.take_succ_eq_append_getElem hi, List.append_assoc]
  rfl
theorem PS.kr {w x y : World} {v u : Value} {l m l' : SL} {A : Nat → Prop} (h : PS w v l u m x) (h1 : IsK A x v l) (h2 : ∀ k, A k → w.heap.size ≤ k) (h3 : ∀ k, u.ownBlock = some k → ¬ A k ∧ k < x.heap.size) (hk : KR IsK A x v l' y) : PS w v l' u m y := by
  obtain ⟨A', k1, k2, k3⟩ := hk
  refine ⟨⟨A', k1, fun k hk => (k2 k hk).elim (h2 k) (fun h5 => Nat.le_trans h.b.size h5), fun k hk => ⟨fun ha => ?_, Nat.lt_of_lt_of_le (h3 k hk).2 k3.size⟩⟩, h.f.keep fun k hk => k3.block k (h3 k hk).2 (h3 k hk).1, h.b.trans (k3.below h2 h.b.size)⟩
  rcases k2 k ha with h6 | h6
  · exact (h3 k hk).1 h6
  · have := (h3 k hk).2
    omega
theorem PS.take {w x : World} {v u : Value} {l m : SL} (h : PS w v l u m x) (hl : l.length ≤ 4096) : Calls Try.prog 19 #[v] x fun e y => e = .returned (.tuple #[.int .i64 ((takeS l).2.1 : Int), .int .i64 (takeS l).2.2]) ∧ Hid (PS w v (takeS l).1 u m y) := by
  obtain ⟨A, h1, h2, h3⟩ := h.k
  exact (ptake_any A v l x h1 hl).mono fun e y hh => ⟨hh.1, hide (h.kr h1 h2 h3 hh.2)⟩
theorem PS.give {w x : World} {v u : Value} {l m : SL} (h : PS w v l u m x) (hl : l.length ≤ 4096) (i : Int) : Calls Try.prog 20 #[v, .int .i64 i] x fun e y => e = .returned (.int .i64 (giveS l i).2) ∧ Hid (PS w v (giveS l i).1 u m y) := by
  obtain ⟨A, h1, h2, h3⟩ := h.k
  exact (pgive_any A v l i x h1 hl).mono fun e y hh => ⟨hh.1, hide (h.kr h1 h2 h3 hh.2)⟩
theorem PS.liv {w x : World} {v u : Value} {l m : SL} (h : PS w v l u m x) : Liv w v l x := by
  obtain ⟨A, h1, h2, h3⟩ := h.k
  exact ⟨⟨A, h1, h2⟩, h.b⟩
theorem live_play {w x : World} {v : Value} {l : SL} (h : Liv w v l x) (hl : l.length ≤ 4096) (a : AV) (hz : IsZ w a.lv a.l) (hzl : a.l.length ≤ 9223372036854775807) : Calls Try.prog 10 #[v, acA a] x fun e y => (∃ z1 z2, e = .returned (.tuple #[.int .i64 z1, .int .i64 z2])) ∧ Hid (Liv w v (modelS l a).1 y) := by
  obtain ⟨A, h1, h2⟩ := h.k
  refine (play_any A v l a x h1 hl ⟨hz.below h.b, fun h0 k hk ha => ?_, hzl⟩).mono fun e y hh => ⟨⟨_, _, hh.1⟩, hide (Liv.kr h2 h.b hh.2)⟩
  have := isZ_blk hz h0 k hk
  have := h2 k ha
  omega
/-- While it is written down which numbers are taken. -/
structure FS (w x0 : World) (v : Value) (l : SL) (g i : Nat) (x : World) : Prop where
  k : ∃ A, IsK A x v l ∧ (∀ k, A k → w.heap.size ≤ k) ∧ ∀ k, A k → k < x0.heap.size
  o : x.ownsRow x0.heap.size 4 1 (.slice (some ⟨g, 0, none⟩) l.length l.length) l.length (boolsV (wasS l i))
  b : Below x0.heap.size x0 x
  c : Below w.heap.size w x
  s : w.heap.size ≤ x0.heap.size
theorem FS.begin {w x0 : World} {v : Value} {l : SL} (h : Liv w v l x0) (hl : l.length ≤ 4096) : ∃ x, (Instr.makeSlice 28 (.int .i64 (l.length : Int)) (.int .i64 (l.length : Int))).run Try.prog x0 = .ok (.slice (some ⟨x0.heap.size, 0, none⟩) l.length l.length) x ∧ FS w x0 v l x0.heap.size 0 x := by
  obtain ⟨A, h1, h2⟩ := h.k
  obtain ⟨x, hm, ho, hb⟩ := make_bools x0 l.length (by omega)
  exact ⟨x, hm, ⟨A, h1.below hb, h2, fun k hk => h1.lt k hk⟩, ho, hb, h.b.trans (hb.mono h.b.size), h.b.size⟩
theorem owns_stay {w W : World} {B n : Nat} {e : TypeId} {z : Nat} {v : Value} {xs : List Value} (h : w.ownsRow B e z v n xs) (hb : Below w.heap.size w W) : W.ownsRow B e z v n xs := by
  refine ⟨h.1, ?_⟩
  rcases h.2 with h | ⟨g, cap, cur, h1, h2, h3, h4⟩
  · exact .inl h
  · exact .inr ⟨g, cap, cur, h1, h2, (hb.block g (Array.getElem?_eq_some_iff.1 h3).1).trans h3, h4⟩
theorem FS.step {w x0 x : World} {v : Value} {l : SL} {g i : Nat} (h : FS w x0 v l g i x) (hl : l.length ≤ 4096) (t : Bool) (hi : l[i]? = some t) : Calls Try.prog 16 #[v, .int .i64 (i : Int)] x fun e y => e = .returned (.bool t) ∧ (∃ old, y.cell? ⟨g, i, none⟩ = some old) ∧ y.frozen? ⟨g, i, none⟩ = false ∧ Hid (FS w x0 v l g (i + 1) (y.setCell ⟨g, i, none⟩ (.bool t))) := by
  obtain ⟨A, h1, h2, h3⟩ := h.k
  have hlt : i < l.length := (List.getElem?_eq_some_iff.1 hi).1
  refine (ptaken_any A v l i x h1 hl).mono ?_
  rintro e y ⟨rfl, hb⟩
  have ho := owns_stay h.o hb
  have hwl := wasS_len l i (by omega)
  have hs := (ho.stored i (.bool t)).1
  have e4 : (boolsV (wasS l i)).set i (.bool t) = boolsV (wasS l (i + 1)) := by
    rw [← wasS_step l i t hi]
    unfold boolsV
    rw [List.map_set]
  rw [e4] at hs
  have hgl := ho.lt g rfl
  refine ⟨by rw [taken_at hi], ⟨_, (ho.cellAt i (by omega)).trans (boolsV_get (wasS l i) i (by omega))⟩, ho.frozenAt i, hide ⟨⟨A, (h1.below hb).keep fun k hk => Below.heap_setCell _ _ _ _ (fun e => by have := h3 k hk; have := hgl.1; have e2 : k = g := e; omega), h2, h3⟩, hs, (h.b.trans (hb.mono h.b.size)).setCell (p := ⟨g, i, none⟩) hgl.1 _, (h.c.trans (hb.mono h.c.size)).setCell (p := ⟨g, i, none⟩) (Nat.le_trans h.s hgl.1) _, h.s⟩⟩
theorem FS.done {w x0 x : World} {v : Value} {l : SL} {g : Nat} (h : FS w x0 v l g l.length x) : PS w v l (.slice (some ⟨g, 0, none⟩) l.length l.length) l x := by
  obtain ⟨A, h1, h2, h3⟩ := h.k
  have ho := h.o
  rw [wasS_end] at ho
  exact ⟨⟨A, h1, h2, fun k hk => by
    have hg := ho.lt k hk
    exact ⟨fun ha => by have := h3 k ha; omega, hg.2⟩⟩, owns_isF ho, h.c⟩
end Go.Proofs.Ytkopfigagnagoaa
