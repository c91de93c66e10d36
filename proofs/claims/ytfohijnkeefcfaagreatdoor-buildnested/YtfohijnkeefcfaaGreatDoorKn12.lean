import Derived.Test.YtfohijnkeefcfaaGreatDoorKn04
import Derived.Test.YtfohijnkeefcfaaGreatDoorKn11
import Derived.Deep.AppendSrc
import Derived.Lib.ConvBytes
set_option linter.unusedVariables false
set_option linter.unusedSimpArgs false
set_option maxRecDepth 100000
set_option maxHeartbeats 8000000
namespace Go.Proofs.YtfohijnkeefcfaaGreatDoor.S5
open Go.RowKit
structure ButA (A : Nat -> Prop) (w w' : World) : Prop where
  os : w'.os = w.os
  tape : w'.tape = w.tape
  output : w'.output = w.output
  size : w.heap.size <= w'.heap.size
  block : ∀ k, k < w.heap.size -> ¬ A k -> w'.heap[k]? = w.heap[k]?
theorem ButA.refl (A : Nat -> Prop) (w : World) : ButA A w w := ⟨rfl, rfl, rfl, Nat.le_refl _, fun _ _ _ => rfl⟩
theorem ButA.of {A : Nat -> Prop} {w w' : World} (h : Below w.heap.size w w') : ButA A w w' := ⟨h.os, h.tape, h.output, h.size, fun k hk _ => h.block k hk⟩
theorem ButA.trans {A B : Nat -> Prop} {w w1 w2 : World} (h : ButA A w w1) (k : ButA B w1 w2) (hB : ∀ j, j < w.heap.size -> B j -> A j) : ButA A w w2 :=
  ⟨k.os.trans h.os, k.tape.trans h.tape, k.output.trans h.output, Nat.le_trans h.size k.size, fun i hi hn => (k.block i (Nat.lt_of_lt_of_le hi h.size) (fun hb => hn (hB i hi hb))).trans (h.block i hi hn)⟩
theorem ButA.trans' {A : Nat -> Prop} {w w1 w2 : World} (h : ButA A w w1) (k : ButA (andNew A w.heap.size) w1 w2) : ButA A w w2 := h.trans k fun j hj hb => hb.resolve_right (by omega)
theorem ButA.below {A : Nat -> Prop} {n : Nat} {w w' : World} (h : ButA A w w') (hn : ∀ k, A k -> n <= k) (hs : n <= w.heap.size) : Below n w w' := ⟨h.os, h.tape, h.output, h.size, fun k hk => h.block k (by omega) (fun ha => by have := hn k ha; omega)⟩
theorem ButA.setCell {A : Nat -> Prop} {w w' : World} (h : ButA A w w') {a : Addr} (ha : A a.block \/ w.heap.size <= a.block) (v : Value) : ButA A w (w'.setCell a v) :=
  ⟨h.os, h.tape, h.output, by simpa [World.setCell] using h.size, fun k hk hn => by
    rw [Below.heap_setCell _ _ _ _ (by rintro rfl; rcases ha with ha | ha; exact hn ha; omega)]
    exact h.block k hk hn⟩
theorem ButA.alloc {A : Nat -> Prop} {w w' : World} (h : ButA A w w') (o : Obj) : ButA A w (w'.alloc o) :=
  ⟨h.os, h.tape, h.output, by have := h.size; simp; omega, fun k hk hn => by
    rw [Below.heap_alloc _ _ _ (by have := h.size; omega)]
    exact h.block k hk hn⟩
theorem ButA.drew {A : Nat -> Prop} {w w' : World} (h : ButA A w w') : ButA A w w'.drew := ⟨h.os, h.tape, h.output, h.size, h.block⟩
theorem ButA.mono {A B : Nat -> Prop} {w w' : World} (h : ButA A w w') (hm : ∀ k, A k -> B k) : ButA B w w' := ⟨h.os, h.tape, h.output, h.size, fun k hk hn => h.block k hk fun ha => hn (hm k ha)⟩
def textCells (l : List UInt8) : List Value := l.map fun b => Value.int .u8 (b.toNat : Int)
def OwnB (w : World) (v : Value) (l : List UInt8) : Prop :=
  (v = .slice none 0 0 /\ l = []) \/ ∃ g cap cur mk, v = .slice (some ⟨g, 0, none⟩) l.length cap /\ w.heap[g]? = some (.cells cur 5 mk) /\ (∀ j, j < cap -> w.frozen? ⟨g, j, none⟩ = false) /\ l.length <= cap /\ cap <= maxLen /\ cur.size = cap /\ cur.toList.take l.length = textCells l
theorem OwnB.keep {w W : World} {v : Value} {l : List UInt8} (h : OwnB w v l) (hk : ∀ k, v.ownBlock = some k -> W.heap[k]? = w.heap[k]?) : OwnB W v l := by
  rcases h with h | ⟨g, cap, cur, mk, rfl, h1, h2, h3⟩
  · exact .inl h
  · have hg := hk g rfl
    exact .inr ⟨g, cap, cur, mk, rfl, by rw [hg]; exact h1, fun j hj => by rw [World.frozen?_of_block (a := ⟨g, j, none⟩) hg]; exact h2 j hj, h3⟩
theorem OwnB.lt {w : World} {v : Value} {l : List UInt8} (h : OwnB w v l) : ∀ k, v.ownBlock = some k -> k < w.heap.size := by
  intro k hk
  rcases h with ⟨rfl, _⟩ | ⟨g, cap, cur, mk, rfl, h1, _⟩
  · cases hk
  · obtain rfl : g = k := by simpa [Value.ownBlock] using hk
    exact (Array.getElem?_eq_some_iff.1 h1).1
theorem OwnB.form {w : World} {v : Value} {l : List UInt8} (h : OwnB w v l) : ∃ a c, v = .slice a l.length c := by
  rcases h with ⟨rfl, rfl⟩ | ⟨g, cap, cur, mk, rfl, _⟩
  · exact ⟨_, _, rfl⟩
  · exact ⟨_, _, rfl⟩
theorem OwnB.cells {w : World} {a : Option Addr} {n c : Nat} {l : List UInt8} (h : OwnB w (.slice a n c) l) : ∀ j (hj : j < l.length), ∃ g, a = some ⟨g, 0, none⟩ /\ w.cell? ⟨g, j, none⟩ = some (.int .u8 (l[j].toNat : Int)) := by
  intro j hj
  rcases h with ⟨_, rfl⟩ | ⟨g, cap, cur, mk, e, h1, h2, h3, h4, h5, h6⟩
  · simp at hj
  · injection e with e1 e2 e3
    refine ⟨g, e1, ?_⟩
    have hh : (cur.toList.take l.length)[j]? = some (.int .u8 (l[j].toNat : Int)) := by
      rw [h6]; unfold textCells; rw [List.getElem?_map, List.getElem?_eq_getElem hj]; rfl
    rw [List.getElem?_take_of_lt hj] at hh
    simp only [World.cell?, h1]
    simpa using hh
theorem ownsRow_keep {w W : World} {B n : Nat} {e : TypeId} {z : Nat} {v : Value} {xs : List Value} (h : w.ownsRow B e z v n xs) (hk : ∀ k, v.ownBlock = some k -> W.heap[k]? = w.heap[k]?) : W.ownsRow B e z v n xs := by
  refine ⟨h.1, ?_⟩
  rcases h.2 with h2 | ⟨g, cap, cur, rfl, h2, h3, h4⟩
  · exact .inl h2
  · exact .inr ⟨g, cap, cur, rfl, h2, by rw [hk g rfl]; exact h3, h4⟩
theorem isA_keep {w W : World} {v : Value} {aa : AttrL} (h : IsA w v aa) (hk : ∀ k, v.ownBlock = some k -> W.heap[k]? = w.heap[k]?) : IsA W v aa := by
  rcases h with h | ⟨b, o, cap, rfl, h2, h3⟩
  · exact .inl h
  · have := hk b rfl
    exact .inr ⟨b, o, cap, rfl, h2, fun j hj => ⟨cell_same this (h3 j hj).1, cell_same this (h3 j hj).2⟩⟩
structure RV where
  rn : RN
  kv : Value
  av : Value
  tv : Value
def rvC (r : RV) : List Value := [.int .i64 r.rn.nd.kind, .int .i64 r.rn.par, r.kv, .int .i64 r.rn.nd.space, .string ⟨r.rn.nd.name.toArray⟩, r.av, r.tv]
def rvCells : List RV -> List Value
  | [] => []
  | p :: r => rvC p ++ rvCells r
theorem rvCells_app : ∀ a b : List RV, rvCells (a ++ b) = rvCells a ++ rvCells b
  | [], b => rfl
  | p :: r, b => by simp only [List.cons_append, rvCells, rvCells_app r b, List.append_assoc]
theorem rvCells_get : ∀ (ps : List RV) (j : Nat) (hj : j < ps.length) (o : Nat) (ho : o < 7), (rvCells ps)[j * 7 + o]? = (rvC ps[j])[o]?
  | p :: r, 0, _, o, ho => by
    simp only [rvCells, Nat.zero_mul, Nat.zero_add, List.getElem_cons_zero]
    rw [List.getElem?_append_left (by simpa [rvC] using ho)]
  | p :: r, j + 1, hj, o, ho => by
    have h := rvCells_get r j (by simpa using hj) o ho
    simp only [rvCells, List.getElem_cons_succ]
    rw [List.getElem?_append_right (by simp [rvC]; omega), show (j + 1) * 7 + o - (rvC p).length = j * 7 + o by simp [rvC]; omega]
    exact h
theorem rvCells_set : ∀ (ps : List RV) (j : Nat) (hj : j < ps.length) (o : Nat) (ho : o < 7) (r' : RV) (v : Value), rvC r' = (rvC ps[j]).set o v -> rvCells (ps.set j r') = (rvCells ps).set (j * 7 + o) v
  | p :: r, 0, _, o, ho, r', v, he => by
    simp only [List.set_cons_zero, rvCells, Nat.zero_mul, Nat.zero_add, List.getElem_cons_zero] at he ⊢
    rw [he, List.set_append_left _ _ (by simpa [rvC] using ho)]
  | p :: r, j + 1, hj, o, ho, r', v, he => by
    have h := rvCells_set r j (by simpa using hj) o ho r' v (by simpa using he)
    simp only [List.set_cons_succ, rvCells]
    rw [h, List.set_append_right _ _ (by simp [rvC]; omega), show (j + 1) * 7 + o - (rvC p).length = j * 7 + o by simp [rvC]; omega]
abbrev Sl := Unit ⊕ Unit ⊕ Nat ⊕ Nat ⊕ Nat
abbrev Sl.tree : Sl := .inl ()
abbrev Sl.row : Sl := .inr (.inl ())
abbrev Sl.kid (i : Nat) : Sl := .inr (.inr (.inl i))
abbrev Sl.att (i : Nat) : Sl := .inr (.inr (.inr (.inl i)))
abbrev Sl.txt (i : Nat) : Sl := .inr (.inr (.inr (.inr i)))
theorem Sl.ind {motive : Sl -> Prop} (tree : motive .tree) (row : motive .row) (kid : ∀ i, motive (.kid i)) (att : ∀ i, motive (.att i)) (txt : ∀ i, motive (.txt i)) (s : Sl) : motive s := by
  rcases s with u | u | i | i | i
  · exact tree
  · exact row
  · exact kid i
  · exact att i
  · exact txt i
def slotB (pb g : Nat) (rs : List RV) : Sl -> Option Nat
  | .inl _ => some pb
  | .inr (.inl _) => some g
  | .inr (.inr (.inl i)) => (rs[i]?).bind (·.kv.ownBlock)
  | .inr (.inr (.inr (.inl i))) => (rs[i]?).bind (·.av.ownBlock)
  | .inr (.inr (.inr (.inr i))) => (rs[i]?).bind (·.tv.ownBlock)
def Apart (sl : Sl -> Option Nat) : Prop := ∀ s t k, sl s = some k -> sl t = some k -> s = t
theorem Apart.upd {sl sl' : Sl -> Option Nat} {n : Nat} {s0 : Sl} (h : Apart sl) (hlt : ∀ s k, sl s = some k -> k < n) (hs : ∀ s, s ≠ s0 -> sl' s = sl s) (h0 : ∀ k, sl' s0 = some k -> sl s0 = some k \/ n <= k) : Apart sl' := by
  have aux : ∀ t k, t ≠ s0 -> sl' s0 = some k -> sl' t = some k -> False := fun t k ht e1 e2 => by
    rw [hs t ht] at e2
    rcases h0 k e1 with e3 | e3
    · exact ht (h t s0 k e2 e3)
    · have := hlt t k e2
      omega
  intro s t k e1 e2
  by_cases a : s = s0
  · by_cases b : t = s0
    · rw [a, b]
    · subst a
      exact (aux t k b e1 e2).elim
  · by_cases b : t = s0
    · subst b
      exact (aux s k a e2 e1).elim
    · rw [hs s a] at e1
      rw [hs t b] at e2
      exact h s t k e1 e2
structure PV (A : Nat -> Prop) (w : World) (pb g cap : Nat) (rs : List RV) : Prop where
  tree : w.cell? ⟨pb, 0, none⟩ = some (.slice (some ⟨g, 0, none⟩) rs.length cap)
  treeF : w.frozen? ⟨pb, 0, none⟩ = false
  row : w.ownsRow 0 89 7 (.slice (some ⟨g, 0, none⟩) rs.length cap) rs.length (rvCells rs)
  kid : ∀ i (h : i < rs.length), w.ownsRow 0 3 1 rs[i].kv rs[i].rn.kids.length (intCells rs[i].rn.kids)
  att : ∀ i (h : i < rs.length), IsA w rs[i].av rs[i].rn.nd.attrs
  attL : ∀ i (h : i < rs.length) k, rs[i].av.ownBlock = some k -> k < w.heap.size
  txt : ∀ i (h : i < rs.length), OwnB w rs[i].tv rs[i].rn.nd.text
  sep : Apart (slotB pb g rs)
  inA : ∀ s k, slotB pb g rs s = some k -> A k
theorem PV.lt {A : Nat -> Prop} {w : World} {pb g cap : Nat} {rs : List RV} (h : PV A w pb g cap rs) : ∀ s k, slotB pb g rs s = some k -> k < w.heap.size := by
  intro s k hs
  cases s using Sl.ind with
  | tree =>
    obtain rfl : pb = k := by simpa [slotB] using hs
    exact cell_lt h.tree
  | row =>
    obtain rfl : g = k := by simpa [slotB] using hs
    exact (h.row.lt g rfl).2
  | kid i =>
    by_cases hi : i < rs.length
    · simp only [slotB, List.getElem?_eq_getElem hi, Option.bind_some] at hs
      exact ((h.kid i hi).lt k hs).2
    · simp [slotB, List.getElem?_eq_none (Nat.le_of_not_lt hi)] at hs
  | att i =>
    by_cases hi : i < rs.length
    · simp only [slotB, List.getElem?_eq_getElem hi, Option.bind_some] at hs
      exact h.attL i hi k hs
    · simp [slotB, List.getElem?_eq_none (Nat.le_of_not_lt hi)] at hs
  | txt i =>
    by_cases hi : i < rs.length
    · simp only [slotB, List.getElem?_eq_getElem hi, Option.bind_some] at hs
      exact (h.txt i hi).lt k hs
    · simp [slotB, List.getElem?_eq_none (Nat.le_of_not_lt hi)] at hs
theorem slot_kid (pb g : Nat) (rs : List RV) (i : Nat) (h : i < rs.length) : slotB pb g rs (.kid i) = rs[i].kv.ownBlock := by simp [slotB, List.getElem?_eq_getElem h]
theorem slot_att (pb g : Nat) (rs : List RV) (i : Nat) (h : i < rs.length) : slotB pb g rs (.att i) = rs[i].av.ownBlock := by simp [slotB, List.getElem?_eq_getElem h]
theorem slot_txt (pb g : Nat) (rs : List RV) (i : Nat) (h : i < rs.length) : slotB pb g rs (.txt i) = rs[i].tv.ownBlock := by simp [slotB, List.getElem?_eq_getElem h]
theorem PV.keep {A : Nat -> Prop} {w W : World} {pb g cap : Nat} {rs : List RV} (h : PV A w pb g cap rs) (hz : w.heap.size <= W.heap.size) (hk : ∀ s k, slotB pb g rs s = some k -> W.heap[k]? = w.heap[k]?) : PV A W pb g cap rs where
  tree := cell_same (hk .tree pb rfl) h.tree
  treeF := by rw [World.frozen?_of_block (a := ⟨pb, 0, none⟩) (hk .tree pb rfl)]; exact h.treeF
  row := ownsRow_keep h.row fun k e => hk .row k e
  kid := fun i hi => ownsRow_keep (h.kid i hi) fun k e => hk (.kid i) k (by rw [slot_kid pb g rs i hi]; exact e)
  att := fun i hi => isA_keep (h.att i hi) fun k e => hk (.att i) k (by rw [slot_att pb g rs i hi]; exact e)
  attL := fun i hi k e => Nat.lt_of_lt_of_le (h.attL i hi k e) hz
  txt := fun i hi => (h.txt i hi).keep fun k e => hk (.txt i) k (by rw [slot_txt pb g rs i hi]; exact e)
  sep := h.sep
  inA := h.inA
theorem PV.below {A : Nat -> Prop} {w W : World} {pb g cap : Nat} {rs : List RV} (h : PV A w pb g cap rs) (hb : Below w.heap.size w W) : PV A W pb g cap rs := h.keep hb.size fun s k e => hb.block k (h.lt s k e)
theorem PV.mono {A B : Nat -> Prop} {w : World} {pb g cap : Nat} {rs : List RV} (h : PV A w pb g cap rs) (hm : ∀ k, A k -> B k) : PV B w pb g cap rs := { h with inA := fun s k e => hm k (h.inA s k e) }
theorem PV.cellAt {A : Nat -> Prop} {w : World} {pb g cap : Nat} {rs : List RV} (h : PV A w pb g cap rs) (i : Nat) (hi : i < rs.length) (o : Nat) (ho : o < 7) : w.cell? ⟨g, i * 7 + o, none⟩ = (rvC rs[i])[o]? := by
  rw [h.row.cellAt (i * 7 + o) (by omega), rvCells_get rs i hi o ho]
theorem PV.frz {A : Nat -> Prop} {w : World} {pb g cap : Nat} {rs : List RV} (h : PV A w pb g cap rs) (j : Nat) : w.frozen? ⟨g, j, none⟩ = false := h.row.frozenAt j
theorem PV.upd {A : Nat -> Prop} {w w1 : World} {pb g cap : Nat} {rs : List RV} (h : PV A w pb g cap rs) (i : Nat) (hi : i < rs.length) (s0 : Sl) (hs0 : s0 = .kid i \/ s0 = .txt i) (hz : w.heap.size <= w1.heap.size)
    (hk : ∀ s k, s ≠ s0 -> slotB pb g rs s = some k -> w1.heap[k]? = w.heap[k]?) (r' : RV) (o : Nat) (ho : o < 7) (v : Value) (hv : rvC r' = (rvC rs[i]).set o v)
    (hkid : w1.ownsRow 0 3 1 r'.kv r'.rn.kids.length (intCells r'.rn.kids)) (hav : r'.av = rs[i].av) (haa : r'.rn.nd.attrs = rs[i].rn.nd.attrs) (htxt : OwnB w1 r'.tv r'.rn.nd.text)
    (hkv : s0 ≠ .kid i -> r'.kv = rs[i].kv) (htv : s0 ≠ .txt i -> r'.tv = rs[i].tv) (hk0 : ∀ k, r'.kv.ownBlock = some k -> rs[i].kv.ownBlock = some k \/ w.heap.size <= k) (ht0 : ∀ k, r'.tv.ownBlock = some k -> rs[i].tv.ownBlock = some k \/ w.heap.size <= k) :
    PV (andNew A w.heap.size) (w1.setCell ⟨g, i * 7 + o, none⟩ v) pb g cap (rs.set i r') := by
  have hsame : ∀ s, s ≠ s0 -> slotB pb g (rs.set i r') s = slotB pb g rs s := by
    intro s hs
    have hget : ∀ j, (rs.set i r')[j]? = if i = j then some r' else rs[j]? := fun j => by
      rw [List.getElem?_set]
      by_cases e : i = j
      · subst e; simp [hi]
      · simp [e]
    cases s using Sl.ind with
    | tree => rfl
    | row => rfl
    | kid j =>
      simp only [slotB, hget]
      by_cases e : i = j
      · subst e
        rw [if_pos rfl, List.getElem?_eq_getElem hi, Option.bind_some, Option.bind_some, hkv (fun e => hs e.symm)]
      · rw [if_neg e]
    | att j =>
      simp only [slotB, hget]
      by_cases e : i = j
      · subst e
        rw [if_pos rfl, List.getElem?_eq_getElem hi, Option.bind_some, Option.bind_some, hav]
      · rw [if_neg e]
    | txt j =>
      simp only [slotB, hget]
      by_cases e : i = j
      · subst e
        rw [if_pos rfl, List.getElem?_eq_getElem hi, Option.bind_some, Option.bind_some, htv (fun e => hs e.symm)]
      · rw [if_neg e]
  have hs0' : ∀ k, slotB pb g (rs.set i r') s0 = some k -> slotB pb g rs s0 = some k \/ w.heap.size <= k := by
    intro k hk
    rcases hs0 with rfl | rfl
    · simp only [slotB, List.getElem?_set_self hi, Option.bind_some, List.getElem?_eq_getElem hi] at hk ⊢
      exact hk0 k hk
    · simp only [slotB, List.getElem?_set_self hi, Option.bind_some, List.getElem?_eq_getElem hi] at hk ⊢
      exact ht0 k hk
  have hrs : (.row : Sl) ≠ s0 := by rcases hs0 with rfl | rfl <;> intro e <;> cases e
  have hts : (.tree : Sl) ≠ s0 := by rcases hs0 with rfl | rfl <;> intro e <;> cases e
  have hpg : pb ≠ g := fun e => by have := h.sep .tree .row pb rfl (by rw [e]; rfl); cases this
  have hg1 : w1.heap[g]? = w.heap[g]? := hk .row g hrs rfl
  have hp1 : w1.heap[pb]? = w.heap[pb]? := hk .tree pb hts rfl
  have hgl : g < w.heap.size := h.lt .row g rfl
  have hrow1 : w1.ownsRow 0 89 7 (.slice (some ⟨g, 0, none⟩) rs.length cap) rs.length (rvCells rs) := ownsRow_keep h.row fun k e => by
    obtain rfl : g = k := by simpa [Value.ownBlock] using e
    exact hg1
  have hother : ∀ k, k ≠ g -> (w1.setCell ⟨g, i * 7 + o, none⟩ v).heap[k]? = w1.heap[k]? := fun k hne => Below.heap_setCell _ _ _ _ hne
  have sepN : Apart (slotB pb g (rs.set i r')) := h.sep.upd h.lt hsame hs0'
  have hsz : (w1.setCell ⟨g, i * 7 + o, none⟩ v).heap.size = w1.heap.size := by simp [World.setCell]
  have hngB : ∀ s k, s ≠ .row -> slotB pb g (rs.set i r') s = some k -> k ≠ g := fun s k hs hk e => hs (sepN s .row k hk (by rw [e]; rfl))
  have hblk : ∀ s k, s ≠ s0 -> s ≠ .row -> slotB pb g rs s = some k -> (w1.setCell ⟨g, i * 7 + o, none⟩ v).heap[k]? = w.heap[k]? := fun s k h1 h2 h3 => by
    rw [hother k (fun e => h2 (h.sep s .row k h3 (by rw [e]; rfl)))]
    exact hk s k h1 h3
  refine ⟨?_, ?_, ?_, fun j hj => ?_, fun j hj => ?_, fun j hj k e => ?_, fun j hj => ?_, sepN, fun s k hsk => ?_⟩
  · rw [List.length_set]
    exact cell_same (hother pb hpg) (cell_same hp1 h.tree)
  · rw [World.frozen?_of_block (a := ⟨pb, 0, none⟩) (hother pb hpg), World.frozen?_of_block (a := ⟨pb, 0, none⟩) hp1]
    exact h.treeF
  · rw [List.length_set, rvCells_set rs i hi o ho r' v hv]
    exact (hrow1.stored (i * 7 + o) v).1
  · rw [List.length_set] at hj
    rw [List.getElem_set]
    by_cases e : i = j
    · subst e
      simp only [if_true]
      exact ownsRow_keep hkid fun k e => hother k (hngB (.kid i) k (by simp) (by simp only [slotB, List.getElem?_set_self hi, Option.bind_some]; exact e))
    · simp only [e, if_false]
      exact ownsRow_keep (h.kid j hj) fun k e2 => hblk (.kid j) k (by rcases hs0 with rfl | rfl <;> intro e3 <;> first | (cases e3; exact e rfl) | cases e3) (by simp) (by rw [slot_kid pb g rs j hj]; exact e2)
  · rw [List.length_set] at hj
    have hA := isA_keep (W := w1.setCell ⟨g, i * 7 + o, none⟩ v) (h.att j hj) fun k e2 => hblk (.att j) k (by rcases hs0 with rfl | rfl <;> intro e3 <;> cases e3) (by simp) (by rw [slot_att pb g rs j hj]; exact e2)
    rw [List.getElem_set]
    by_cases e : i = j
    · subst e
      simp only [if_true]
      rw [hav, haa]
      exact hA
    · simp only [e, if_false]
      exact hA
  · rw [List.length_set] at hj
    rw [hsz]
    refine Nat.lt_of_lt_of_le (h.attL j hj k ?_) hz
    rw [List.getElem_set] at e
    by_cases e1 : i = j
    · subst e1
      simp only [if_true] at e
      rw [hav] at e
      exact e
    · simp only [e1, if_false] at e
      exact e
  · rw [List.length_set] at hj
    rw [List.getElem_set]
    by_cases e : i = j
    · subst e
      simp only [if_true]
      exact htxt.keep fun k e => hother k (hngB (.txt i) k (by simp) (by simp only [slotB, List.getElem?_set_self hi, Option.bind_some]; exact e))
    · simp only [e, if_false]
      exact (h.txt j hj).keep fun k e2 => hblk (.txt j) k (by rcases hs0 with rfl | rfl <;> intro e3 <;> first | (cases e3; exact e rfl) | cases e3) (by simp) (by rw [slot_txt pb g rs j hj]; exact e2)
  · by_cases e : s = s0
    · subst e
      rcases hs0' k hsk with h1 | h1
      · exact .inl (h.inA s k h1)
      · exact .inr h1
    · rw [hsame s e] at hsk
      exact .inl (h.inA s k hsk)
end Go.Proofs.YtfohijnkeefcfaaGreatDoor.S5
