/- A policy that is being put together: its box and its lists, each in a block of its own; what a store and an append change. -/
import Derived.Test.YthopnliaikkhbaaGreatDoorPc11
import Derived.Maps.AppendAt
import Derived.Lib.SmallJoins
set_option linter.unusedVariables false
set_option linter.unusedSimpArgs false
set_option maxRecDepth 4000
namespace Go.Proofs.YthopnliaikkhbaaGreatDoor
open Go.RowKit

def ruleCells : List RV → List Value
  | [] => []
  | r :: l => .string r.nm :: r.av :: ruleCells l
theorem ruleCells_len : ∀ l : List RV, (ruleCells l).length = l.length * 2
  | [] => rfl
  | r :: l => by simp only [ruleCells, List.length_cons, ruleCells_len l]; omega
theorem ruleCells_app : ∀ a b : List RV, ruleCells (a ++ b) = ruleCells a ++ ruleCells b
  | [], b => rfl
  | r :: a, b => by simp only [List.cons_append, ruleCells, ruleCells_app a b]
theorem ruleCells_get : ∀ (l : List RV) (j : Nat) (hj : j < l.length), (ruleCells l)[j * 2]? = some (.string l[j].nm) ∧ (ruleCells l)[j * 2 + 1]? = some l[j].av
  | r :: l, 0, _ => ⟨rfl, rfl⟩
  | r :: l, j + 1, hj => by
    have h := ruleCells_get l j (by simpa using hj)
    rw [show (j + 1) * 2 = j * 2 + 1 + 1 by omega, show j * 2 + 1 + 1 + 1 = (j * 2 + 1) + 1 + 1 by omega]
    simp only [ruleCells, List.getElem?_cons_succ, List.getElem_cons_succ]
    exact h
def slotV (q : PV) : Nat → Value
  | 0 => q.rv
  | 1 => q.lv
  | 2 => q.sv
  | 3 => q.dv
  | k + 4 => match q.rs[k]? with
    | some r => r.av
    | none => .slice none 0 0
/-- No two lie in one block, and none in the box. -/
structure Apart (S : Nat → Value) (pb : Nat) : Prop where
  box : ∀ i, (S i).ownBlock ≠ some pb
  two : ∀ i j k, i ≠ j → (S i).ownBlock = some k → (S j).ownBlock ≠ some k
def updS (S : Nat → Value) (i0 : Nat) (v : Value) : Nat → Value := fun i => if i = i0 then v else S i
theorem Apart.upd {S : Nat → Value} {pb N : Nat} (h : Apart S pb) (hN : ∀ i k, (S i).ownBlock = some k → k < N) (hpb : pb < N) (i0 : Nat) (v : Value) (hv : v.ownBlock = (S i0).ownBlock ∨ ∀ k, v.ownBlock = some k → N ≤ k) : Apart (updS S i0 v) pb := by
  have e1 : ∀ i, i ≠ i0 → updS S i0 v i = S i := fun i hi => if_neg hi
  have e2 : updS S i0 v i0 = v := if_pos rfl
  have key : ∀ j k, j ≠ i0 → (S j).ownBlock = some k → v.ownBlock ≠ some k := by
    intro j k hj hk hv2
    rcases hv with hv | hv
    · rw [hv] at hv2
      exact h.two j i0 k hj hk hv2
    · have a := hv k hv2
      have b := hN j k hk
      omega
  refine ⟨fun i => ?_, fun i j k hij hi => ?_⟩
  · by_cases hi : i = i0
    · subst hi
      rw [e2]
      intro hv2
      rcases hv with hv | hv
      · rw [hv] at hv2
        exact h.box i hv2
      · have := hv pb hv2
        omega
    · rw [e1 i hi]
      exact h.box i
  · by_cases h1 : i = i0
    · subst h1
      rw [e2] at hi
      rw [e1 j (Ne.symm hij)]
      intro hj
      exact key j k (Ne.symm hij) hj hi
    · rw [e1 i h1] at hi
      by_cases h2 : j = i0
      · subst h2
        rw [e2]
        exact key i k h1 hi
      · rw [e1 j h2]
        exact h.two i j k hij hi
structure OwnP (B pb : Nat) (w : World) (q : PV) : Prop where
  box : w.heap[pb]? = some (.cells (poC q) 26 (0, 0))
  l : w.ownsRow B 9 1 q.lv q.li.length (textsV q.li)
  s : w.ownsRow B 9 1 q.sv q.sc.length (textsV q.sc)
  d : w.ownsRow B 9 1 q.dv q.dr.length (textsV q.dr)
  r : w.ownsRow B 53 2 q.rv q.rs.length (ruleCells q.rs)
  a : ∀ x ∈ q.rs, w.ownsRow B 9 1 x.av x.at_.length (textsV x.at_)
  ap : Apart (slotV q) pb
theorem owns_keep {w W : World} {B n : Nat} {e : TypeId} {z : Nat} {v : Value} {xs : List Value} (h : w.ownsRow B e z v n xs) (hk : ∀ k, v.ownBlock = some k → W.heap[k]? = w.heap[k]?) : W.ownsRow B e z v n xs := by
  refine ⟨h.1, ?_⟩
  rcases h.2 with h2 | ⟨g, cap, cur, rfl, h2, h3, h4⟩
  · exact .inl h2
  · exact .inr ⟨g, cap, cur, rfl, h2, by rw [hk g rfl]; exact h3, h4⟩
theorem slot_attr (q : PV) (x : RV) (hx : x ∈ q.rs) : ∃ i, slotV q (i + 4) = x.av := by
  obtain ⟨i, hi, rfl⟩ := List.mem_iff_getElem.1 hx
  exact ⟨i, by simp only [slotV, List.getElem?_eq_getElem hi]⟩
theorem OwnP.lt {B pb : Nat} {w : World} {q : PV} (h : OwnP B pb w q) : ∀ i k, (slotV q i).ownBlock = some k → B ≤ k ∧ k < w.heap.size := by
  intro i k hk
  match i, hk with
  | 0, hk => exact h.r.lt k hk
  | 1, hk => exact h.l.lt k hk
  | 2, hk => exact h.s.lt k hk
  | 3, hk => exact h.d.lt k hk
  | i + 4, hk =>
    simp only [slotV] at hk
    cases hr : q.rs[i]? with
    | none => rw [hr] at hk; cases hk
    | some r =>
      rw [hr] at hk
      exact (h.a r (List.mem_of_getElem? hr)).lt k hk
theorem OwnP.pb_lt {B pb : Nat} {w : World} {q : PV} (h : OwnP B pb w q) : pb < w.heap.size := (Array.getElem?_eq_some_iff.1 h.box).1
theorem OwnP.below {B pb : Nat} {w W : World} {q : PV} (h : OwnP B pb w q) (hb : Below w.heap.size w W) : OwnP B pb W q :=
  ⟨by rw [hb.block pb h.pb_lt]; exact h.box, owns_below h.l hb, owns_below h.s hb, owns_below h.d hb, owns_below h.r hb, fun x hx => owns_below (h.a x hx) hb, h.ap⟩
theorem OwnP.cells {B pb : Nat} {w : World} {q : PV} (h : OwnP B pb w q) : w.cell? ⟨pb, 0, none⟩ = some q.rv ∧ w.cell? ⟨pb, 1, none⟩ = some q.lv ∧ w.cell? ⟨pb, 2, none⟩ = some q.sv ∧ w.cell? ⟨pb, 3, none⟩ = some q.dv ∧ w.cell? ⟨pb, 4, none⟩ = some (.int .i64 q.de) := by
  have hb := h.box
  refine ⟨?_, ?_, ?_, ?_, ?_⟩ <;> simp [World.cell?, hb]
theorem OwnP.free {B pb : Nat} {w : World} {q : PV} (h : OwnP B pb w q) : ∀ j, w.frozen? ⟨pb, j, none⟩ = false := by
  intro j
  simp [World.frozen?, h.box]
/-- What is told of it where it is only read. -/
theorem OwnP.isPo {B pb : Nat} {w : World} {q : PV} (h : OwnP B pb w q) : IsPo w q ∧ (∀ a n c, q.lv = .slice a n c → n ≤ c) ∧ (∀ a n c, q.sv = .slice a n c → n ≤ c) ∧ (∀ a n c, q.dv = .slice a n c → n ≤ c) ∧ ∀ r ∈ q.rs, ∀ a n c, r.av = .slice a n c → n ≤ c := by
  refine ⟨⟨⟨?_, fun r hr => (owns_isW (h.a r hr)).1⟩, (owns_isW h.l).1, (owns_isW h.s).1, (owns_isW h.d).1⟩, (owns_isW h.l).2, (owns_isW h.s).2, (owns_isW h.d).2, fun r hr => (owns_isW (h.a r hr)).2⟩
  rcases h.r.2 with ⟨e, h2⟩ | ⟨g, cap, cur, e, _⟩
  · exact .inl ⟨List.eq_nil_of_length_eq_zero h2, _, _, e⟩
  · refine .inr ⟨g, 0, cap, e, fun j hj => ?_⟩
    obtain ⟨h0, h1⟩ := ruleCells_get q.rs j hj
    have c0 := h.r.cells (by rw [e]; rfl) _ _ h0
    have c1 := h.r.cells (by rw [e]; rfl) _ _ h1
    rw [addr_add] at c0 c1
    rw [Nat.zero_add]
    exact ⟨c0, c1⟩
/-- Rows that a change of another one's block and of the box leave alone. -/
theorem OwnP.row {B pb : Nat} {w W : World} {q : PV} (h : OwnP B pb w q) {i0 : Nat} (hk : ∀ k, k < w.heap.size → k ≠ pb → some k ≠ (slotV q i0).ownBlock → W.heap[k]? = w.heap[k]?) (i : Nat) (hi : i ≠ i0) {e : TypeId} {z n : Nat} {xs : List Value} (ho : w.ownsRow B e z (slotV q i) n xs) : W.ownsRow B e z (slotV q i) n xs :=
  owns_keep ho fun k hkk => hk k (ho.lt k hkk).2 (fun e => h.ap.box i (by rw [hkk, e])) (fun e => h.ap.two i i0 k hi hkk e.symm)
theorem OwnP.setDe {B pb : Nat} {w : World} {q : PV} (h : OwnP B pb w q) (n : Int) : OwnP B pb (w.setCell ⟨pb, 4, none⟩ (.int .i64 n)) { q with de := n } := by
  have hk : ∀ k, k ≠ pb → (w.setCell ⟨pb, 4, none⟩ (.int .i64 n)).heap[k]? = w.heap[k]? := fun k hk => Below.heap_setCell _ _ _ _ hk
  have nb : ∀ i k, (slotV q i).ownBlock = some k → k ≠ pb := fun i k hk e => h.ap.box i (by rw [hk, e])
  refine ⟨?_, owns_keep h.l fun k e => hk k (nb 1 k e), owns_keep h.s fun k e => hk k (nb 2 k e), owns_keep h.d fun k e => hk k (nb 3 k e), owns_keep h.r fun k e => hk k (nb 0 k e), fun x hx => ?_, h.ap⟩
  · rw [Go.Joins.block_setCell h.box]
    rfl
  · obtain ⟨i, hi⟩ := slot_attr q x hx
    exact owns_keep (h.a x hx) fun k e => hk k (nb (i + 4) k (by rw [hi]; exact e))
theorem OwnP.setL {B pb : Nat} {w w1 : World} {q : PV} (h : OwnP B pb w q) (v' : Value) (l' : List Bs) (hg : w.grownBy w1 q.lv.ownBlock) (ho : w1.ownsRow B 9 1 v' l'.length (textsV l')) (hat : v'.ownBlock = q.lv.ownBlock ∨ v'.ownBlock = some w.heap.size) : OwnP B pb (w1.setCell ⟨pb, 1, none⟩ v') { q with lv := v', li := l' } := by
  have hk : ∀ k, k < w.heap.size → k ≠ pb → some k ≠ (slotV q 1).ownBlock → (w1.setCell ⟨pb, 1, none⟩ v').heap[k]? = w.heap[k]? := fun k h1 h2 h3 => (Below.heap_setCell _ _ _ _ h2).trans (hg.block k h1 h3)
  have hpb : w1.heap[pb]? = w.heap[pb]? := hg.block pb h.pb_lt (fun e => h.ap.box 1 e.symm)
  have hv : v'.ownBlock ≠ some pb := by
    rcases hat with e | e
    · rw [e]; exact h.ap.box 1
    · rw [e]
      intro e2
      have := h.pb_lt
      have := Option.some.inj e2
      omega
  refine ⟨?_, ?_, ?_, ?_, h.row hk 0 (by decide) h.r, fun x hx => ?_, ?_⟩
  · rw [Go.Joins.block_setCell (hpb.trans h.box)]
    rfl
  · exact owns_keep ho fun k e => Below.heap_setCell _ _ _ _ (fun e2 => hv (by rw [e, e2]))
  · exact h.row hk 2 (by decide) h.s
  · exact h.row hk 3 (by decide) h.d
  · obtain ⟨i, hi⟩ := slot_attr q x hx
    have := h.row hk (i + 4) (by omega) (e := 9) (z := 1) (n := x.at_.length) (xs := textsV x.at_) (by rw [hi]; exact h.a x hx)
    rw [hi] at this
    exact this
  · have e : slotV { q with lv := v', li := l' } = updS (slotV q) 1 v' := by
      funext i
      match i with
      | 0 => rfl
      | 1 => rfl
      | 2 => rfl
      | 3 => rfl
      | i + 4 => exact (if_neg (by omega)).symm
    rw [e]
    refine h.ap.upd (N := w.heap.size) (fun i k hk => (h.lt i k hk).2) h.pb_lt 1 v' ?_
    rcases hat with e | e
    · exact .inl e
    · exact .inr fun k hk => by rw [e] at hk; have := Option.some.inj hk; omega
theorem OwnP.setS {B pb : Nat} {w w1 : World} {q : PV} (h : OwnP B pb w q) (v' : Value) (l' : List Bs) (hg : w.grownBy w1 q.sv.ownBlock) (ho : w1.ownsRow B 9 1 v' l'.length (textsV l')) (hat : v'.ownBlock = q.sv.ownBlock ∨ v'.ownBlock = some w.heap.size) : OwnP B pb (w1.setCell ⟨pb, 2, none⟩ v') { q with sv := v', sc := l' } := by
  have hk : ∀ k, k < w.heap.size → k ≠ pb → some k ≠ (slotV q 2).ownBlock → (w1.setCell ⟨pb, 2, none⟩ v').heap[k]? = w.heap[k]? := fun k h1 h2 h3 => (Below.heap_setCell _ _ _ _ h2).trans (hg.block k h1 h3)
  have hpb : w1.heap[pb]? = w.heap[pb]? := hg.block pb h.pb_lt (fun e => h.ap.box 2 e.symm)
  have hv : v'.ownBlock ≠ some pb := by
    rcases hat with e | e
    · rw [e]; exact h.ap.box 2
    · rw [e]
      intro e2
      have := h.pb_lt
      have := Option.some.inj e2
      omega
  refine ⟨?_, ?_, ?_, ?_, h.row hk 0 (by decide) h.r, fun x hx => ?_, ?_⟩
  · rw [Go.Joins.block_setCell (hpb.trans h.box)]
    rfl
  · exact h.row hk 1 (by decide) h.l
  · exact owns_keep ho fun k e => Below.heap_setCell _ _ _ _ (fun e2 => hv (by rw [e, e2]))
  · exact h.row hk 3 (by decide) h.d
  · obtain ⟨i, hi⟩ := slot_attr q x hx
    have := h.row hk (i + 4) (by omega) (e := 9) (z := 1) (n := x.at_.length) (xs := textsV x.at_) (by rw [hi]; exact h.a x hx)
    rw [hi] at this
    exact this
  · have e : slotV { q with sv := v', sc := l' } = updS (slotV q) 2 v' := by
      funext i
      match i with
      | 0 => rfl
      | 1 => rfl
      | 2 => rfl
      | 3 => rfl
      | i + 4 => exact (if_neg (by omega)).symm
    rw [e]
    refine h.ap.upd (N := w.heap.size) (fun i k hk => (h.lt i k hk).2) h.pb_lt 2 v' ?_
    rcases hat with e | e
    · exact .inl e
    · exact .inr fun k hk => by rw [e] at hk; have := Option.some.inj hk; omega
theorem OwnP.setD {B pb : Nat} {w w1 : World} {q : PV} (h : OwnP B pb w q) (v' : Value) (l' : List Bs) (hg : w.grownBy w1 q.dv.ownBlock) (ho : w1.ownsRow B 9 1 v' l'.length (textsV l')) (hat : v'.ownBlock = q.dv.ownBlock ∨ v'.ownBlock = some w.heap.size) : OwnP B pb (w1.setCell ⟨pb, 3, none⟩ v') { q with dv := v', dr := l' } := by
  have hk : ∀ k, k < w.heap.size → k ≠ pb → some k ≠ (slotV q 3).ownBlock → (w1.setCell ⟨pb, 3, none⟩ v').heap[k]? = w.heap[k]? := fun k h1 h2 h3 => (Below.heap_setCell _ _ _ _ h2).trans (hg.block k h1 h3)
  have hpb : w1.heap[pb]? = w.heap[pb]? := hg.block pb h.pb_lt (fun e => h.ap.box 3 e.symm)
  have hv : v'.ownBlock ≠ some pb := by
    rcases hat with e | e
    · rw [e]; exact h.ap.box 3
    · rw [e]
      intro e2
      have := h.pb_lt
      have := Option.some.inj e2
      omega
  refine ⟨?_, ?_, ?_, ?_, h.row hk 0 (by decide) h.r, fun x hx => ?_, ?_⟩
  · rw [Go.Joins.block_setCell (hpb.trans h.box)]
    rfl
  · exact h.row hk 1 (by decide) h.l
  · exact h.row hk 2 (by decide) h.s
  · exact owns_keep ho fun k e => Below.heap_setCell _ _ _ _ (fun e2 => hv (by rw [e, e2]))
  · obtain ⟨i, hi⟩ := slot_attr q x hx
    have := h.row hk (i + 4) (by omega) (e := 9) (z := 1) (n := x.at_.length) (xs := textsV x.at_) (by rw [hi]; exact h.a x hx)
    rw [hi] at this
    exact this
  · have e : slotV { q with dv := v', dr := l' } = updS (slotV q) 3 v' := by
      funext i
      match i with
      | 0 => rfl
      | 1 => rfl
      | 2 => rfl
      | 3 => rfl
      | i + 4 => exact (if_neg (by omega)).symm
    rw [e]
    refine h.ap.upd (N := w.heap.size) (fun i k hk => (h.lt i k hk).2) h.pb_lt 3 v' ?_
    rcases hat with e | e
    · exact .inl e
    · exact .inr fun k hk => by rw [e] at hk; have := Option.some.inj hk; omega
/-- A rule more: its attributes lie in a block that is new, the row of rules in its own or a new one. -/
theorem OwnP.addR {B pb : Nat} {w w0 w1 : World} {q : PV} (h : OwnP B pb w q) (r : RV) (v' : Value) (h0 : Below w.heap.size w w0) (ha : w0.ownsRow B 9 1 r.av r.at_.length (textsV r.at_)) (hn : ∀ k, r.av.ownBlock = some k → w.heap.size ≤ k) (hg : w0.grownBy w1 q.rv.ownBlock) (ho : w1.ownsRow B 53 2 v' (q.rs.length + 1) (ruleCells (q.rs ++ [r]))) (hat : v'.ownBlock = q.rv.ownBlock ∨ v'.ownBlock = some w0.heap.size) : OwnP B pb (w1.setCell ⟨pb, 0, none⟩ v') { q with rv := v', rs := q.rs ++ [r] } := by
  have hk : ∀ k, k < w0.heap.size → k ≠ pb → some k ≠ (slotV q 0).ownBlock → (w1.setCell ⟨pb, 0, none⟩ v').heap[k]? = w0.heap[k]? := fun k h1 h2 h3 => (Below.heap_setCell _ _ _ _ h2).trans (hg.block k h1 h3)
  have g := h.below h0
  have hpb : w1.heap[pb]? = w0.heap[pb]? := hg.block pb g.pb_lt (fun e => h.ap.box 0 e.symm)
  have hsz := h0.size
  have hp := h.pb_lt
  have hv : v'.ownBlock ≠ some pb := by
    rcases hat with e | e
    · rw [e]; exact h.ap.box 0
    · rw [e]
      intro e2
      have := Option.some.inj e2
      omega
  refine ⟨?_, g.row hk 1 (by decide) g.l, g.row hk 2 (by decide) g.s, g.row hk 3 (by decide) g.d, ?_, fun x hx => ?_, ?_⟩
  · rw [Go.Joins.block_setCell (hpb.trans g.box)]
    rfl
  · have e : (q.rs ++ [r]).length = q.rs.length + 1 := by simp
    show (w1.setCell ⟨pb, 0, none⟩ v').ownsRow B _ 2 v' (q.rs ++ [r]).length _
    rw [e]
    exact owns_keep ho fun k e => Below.heap_setCell _ _ _ _ (fun e2 => hv (by rw [e, e2]))
  · rcases List.mem_append.1 hx with hx | hx
    · obtain ⟨i, hi⟩ := slot_attr q x hx
      have := g.row hk (i + 4) (by omega) (e := 9) (z := 1) (n := x.at_.length) (xs := textsV x.at_) (by rw [hi]; exact g.a x hx)
      rw [hi] at this
      exact this
    · obtain rfl := List.mem_singleton.1 hx
      refine owns_keep ha fun k e => hk k (ha.lt k e).2 (fun e2 => ?_) (fun e2 => ?_)
      · have := hn k e
        omega
      · have a := hn k e
        have b := (h.lt 0 k e2.symm).2
        omega
  · have e : slotV { q with rv := v', rs := q.rs ++ [r] } = updS (updS (slotV q) (q.rs.length + 4) r.av) 0 v' := by
      funext i
      match i with
      | 0 => rfl
      | 1 => rfl
      | 2 => rfl
      | 3 => rfl
      | i + 4 =>
        unfold updS
        rw [if_neg (show ¬ i + 4 = 0 by omega)]
        simp only [slotV]
        by_cases hi : i = q.rs.length
        · subst hi
          rw [if_pos rfl, List.getElem?_append_right (Nat.le_refl _), Nat.sub_self]
          rfl
        · rw [if_neg (show ¬ i + 4 = q.rs.length + 4 by omega)]
          by_cases h2 : i < q.rs.length
          · rw [List.getElem?_append_left h2]
          · rw [List.getElem?_eq_none (show (q.rs ++ [r]).length ≤ i by simp; omega), List.getElem?_eq_none (show q.rs.length ≤ i by omega)]
    rw [e]
    have a1 : Apart (updS (slotV q) (q.rs.length + 4) r.av) pb := h.ap.upd (N := w.heap.size) (fun i k hk => (h.lt i k hk).2) hp _ _ (.inr hn)
    refine a1.upd (N := w0.heap.size) (fun i k hk => ?_) (by omega) 0 v' ?_
    · unfold updS at hk
      split at hk
      · exact (ha.lt k hk).2
      · have := (h.lt i k hk).2
        omega
    · rcases hat with e | e
      · exact .inl (by rw [e]; rfl)
      · exact .inr fun k hk => by rw [e] at hk; have := Option.some.inj hk; omega
end Go.Proofs.YthopnliaikkhbaaGreatDoor
