/- Nodes with all that is within them, over lists, and as they lie in memory. No function of the program in it. -/
import Derived.Test.YthopnliaikkhbaaGreatDoorS5Bl8
set_option linter.unusedVariables false
set_option linter.unusedSimpArgs false
set_option maxRecDepth 4000
namespace Go.Proofs.YthopnliaikkhbaaGreatDoor.S5
open Go.RowKit

/-! Values: nodes with all that is within them, by how deep they may go. -/
def NT : Nat → Type
  | 0 => { d : ND // False }
  | k + 1 => ND × List (NT k)
def NT.mk {k : Nat} (d : ND) (ks : List (NT k)) : NT (k + 1) := Prod.mk d ks
def NT.nd {k : Nat} (t : NT (k + 1)) : ND := Prod.fst (α := ND) (β := List (NT k)) t
def NT.kids {k : Nat} (t : NT (k + 1)) : List (NT k) := Prod.snd (α := ND) (β := List (NT k)) t
theorem NT.none {G : Prop} (t : NT 0) : G := (Subtype.property (p := fun d : ND => False) t).elim
theorem NT.form {k : Nat} (t : NT (k + 1)) : t = .mk t.nd t.kids := rfl
def countT : {k : Nat} → NT k → Nat
  | 0, _ => 0
  | k + 1, t => 1 + (t.kids.map fun x => countT x).sum
def countTs {k : Nat} (l : List (NT k)) : Nat := (l.map fun x => countT x).sum
theorem countT_mk {k : Nat} (d : ND) (l : List (NT k)) : countT (.mk d l) = 1 + countTs l := rfl
/-- The same node, with room for one step more. -/
def NT.lift : {k : Nat} → NT k → NT (k + 1)
  | 0, t => .mk t.1 []
  | k + 1, t => .mk t.nd (t.kids.map fun x => NT.lift x)
theorem lift_mk {k : Nat} (d : ND) (l : List (NT k)) : NT.lift (.mk d l) = .mk d (l.map NT.lift) := rfl
def valueK : (k : Nat) → TR → Nat → NT (k + 1)
  | 0, T, n => .mk (nodeAt T n) []
  | k + 1, T, n => .mk (nodeAt T n) ((kidsAt T n).map (valueK k T))
theorem countTs_map {k : Nat} (f : Nat → NT k) (l : List Nat) : countTs (l.map f) = sumL l (fun x => countT (f x)) := by
  unfold countTs sumL
  rw [List.map_map]
  rfl
theorem count_value {T : TR} (h : WF T) {r : Nat → Nat} (hr : ∀ i k, k ∈ kidsAt T i → r i < r k) (hb : ∀ i, i < T.length → r i < T.length) : ∀ (k n : Nat), n < T.length → T.length ≤ r n + k + 1 → countT (valueK k T n) = sizeW T n
  | 0, n, hn, hk => by
    have h0 : kidsAt T n = [] := by
      cases hl : kidsAt T n with
      | nil => rfl
      | cons x s =>
        have hx : x ∈ kidsAt T n := by rw [hl]; simp
        have := hr n x hx
        have := hb x (h.inb n x hx).2
        omega
    rw [size_step h hn, h0]
    rfl
  | k + 1, n, hn, hk => by
    rw [size_step h hn]
    show 1 + countTs ((kidsAt T n).map (valueK k T)) = _
    rw [countTs_map]
    congr 1
    exact sumL_congr fun x hx => count_value h hr hb k x (h.inb n x hx).2 (by have := hr n x hx; omega)
def valueL (T : TR) (n : Nat) : NT (T.length + 1) := valueK T.length T n
theorem WF.count {T : TR} (h : WF T) {n : Nat} (hn : n < T.length) : countT (valueL T n) = sizeW T n := by
  obtain ⟨r, hr, hb⟩ := h.ranked
  exact count_value h hr hb _ n hn (by omega)
/-- One step more tells nothing more. -/
theorem value_more {T : TR} (h : WF T) {r : Nat → Nat} (hr : ∀ i k, k ∈ kidsAt T i → r i < r k) (hb : ∀ i, i < T.length → r i < T.length) : ∀ (k n : Nat), n < T.length → T.length ≤ r n + k + 1 → valueK (k + 1) T n = (valueK k T n).lift
  | 0, n, hn, hk => by
    have h0 : kidsAt T n = [] := by
      cases hl : kidsAt T n with
      | nil => rfl
      | cons x s =>
        have hx : x ∈ kidsAt T n := by rw [hl]; simp
        have := hr n x hx
        have := hb x (h.inb n x hx).2
        omega
    show NT.mk (nodeAt T n) ((kidsAt T n).map (valueK 0 T)) = NT.mk (nodeAt T n) []
    rw [h0]
    rfl
  | k + 1, n, hn, hk => by
    show NT.mk (nodeAt T n) ((kidsAt T n).map (valueK (k + 1) T)) = NT.mk (nodeAt T n) (((kidsAt T n).map (valueK k T)).map NT.lift)
    rw [List.map_map]
    congr 1
    exact List.map_congr_left fun x hx => value_more h hr hb k x (h.inb n x hx).2 (by have := hr n x hx; omega)
theorem WF.value_eq {T : TR} (h : WF T) {n : Nat} (hn : n < T.length) : (valueL T n).lift = .mk (nodeAt T n) ((kidsAt T n).map (valueL T)) := by
  obtain ⟨r, hr, hb⟩ := h.ranked
  exact (value_more h hr hb T.length n hn (by omega)).symm
/-! As they lie in memory. -/
def nodeC (d : ND) (av kv : Value) : List Value := [.int .i64 d.kind, .int .i64 d.space, .string ⟨d.name.toArray⟩, av, .string ⟨d.text.toArray⟩, kv]
/-- A row of what P tells of, six cells each. -/
def RowG {α : Type} (P : α → List Value → Prop) (w : World) (b : Nat) : Nat → List α → Prop
  | _, [] => True
  | o, k :: r => (∃ vs : List Value, (∀ i, i < 6 → w.cell? ⟨b, o + i, none⟩ = vs[i]?) ∧ P k vs) ∧ RowG P w b (o + 6) r
theorem RowG.keep {α β : Type} {P : α → List Value → Prop} {Q : β → List Value → Prop} {w W : World} {b : Nat} (f : α → β) (hc : W.heap[b]? = w.heap[b]?) (hf : ∀ x vs, P x vs → Q (f x) vs) : ∀ (o : Nat) (ks : List α), RowG P w b o ks → RowG Q W b o (ks.map f)
  | _, [], _ => trivial
  | o, k :: r, h => by
    obtain ⟨⟨vs, h1, h2⟩, h3⟩ := h
    exact ⟨⟨vs, fun i hi => by rw [World.cell?_of_block (a := ⟨b, o + i, none⟩) hc]; exact h1 i hi, hf k vs h2⟩, RowG.keep f hc hf (o + 6) r h3⟩
theorem RowG.unmap {α β : Type} {P : α → List Value → Prop} {Q : β → List Value → Prop} {w : World} {b : Nat} (f : α → β) (hf : ∀ x vs, Q (f x) vs → P x vs) : ∀ (o : Nat) (ks : List α), RowG Q w b o (ks.map f) → RowG P w b o ks
  | _, [], _ => trivial
  | o, k :: r, h => by
    obtain ⟨⟨vs, h1, h2⟩, h3⟩ := h
    exact ⟨⟨vs, h1, hf k vs h2⟩, RowG.unmap f hf (o + 6) r h3⟩
def IsN (B : Nat → Prop) (w : World) : {k : Nat} → NT k → List Value → Prop
  | 0, _, _ => False
  | k + 1, t, vs => ∃ av kv, vs = nodeC t.nd av kv ∧ IsAB B w av t.nd.attrs ∧ (((∃ a c, kv = .slice a 0 c) ∧ t.kids = []) ∨ ∃ b o cap, kv = .slice (some ⟨b, o, none⟩) t.kids.length cap ∧ t.kids.length ≤ cap ∧ (t.kids = [] ∨ B b) ∧ RowG (fun x us => IsN B w x us) w b o t.kids)
def IsNs (B : Nat → Prop) (w : World) (b : Nat) {k : Nat} (o : Nat) (ks : List (NT k)) : Prop := RowG (fun x us => IsN B w x us) w b o ks
def IsK (B : Nat → Prop) (w : World) {k : Nat} (ks : List (NT k)) (kv : Value) : Prop := ((∃ a c, kv = .slice a 0 c) ∧ ks = []) ∨ ∃ b o cap, kv = .slice (some ⟨b, o, none⟩) ks.length cap ∧ ks.length ≤ cap ∧ (ks = [] ∨ B b) ∧ IsNs B w b o ks
theorem isN_iff (B : Nat → Prop) (w : World) {k : Nat} (d : ND) (ks : List (NT k)) (vs : List Value) : IsN B w (.mk d ks) vs ↔ ∃ av kv, vs = nodeC d av kv ∧ IsAB B w av d.attrs ∧ IsK B w ks kv := by
  exact Iff.rfl
theorem isN_len {B : Nat → Prop} {w : World} : ∀ {k : Nat} {t : NT k} {vs : List Value}, IsN B w t vs → vs.length = 6
  | 0, t, _, _ => t.none
  | k + 1, t, vs, h => by
    obtain ⟨av, kv, rfl, _⟩ := h
    rfl
theorem isK_form {B : Nat → Prop} {w : World} {k : Nat} {ks : List (NT k)} {kv : Value} (h : IsK B w ks kv) : ∃ a c, kv = .slice a ks.length c := by
  rcases h with ⟨⟨a, c, rfl⟩, rfl⟩ | ⟨b, o, cap, rfl, _⟩
  · exact ⟨_, _, rfl⟩
  · exact ⟨_, _, rfl⟩
theorem IsN.keep {B C : Nat → Prop} {w W : World} (hk : ∀ k, B k → W.heap[k]? = w.heap[k]?) (hm : ∀ k, B k → C k) : ∀ {k : Nat} (t : NT k) (vs : List Value), IsN B w t vs → IsN C W t vs
  | 0, t, _, _ => t.none
  | k + 1, t, vs, h => by
    obtain ⟨av, kv, h1, h2, h3⟩ := h
    refine ⟨av, kv, h1, (h2.keep hk).mono hm, ?_⟩
    rcases h3 with h3 | ⟨b, o, cap, e1, e2, e3, e4⟩
    · exact .inl h3
    · rcases e3 with e3 | e3
      · refine .inr ⟨b, o, cap, e1, e2, .inl e3, ?_⟩
        rw [e3]
        trivial
      · refine .inr ⟨b, o, cap, e1, e2, .inr (hm b e3), ?_⟩
        have := RowG.keep (Q := fun x us => IsN C W x us) id (hk b e3) (fun x us hx => IsN.keep hk hm x us hx) o t.kids e4
        rwa [List.map_id] at this
theorem IsNs.keep {B C : Nat → Prop} {w W : World} (hk : ∀ k, B k → W.heap[k]? = w.heap[k]?) (hm : ∀ k, B k → C k) (b : Nat) (hb : B b) {k : Nat} (o : Nat) (ks : List (NT k)) (h : IsNs B w b o ks) : IsNs C W b o ks := by
  have := RowG.keep (Q := fun x us => IsN C W x us) id (hk b hb) (fun x us hx => IsN.keep hk hm x us hx) o ks h
  rwa [List.map_id] at this
/-- Room for one step more changes nothing. -/
theorem IsN.lift {B : Nat → Prop} {w : World} : ∀ {k : Nat} (t : NT k) (vs : List Value), IsN B w t.lift vs → IsN B w t vs
  | 0, t, _, _ => t.none
  | k + 1, t, vs, h => by
    obtain ⟨av, kv, h1, h2, h3⟩ := h
    refine ⟨av, kv, h1, h2, ?_⟩
    have hl : t.lift.kids.length = t.kids.length := List.length_map _
    have he : t.lift.kids = [] → t.kids = [] := fun h0 => List.eq_nil_of_length_eq_zero (by rw [← hl, h0]; rfl)
    rcases h3 with ⟨h3, h4⟩ | ⟨b, o, cap, e1, e2, e3, e4⟩
    · exact .inl ⟨h3, he h4⟩
    · rw [hl] at e1 e2
      refine .inr ⟨b, o, cap, e1, e2, ?_, RowG.unmap NT.lift (fun x us hx => IsN.lift x us hx) o t.kids e4⟩
      rcases e3 with e3 | e3
      · exact .inl (he e3)
      · exact .inr e3
theorem IsN.on {B : Nat → Prop} {w W : World} {k : Nat} {t : NT k} {vs : List Value} (h : IsN B w t vs) (hk : ∀ k, B k → W.heap[k]? = w.heap[k]?) : IsN B W t vs := IsN.keep hk (fun _ h => h) t vs h
theorem IsN.mono {B C : Nat → Prop} {w : World} {k : Nat} {t : NT k} {vs : List Value} (h : IsN B w t vs) (hm : ∀ k, B k → C k) : IsN C w t vs := IsN.keep (fun _ _ => rfl) hm t vs h
theorem IsNs.get {B : Nat → Prop} {w : World} {b : Nat} {k : Nat} : ∀ (o : Nat) (ks : List (NT k)), IsNs B w b o ks → ∀ j (hj : j < ks.length), ∃ vs : List Value, (∀ i, i < 6 → w.cell? ⟨b, o + j * 6 + i, none⟩ = vs[i]?) ∧ IsN B w ks[j] vs
  | o, x :: r, h, 0, _ => by
    obtain ⟨⟨vs, h1, h2⟩, _⟩ := h
    exact ⟨vs, fun i hi => by rw [show o + 0 * 6 + i = o + i by omega]; exact h1 i hi, h2⟩
  | o, x :: r, h, j + 1, hj => by
    obtain ⟨vs, h1, h2⟩ := IsNs.get (o + 6) r h.2 j (by simpa using hj)
    exact ⟨vs, fun i hi => by rw [show o + (j + 1) * 6 + i = o + 6 + j * 6 + i by omega]; exact h1 i hi, h2⟩
theorem IsNs.of {B : Nat → Prop} {w : World} {b : Nat} {k : Nat} : ∀ (o : Nat) (ks : List (NT k)), (∀ j (hj : j < ks.length), ∃ vs : List Value, (∀ i, i < 6 → w.cell? ⟨b, o + j * 6 + i, none⟩ = vs[i]?) ∧ IsN B w ks[j] vs) → IsNs B w b o ks
  | o, [], _ => trivial
  | o, x :: r, h => by
    refine ⟨?_, IsNs.of (o + 6) r fun j hj => ?_⟩
    · obtain ⟨vs, h1, h2⟩ := h 0 (by simp)
      exact ⟨vs, fun i hi => by have := h1 i hi; rw [show o + 0 * 6 + i = o + i by omega] at this; exact this, h2⟩
    · obtain ⟨vs, h1, h2⟩ := h (j + 1) (by simpa using hj)
      exact ⟨vs, fun i hi => by have := h1 i hi; rw [show o + (j + 1) * 6 + i = o + 6 + j * 6 + i by omega] at this; exact this, h2⟩
/-- A row of nodes that is being made. -/
structure RowN (B : Nat → Prop) (n0 : Nat) (w : World) (kv : Value) {k : Nat} (ts : List (NT k)) : Prop where
  ex : ∃ cs : List (List Value), cs.length = ts.length ∧ w.ownsRow n0 41 6 kv ts.length cs.flatten ∧ ∀ j (h1 : j < cs.length) (h2 : j < ts.length), IsN B w ts[j] cs[j]
theorem flatten_get6 : ∀ (cs : List (List Value)), (∀ c ∈ cs, c.length = 6) → ∀ j (hj : j < cs.length) i, i < 6 → cs.flatten[j * 6 + i]? = cs[j][i]?
  | c :: r, h, 0, _, i, hi => by
    rw [List.flatten_cons, Nat.zero_mul, Nat.zero_add, List.getElem?_append_left (by rw [h c (by simp)]; exact hi)]
    rfl
  | c :: r, h, j + 1, hj, i, hi => by
    have ih := flatten_get6 r (fun x hx => h x (by simp [hx])) j (by simpa using hj) i hi
    rw [List.flatten_cons, List.getElem?_append_right (by rw [h c (by simp)]; omega), h c (by simp), show (j + 1) * 6 + i - 6 = j * 6 + i by omega]
    exact ih
theorem RowN.isK {B : Nat → Prop} {n0 : Nat} {w : World} {kv : Value} {k : Nat} {ts : List (NT k)} (h : RowN B n0 w kv ts) (hB : ∀ k, n0 ≤ k → B k) : IsK B w ts kv := by
  obtain ⟨cs, h1, h2, h3⟩ := h.ex
  have hl : ∀ c ∈ cs, c.length = 6 := fun c hc => by
    obtain ⟨j, hj, rfl⟩ := List.mem_iff_getElem.1 hc
    exact isN_len (h3 j hj (by omega))
  rcases h2.2 with ⟨e1, e2⟩ | ⟨g, cap, cur, rfl, hbg, hg, hnc, _⟩
  · exact .inl ⟨⟨_, _, e1⟩, List.eq_nil_of_length_eq_zero e2⟩
  · refine .inr ⟨g, 0, cap, rfl, hnc, .inr (hB g hbg), IsNs.of 0 ts fun j hj => ⟨cs[j], fun i hi => ?_, h3 j (by omega) hj⟩⟩
    rw [Nat.zero_add, h2.cellAt (j * 6 + i) (by omega), flatten_get6 cs hl j (by omega) i hi]
/-- Six stores into one block. -/
def set6 (w : World) (q : Nat) (v0 v1 v2 v3 v4 v5 : Value) : World := (((((w.setCell ⟨q, 0, none⟩ v0).setCell ⟨q, 1, none⟩ v1).setCell ⟨q, 2, none⟩ v2).setCell ⟨q, 3, none⟩ v3).setCell ⟨q, 4, none⟩ v4).setCell ⟨q, 5, none⟩ v5
theorem set6_below {n : Nat} {w0 w : World} (h : Below n w0 w) {q : Nat} (hq : n ≤ q) (v0 v1 v2 v3 v4 v5 : Value) : Below n w0 (set6 w q v0 v1 v2 v3 v4 v5) := (((((h.setCell (p := ⟨q, 0, none⟩) hq v0).setCell (p := ⟨q, 1, none⟩) hq v1).setCell (p := ⟨q, 2, none⟩) hq v2).setCell (p := ⟨q, 3, none⟩) hq v3).setCell (p := ⟨q, 4, none⟩) hq v4).setCell (p := ⟨q, 5, none⟩) hq v5
theorem set6_other (w : World) (q : Nat) (v0 v1 v2 v3 v4 v5 : Value) (k : Nat) (h : k ≠ q) : (set6 w q v0 v1 v2 v3 v4 v5).heap[k]? = w.heap[k]? := by
  unfold set6
  rw [Below.heap_setCell _ _ _ _ h, Below.heap_setCell _ _ _ _ h, Below.heap_setCell _ _ _ _ h, Below.heap_setCell _ _ _ _ h, Below.heap_setCell _ _ _ _ h, Below.heap_setCell _ _ _ _ h]
theorem set6_size (w : World) (q : Nat) (v0 v1 v2 v3 v4 v5 : Value) : (set6 w q v0 v1 v2 v3 v4 v5).heap.size = w.heap.size := by
  unfold set6
  simp [World.setCell]
end Go.Proofs.YthopnliaikkhbaaGreatDoor.S5
