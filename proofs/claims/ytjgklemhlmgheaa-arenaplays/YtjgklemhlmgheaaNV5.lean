/- Nodes with all that is within them, as they lie in memory. No function of the program in it. -/
import Derived.Test.YtjgklemhlmgheaaPJ5
set_option linter.unusedVariables false
set_option linter.unusedSimpArgs false
namespace Go.Proofs.Ytjgklemhlmgheaa
open Go.RowKit

def nodeC (d : ND) (av kv : Value) : List Value := [.int .i64 d.kind, .int .i64 d.space, .string ⟨d.name.toArray⟩, av, .string ⟨d.text.toArray⟩, kv]
mutual
def IsN (B : Nat → Prop) (w : World) : NT → List Value → Prop
  | .mk d ks, vs => ∃ av kv, vs = nodeC d av kv ∧ IsAB B w av d.attrs ∧ ((kv = .slice none 0 0 ∧ ks = []) ∨ ∃ b o cap, kv = .slice (some ⟨b, o, none⟩) ks.length cap ∧ ks.length ≤ cap ∧ (ks = [] ∨ B b) ∧ IsNs B w b o ks)
def IsNs (B : Nat → Prop) (w : World) (b : Nat) : Nat → List NT → Prop
  | _, [] => True
  | o, k :: r => (∃ vs : List Value, (∀ i, i < 6 → w.cell? ⟨b, o + i, none⟩ = vs[i]?) ∧ IsN B w k vs) ∧ IsNs B w b (o + 6) r
end
def IsK (B : Nat → Prop) (w : World) (ks : List NT) (kv : Value) : Prop := (kv = .slice none 0 0 ∧ ks = []) ∨ ∃ b o cap, kv = .slice (some ⟨b, o, none⟩) ks.length cap ∧ ks.length ≤ cap ∧ (ks = [] ∨ B b) ∧ IsNs B w b o ks
theorem isN_iff (B : Nat → Prop) (w : World) (d : ND) (ks : List NT) (vs : List Value) : IsN B w (.mk d ks) vs ↔ ∃ av kv, vs = nodeC d av kv ∧ IsAB B w av d.attrs ∧ IsK B w ks kv := by
  unfold IsN IsK
  exact Iff.rfl
theorem isN_len {B : Nat → Prop} {w : World} {t : NT} {vs : List Value} (h : IsN B w t vs) : vs.length = 6 := by
  cases t with
  | mk d ks =>
    rw [isN_iff] at h
    obtain ⟨av, kv, rfl, _⟩ := h
    rfl
theorem isK_form {B : Nat → Prop} {w : World} {ks : List NT} {kv : Value} (h : IsK B w ks kv) : ∃ a c, kv = .slice a ks.length c := by
  rcases h with ⟨rfl, rfl⟩ | ⟨b, o, cap, rfl, _⟩
  · exact ⟨_, _, rfl⟩
  · exact ⟨_, _, rfl⟩
mutual
theorem IsN.keep {B C : Nat → Prop} {w W : World} (hk : ∀ k, B k → W.heap[k]? = w.heap[k]?) (hm : ∀ k, B k → C k) : ∀ (t : NT) (vs : List Value), IsN B w t vs → IsN C W t vs
  | .mk d ks, vs, h => by
    unfold IsN at h ⊢
    obtain ⟨av, kv, h1, h2, h3⟩ := h
    refine ⟨av, kv, h1, (h2.keep hk).mono hm, ?_⟩
    rcases h3 with h3 | ⟨b, o, cap, e1, e2, e3, e4⟩
    · exact .inl h3
    · refine .inr ⟨b, o, cap, e1, e2, e3.imp id (hm b), ?_⟩
      rcases e3 with e3 | e3
      · subst e3
        unfold IsNs
        trivial
      · exact IsNs.keep hk hm b e3 o ks e4
theorem IsNs.keep {B C : Nat → Prop} {w W : World} (hk : ∀ k, B k → W.heap[k]? = w.heap[k]?) (hm : ∀ k, B k → C k) (b : Nat) (hb : B b) : ∀ (o : Nat) (ks : List NT), IsNs B w b o ks → IsNs C W b o ks
  | _, [], _ => by unfold IsNs; trivial
  | o, k :: r, h => by
    unfold IsNs at h ⊢
    obtain ⟨⟨vs, h1, h2⟩, h3⟩ := h
    exact ⟨⟨vs, fun i hi => by rw [World.cell?_of_block (a := ⟨b, o + i, none⟩) (hk b hb)]; exact h1 i hi, IsN.keep hk hm k vs h2⟩, IsNs.keep hk hm b hb (o + 6) r h3⟩
end
theorem IsN.on {B : Nat → Prop} {w W : World} {t : NT} {vs : List Value} (h : IsN B w t vs) (hk : ∀ k, B k → W.heap[k]? = w.heap[k]?) : IsN B W t vs := IsN.keep hk (fun _ h => h) t vs h
theorem IsN.mono {B C : Nat → Prop} {w : World} {t : NT} {vs : List Value} (h : IsN B w t vs) (hm : ∀ k, B k → C k) : IsN C w t vs := IsN.keep (fun _ _ => rfl) hm t vs h
theorem IsNs.get {B : Nat → Prop} {w : World} {b : Nat} : ∀ (o : Nat) (ks : List NT), IsNs B w b o ks → ∀ j (hj : j < ks.length), ∃ vs : List Value, (∀ i, i < 6 → w.cell? ⟨b, o + j * 6 + i, none⟩ = vs[i]?) ∧ IsN B w ks[j] vs
  | o, k :: r, h, 0, _ => by
    unfold IsNs at h
    obtain ⟨⟨vs, h1, h2⟩, _⟩ := h
    exact ⟨vs, fun i hi => by rw [show o + 0 * 6 + i = o + i by omega]; exact h1 i hi, h2⟩
  | o, k :: r, h, j + 1, hj => by
    unfold IsNs at h
    obtain ⟨vs, h1, h2⟩ := IsNs.get (o + 6) r h.2 j (by simpa using hj)
    exact ⟨vs, fun i hi => by rw [show o + (j + 1) * 6 + i = o + 6 + j * 6 + i by omega]; exact h1 i hi, h2⟩
theorem IsNs.of {B : Nat → Prop} {w : World} {b : Nat} : ∀ (o : Nat) (ks : List NT), (∀ j (hj : j < ks.length), ∃ vs : List Value, (∀ i, i < 6 → w.cell? ⟨b, o + j * 6 + i, none⟩ = vs[i]?) ∧ IsN B w ks[j] vs) → IsNs B w b o ks
  | o, [], _ => by unfold IsNs; trivial
  | o, k :: r, h => by
    unfold IsNs
    refine ⟨?_, IsNs.of (o + 6) r fun j hj => ?_⟩
    · obtain ⟨vs, h1, h2⟩ := h 0 (by simp)
      exact ⟨vs, fun i hi => by have := h1 i hi; rw [show o + 0 * 6 + i = o + i by omega] at this; exact this, h2⟩
    · obtain ⟨vs, h1, h2⟩ := h (j + 1) (by simpa using hj)
      exact ⟨vs, fun i hi => by have := h1 i hi; rw [show o + (j + 1) * 6 + i = o + 6 + j * 6 + i by omega] at this; exact this, h2⟩
/-- A row of nodes that is being made. -/
structure RowN (B : Nat → Prop) (n0 : Nat) (w : World) (kv : Value) (ts : List NT) : Prop where
  ex : ∃ cs : List (List Value), cs.length = ts.length ∧ w.ownsRow n0 41 6 kv ts.length cs.flatten ∧ ∀ j (h1 : j < cs.length) (h2 : j < ts.length), IsN B w ts[j] cs[j]
theorem flatten_get6 : ∀ (cs : List (List Value)), (∀ c ∈ cs, c.length = 6) → ∀ j (hj : j < cs.length) i, i < 6 → cs.flatten[j * 6 + i]? = cs[j][i]?
  | c :: r, h, 0, _, i, hi => by
    rw [List.flatten_cons, Nat.zero_mul, Nat.zero_add, List.getElem?_append_left (by rw [h c (by simp)]; exact hi)]
    rfl
  | c :: r, h, j + 1, hj, i, hi => by
    have ih := flatten_get6 r (fun x hx => h x (by simp [hx])) j (by simpa using hj) i hi
    rw [List.flatten_cons, List.getElem?_append_right (by rw [h c (by simp)]; omega), h c (by simp), show (j + 1) * 6 + i - 6 = j * 6 + i by omega]
    exact ih
theorem RowN.isK {B : Nat → Prop} {n0 : Nat} {w : World} {kv : Value} {ts : List NT} (h : RowN B n0 w kv ts) (hB : ∀ k, n0 ≤ k → B k) : IsK B w ts kv := by
  obtain ⟨cs, h1, h2, h3⟩ := h.ex
  have hl : ∀ c ∈ cs, c.length = 6 := fun c hc => by
    obtain ⟨j, hj, rfl⟩ := List.mem_iff_getElem.1 hc
    exact isN_len (h3 j hj (by omega))
  rcases h2.2 with ⟨e1, e2⟩ | ⟨g, cap, cur, rfl, hbg, hg, hnc, _⟩
  · exact .inl ⟨e1, List.eq_nil_of_length_eq_zero e2⟩
  · refine .inr ⟨g, 0, cap, rfl, hnc, .inr (hB g hbg), IsNs.of 0 ts fun j hj => ⟨cs[j], fun i hi => ?_, h3 j (by omega) hj⟩⟩
    rw [Nat.zero_add, h2.cellAt (j * 6 + i) (by omega), flatten_get6 cs hl j (by omega) i hi]
/-- Six stores into one block. -/
def set6 (w : World) (q : Nat) (v0 v1 v2 v3 v4 v5 : Value) : World := (((((w.setCell ⟨q, 0, none⟩ v0).setCell ⟨q, 1, none⟩ v1).setCell ⟨q, 2, none⟩ v2).setCell ⟨q, 3, none⟩ v3).setCell ⟨q, 4, none⟩ v4).setCell ⟨q, 5, none⟩ v5
theorem set6_below {n : Nat} {w0 w : World} (h : Below n w0 w) {q : Nat} (hq : n ≤ q) (v0 v1 v2 v3 v4 v5 : Value) : Below n w0 (set6 w q v0 v1 v2 v3 v4 v5) := (((((h.setCell (p := ⟨q, 0, none⟩) hq v0).setCell (p := ⟨q, 1, none⟩) hq v1).setCell (p := ⟨q, 2, none⟩) hq v2).setCell (p := ⟨q, 3, none⟩) hq v3).setCell (p := ⟨q, 4, none⟩) hq v4).setCell (p := ⟨q, 5, none⟩) hq v5
theorem set6_other (w : World) (q : Nat) (v0 v1 v2 v3 v4 v5 : Value) (k : Nat) (h : k ≠ q) : (set6 w q v0 v1 v2 v3 v4 v5).heap[k]? = w.heap[k]? := by
  unfold set6
  rw [Below.heap_setCell _ _ _ _ h, Below.heap_setCell _ _ _ _ h, Below.heap_setCell _ _ _ _ h, Below.heap_setCell _ _ _ _ h, Below.heap_setCell _ _ _ _ h, Below.heap_setCell _ _ _ _ h]
theorem set6_size (w : World) (q : Nat) (v0 v1 v2 v3 v4 v5 : Value) : (set6 w q v0 v1 v2 v3 v4 v5).heap.size = w.heap.size := by
  unfold set6
  simp [World.setCell]
end Go.Proofs.Ytjgklemhlmgheaa
