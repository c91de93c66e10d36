/- What stands while an act is done, with one block more that stays. -/
import Derived.Test.YtjgklemhlmgheaaDoP5
import Derived.Test.YtjgklemhlmgheaaPQ5
set_option linter.unusedVariables false
set_option linter.unusedSimpArgs false
namespace Go.Proofs.Ytjgklemhlmgheaa
open Go.RowKit

structure BothK (rr : Nat → Prop) (ob : World) (n0 : Nat) (w0 w : World) (pb : Nat) (rv : Value) (T U : TR) : Prop where
  ex : ∃ A B : Nat → Prop, PT A w pb T ∧ IsTB B w rv U ∧ (∀ k, A k → n0 ≤ k ∧ k < w.heap.size) ∧ (∀ k, B k → n0 ≤ k ∧ k < w.heap.size ∧ ¬ A k) ∧ (∀ k, rr k → ¬ A k) ∧ ∀ k, rr k → ¬ B k
  bel : Below n0 w0 w
  hn : n0 ≤ w.heap.size
  lt : ∀ k, rr k → k < w.heap.size
  ho : ∀ k, rr k → w.heap[k]? = ob.heap[k]?
theorem BothK.both {rr : Nat → Prop} {ob : World} {n0 : Nat} {w0 w : World} {pb : Nat} {rv : Value} {T U : TR} (h : BothK rr ob n0 w0 w pb rv T U) : Both n0 w0 w pb rv T U := by
  obtain ⟨A, B, h1, h2, h3, h4, _⟩ := h.ex
  exact ⟨⟨A, B, h1, h2, h3, h4⟩, h.bel, h.hn⟩
theorem BothK.on {rr : Nat → Prop} {ob : World} {n0 : Nat} {w0 w w' : World} {pb : Nat} {rv : Value} {T U : TR} (h : BothK rr ob n0 w0 w pb rv T U) (hb : Below w.heap.size w w') : BothK rr ob n0 w0 w' pb rv T U := by
  obtain ⟨A, B, h1, h2, h3, h4, h5, h6⟩ := h.ex
  exact ⟨⟨A, B, h1.below hb, h2.below hb, fun k hk => ⟨(h3 k hk).1, Nat.lt_of_lt_of_le (h3 k hk).2 hb.size⟩, fun k hk => ⟨(h4 k hk).1, Nat.lt_of_lt_of_le (h4 k hk).2.1 hb.size, (h4 k hk).2.2⟩, h5, h6⟩, h.bel.trans (hb.mono h.hn), Nat.le_trans h.hn hb.size, fun k hk => Nat.lt_of_lt_of_le (h.lt k hk) hb.size, fun k hk => (hb.block _ (h.lt k hk)).trans (h.ho k hk)⟩
structure DoSK (rr : Nat → Prop) (ob : World) (n0 q m : Nat) (x : AV) (vat : Value) (w0 : World) (A B : Nat → Prop) (w : World) (pb : Nat) (rv : Value) (T U : TR) : Prop extends DoS n0 q m x vat w0 A B w pb rv T U where
  na : ∀ k, rr k → ¬ A k
  nb : ∀ k, rr k → ¬ B k
  lt : ∀ k, rr k → k < q
  ho : ∀ k, rr k → w.heap[k]? = ob.heap[k]?
variable {rr : Nat → Prop} {ob : World} {n0 q m : Nat} {x : AV} {vat : Value} {w0 : World} {A B : Nat → Prop} {w : World} {pb : Nat} {rv : Value} {T U : TR}
theorem DoSK.prog (h : DoSK rr ob n0 q m x vat w0 A B w pb rv T U) {w' : World} {T' : TR} (hp : PT (andNew A w.heap.size) w' pb T') (hb : ButA A w w') : ∃ A', DoSK rr ob n0 q m x vat w0 A' B w' pb rv T' U := by
  have hP : ∀ k, q ≤ k → k < m → w'.heap[k]? = w.heap[k]? := fun k h1 h2 => hb.block k (Nat.lt_of_lt_of_le h2 h.hm) fun ha => by have := (h.hA k ha).2.2; omega
  have hm := h.hm
  have hqm := h.hqm
  refine ⟨fun k => andNew A w.heap.size k ∧ k < w'.heap.size, ⟨⟨hp.tight, h.tb.keep fun k hk => hb.block k (h.hB k hk).2.1 (h.hB k hk).2.2.2, ?_, ?_, h.k4.keep (hP q (Nat.le_refl _) (by omega)), h.k5.keep (hP (q + 1) (by omega) (by omega)), h.k6.keep (hP (q + 2) (by omega) (by omega)), ?_, h.rowP, h.old, h.bel.trans (hb.below (fun k hk => (h.hA k hk).1) (Nat.le_trans h.hnq (by omega))), h.h0, h.hnq, h.hqm, Nat.le_trans hm hb.size⟩, (fun k hk hc => by rcases hc with ⟨h1 | h1, _⟩; exact h.na k hk h1; have := h.lt k hk; omega), h.nb, h.lt, fun k hk => (hb.block k (by have := h.lt k hk; omega) (h.na k hk)).trans (h.ho k hk)⟩⟩
  · rintro k ⟨h1 | h1, h2⟩
    · exact ⟨(h.hA k h1).1, h2, (h.hA k h1).2.2⟩
    · have := h.hnq
      exact ⟨by omega, h2, by omega⟩
  · intro k hk
    obtain ⟨b1, b2, b3, b4⟩ := h.hB k hk
    refine ⟨b1, Nat.lt_of_lt_of_le b2 hb.size, b3, ?_⟩
    rintro ⟨h1 | h1, _⟩
    · exact b4 h1
    · omega
  · obtain ⟨xs, hx⟩ := h.row
    exact ⟨xs, ownsRow_keep hx fun k e => hP k (by have := (hx.lt k e).1; omega) (h.rowP k e)⟩
theorem DoSK.doc (h : DoSK rr ob n0 q m x vat w0 A B w pb rv T U) {w' : World} {rv' : Value} {U' : TR} (hU : 0 < U'.length) (ht : IsTB (andNew B w.heap.size) w' rv' U') (hb : Below w.heap.size w w') : ∃ B', DoSK rr ob n0 q m x vat w0 A B' (w'.setCell ⟨q, 0, none⟩ rv') pb rv' T U' := by
  have hm := h.hm
  have hqm := h.hqm
  have hnq := h.hnq
  have hsz : (w'.setCell ⟨q, 0, none⟩ rv').heap.size = w'.heap.size := by simp [World.setCell]
  have hs := hb.size
  have hot : ∀ k, k ≠ q → (w'.setCell ⟨q, 0, none⟩ rv').heap[k]? = w'.heap[k]? := fun k hk => Below.heap_setCell _ _ _ _ hk
  have hAq : ∀ k, A k → k ≠ q := fun k hk => by have := (h.hA k hk).2.2; omega
  have tt : ∀ k, andNew B w.heap.size k → k ≠ q := by
    rintro k (h1 | h1)
    · have := (h.hB k h1).2.2.1; omega
    · omega
  have hP : ∀ k, q < k → k < m → (w'.setCell ⟨q, 0, none⟩ rv').heap[k]? = w.heap[k]? := fun k h1 h2 => (hot k (by omega)).trans (hb.block k (by omega))
  have hk4 : Kept (w'.setCell ⟨q, 0, none⟩ rv') q [rv'] := (h.k4.below hb).set 0 (by simp) rv'
  refine ⟨fun k => andNew B w.heap.size k ∧ k < w'.heap.size, ⟨⟨(h.pt.below hb).keep (by rw [hsz]; exact Nat.le_refl _) fun k hk => hot k (hAq k hk), (ht.tight hU).keep fun k hk => hot k (tt k hk.1), ?_, ?_, hk4, h.k5.keep (hP (q + 1) (by omega) (by omega)), h.k6.keep (hP (q + 2) (by omega) (by omega)), ?_, h.rowP, h.old, h.bel.trans ((hb.mono (by omega)).setCell (p := ⟨q, 0, none⟩) hnq _), h.h0, hnq, hqm, by rw [hsz]; omega⟩, h.na, (fun k hk hc => by rcases hc with ⟨h1 | h1, _⟩; exact h.nb k hk h1; have := h.lt k hk; omega), h.lt, fun k hk => (hot k (by have := h.lt k hk; omega)).trans ((hb.block k (by have := h.lt k hk; omega)).trans (h.ho k hk))⟩⟩
  · intro k hk
    obtain ⟨a1, a2, a3⟩ := h.hA k hk
    exact ⟨a1, by rw [hsz]; omega, a3⟩
  · rintro k ⟨h1 | h1, h2⟩
    · obtain ⟨b1, b2, b3, b4⟩ := h.hB k h1
      exact ⟨b1, by rw [hsz]; exact h2, b3, b4⟩
    · exact ⟨by omega, by rw [hsz]; exact h2, by omega, fun ha => by have := (h.hA k ha).2.1; omega⟩
  · obtain ⟨xs, hx⟩ := h.row
    exact ⟨xs, ownsRow_keep hx fun k e => hP k (by have := (hx.lt k e).1; omega) (h.rowP k e)⟩
theorem DoSK.spoil (h : DoSK rr ob n0 q m x vat w0 A B w pb rv T U) {g c : Nat} (hv : vat = .slice (some ⟨g, 0, none⟩) x.aa.length c) (i : Nat) (u : Value) : DoSK rr ob n0 q m x vat w0 A B (w.setCell ⟨g, i, none⟩ u) pb rv T U := by
  subst hv
  have hm := h.hm
  have hqm := h.hqm
  have hnq := h.hnq
  obtain ⟨xs, hx⟩ := h.row
  have hg1 := (hx.lt g rfl).1
  have hg2 := h.rowP g rfl
  have hsz : (w.setCell ⟨g, i, none⟩ u).heap.size = w.heap.size := by simp [World.setCell]
  have hot : ∀ k, k ≠ g → (w.setCell ⟨g, i, none⟩ u).heap[k]? = w.heap[k]? := fun k hk => Below.heap_setCell _ _ _ _ hk
  exact ⟨⟨h.pt.keep (by rw [hsz]; exact Nat.le_refl _) fun k hk => hot k (by have := (h.hA k hk).2.2; omega), h.tb.keep fun k hk => hot k (by have := (h.hB k hk).2.2.1; omega), fun k hk => by rw [hsz]; exact h.hA k hk, fun k hk => by rw [hsz]; exact h.hB k hk, h.k4.keep (hot q (by omega)), h.k5.keep (hot (q + 1) (by omega)), h.k6.keep (hot (q + 2) (by omega)), ⟨_, (hx.stored i u).1⟩, h.rowP, h.old, h.bel.setCell (p := ⟨g, i, none⟩) (by simp only; omega) u, h.h0, hnq, hqm, by rw [hsz]; exact hm⟩, h.na, h.nb, h.lt, fun k hk => (hot k (by have := h.lt k hk; omega)).trans (h.ho k hk)⟩
theorem DoSK.done (h : DoSK rr ob n0 q m x vat w0 A B w pb rv T U) : BothK rr ob n0 w0 (w.setCell ⟨q + 2, 0, none⟩ rv) pb rv T U := by
  have hm := h.hm
  have hqm := h.hqm
  have hnq := h.hnq
  have hsz : (w.setCell ⟨q + 2, 0, none⟩ rv).heap.size = w.heap.size := by simp [World.setCell]
  have hot : ∀ k, k ≠ q + 2 → (w.setCell ⟨q + 2, 0, none⟩ rv).heap[k]? = w.heap[k]? := fun k hk => Below.heap_setCell _ _ _ _ hk
  exact ⟨⟨A, B, h.pt.keep (by rw [hsz]; exact Nat.le_refl _) fun k hk => hot k (by have := (h.hA k hk).2.2; omega), h.tb.keep fun k hk => hot k (by have := (h.hB k hk).2.2.1; omega), fun k hk => by rw [hsz]; exact ⟨(h.hA k hk).1, (h.hA k hk).2.1⟩, fun k hk => by rw [hsz]; exact ⟨(h.hB k hk).1, (h.hB k hk).2.1, (h.hB k hk).2.2.2⟩, h.na, h.nb⟩, h.bel.setCell (p := ⟨q + 2, 0, none⟩) (by simp only; omega) rv, by rw [hsz]; omega, (fun k hk => by rw [hsz]; have := h.lt k hk; omega), fun k hk => (hot k (by have := h.lt k hk; omega)).trans (h.ho k hk)⟩
end Go.Proofs.Ytjgklemhlmgheaa
