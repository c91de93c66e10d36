/- What stands in the world while an act is done, on the program's arena and on the document's. No function of the program in it. -/
import Derived.Test.YtjgklemhlmgheaaWf5
import Derived.Test.YtjgklemhlmgheaaWalkL5
import Derived.Test.YtjgklemhlmgheaaWalkM5
import Derived.Test.YtjgklemhlmgheaaAl5
set_option linter.unusedVariables false
set_option linter.unusedSimpArgs false
namespace Go.Proofs.Ytjgklemhlmgheaa
open Go.RowKit

theorem Kept.keep {w W : World} {k : Nat} {cs : List Value} (h : Kept w k cs) (hk : W.heap[k]? = w.heap[k]?) : Kept W k cs :=
  ⟨fun o => by rw [World.cell?_of_block (a := ⟨k, o, none⟩) hk]; exact h.1 o, fun o => by rw [World.frozen?_of_block (a := ⟨k, o, none⟩) hk]; exact h.2 o⟩
theorem IsAB.tight {B : Nat → Prop} {w : World} {v : Value} {aa : AttrL} (h : IsAB B w v aa) : IsAB (fun k => B k ∧ k < w.heap.size) w v aa := by
  refine ⟨h.1, ?_⟩
  rcases h.2 with h2 | h2
  · exact .inl h2
  · by_cases he : aa = []
    · exact .inl he
    · refine .inr fun k e => ⟨h2 k e, ?_⟩
      rcases h.1 with ⟨_, h1⟩ | ⟨b, o, cap, rfl, _, hcs⟩
      · exact absurd h1 he
      · have hl : 0 < aa.length := by
          cases aa with
          | nil => exact absurd rfl he
          | cons a r => simp
        have : b = k := by simpa [Value.ownBlock] using e
        rw [← this]
        exact cell_lt (hcs 0 hl).1
theorem IsIB.tight {B : Nat → Prop} {w : World} {v : Value} {l : List Nat} (h : IsIB B w v l) : IsIB (fun k => B k ∧ k < w.heap.size) w v l := by
  refine ⟨h.1, ?_⟩
  rcases h.2 with h2 | h2
  · exact .inl h2
  · by_cases he : l = []
    · exact .inl he
    · refine .inr fun k e => ⟨h2 k e, ?_⟩
      rcases h.1 with ⟨_, h1⟩ | ⟨b, o, cap, rfl, _, hcs⟩
      · exact absurd h1 he
      · have hl : 0 < l.length := by
          cases l with
          | nil => exact absurd rfl he
          | cons a r => simp
        have : b = k := by simpa [Value.ownBlock] using e
        rw [← this]
        exact cell_lt (hcs 0 hl)
theorem IsTB.tight {B : Nat → Prop} {w : World} {v : Value} {T : TR} (h : IsTB B w v T) (h0 : 0 < T.length) : IsTB (fun k => B k ∧ k < w.heap.size) w v T := by
  obtain ⟨b, o, cap, ps, e1, e2, e3, e4, e5, e6⟩ := h
  have hpl : 0 < ps.length := by rw [← e3, List.length_map] at h0; exact h0
  have hr : 0 < (rowCells ps).length := by rw [rowCells_len]; omega
  exact ⟨b, o, cap, ps, e1, e2, e3, ⟨e4, cell_lt (e6 0 _ (List.getElem?_eq_getElem hr))⟩, fun p hp => ⟨(e5 p hp).1.tight, (e5 p hp).2.tight⟩, e6⟩
/-- Both arenas, apart from each other, in blocks from n0 on. -/
structure Both (n0 : Nat) (w0 w : World) (pb : Nat) (rv : Value) (T U : TR) : Prop where
  ex : ∃ A B : Nat → Prop, PT A w pb T ∧ IsTB B w rv U ∧ (∀ k, A k → n0 ≤ k ∧ k < w.heap.size) ∧ ∀ k, B k → n0 ≤ k ∧ k < w.heap.size ∧ ¬ A k
  bel : Below n0 w0 w
  hn : n0 ≤ w.heap.size
theorem Both.liv {n0 : Nat} {w0 w : World} {pb : Nat} {rv : Value} {T U : TR} (h : Both n0 w0 w pb rv T U) : Liv n0 w0 w pb T := by
  obtain ⟨A, B, h1, h2, h3, h4⟩ := h.ex
  exact ⟨h1.mono fun k hk => h3 k hk, h.bel, h.hn⟩
theorem Both.on {n0 : Nat} {w0 w w' : World} {pb : Nat} {rv : Value} {T U : TR} (h : Both n0 w0 w pb rv T U) (hb : Below w.heap.size w w') : Both n0 w0 w' pb rv T U := by
  obtain ⟨A, B, h1, h2, h3, h4⟩ := h.ex
  exact ⟨⟨A, B, h1.below hb, h2.below hb, fun k hk => ⟨(h3 k hk).1, Nat.lt_of_lt_of_le (h3 k hk).2 hb.size⟩, fun k hk => ⟨(h4 k hk).1, Nat.lt_of_lt_of_le (h4 k hk).2.1 hb.size, (h4 k hk).2.2⟩⟩, h.bel.trans (hb.mono h.hn), Nat.le_trans h.hn hb.size⟩
/-- An act's values. -/
structure AV where
  k : Int
  a : Int
  b : Int
  sp : Int
  s : ByteArray
  aa : AttrL
  av : Value
def AV.cells (x : AV) : List Value := [.int .i64 x.k, .int .i64 x.a, .int .i64 x.b, .int .i64 x.sp, .string x.s, x.av]
structure DoS (n0 q m : Nat) (x : AV) (vat : Value) (w0 : World) (A B : Nat → Prop) (w : World) (pb : Nat) (rv : Value) (T U : TR) : Prop where
  pt : PT A w pb T
  tb : IsTB B w rv U
  hA : ∀ k, A k → n0 ≤ k ∧ k < w.heap.size ∧ (k < q ∨ m ≤ k)
  hB : ∀ k, B k → n0 ≤ k ∧ k < w.heap.size ∧ (k < q ∨ m ≤ k) ∧ ¬ A k
  k4 : Kept w q [rv]
  k5 : Kept w (q + 1) x.cells
  k6 : Kept w (q + 2) [.slice none 0 0]
  row : ∃ xs, w.ownsRow (q + 3) 80 2 vat x.aa.length xs
  rowP : ∀ k, vat.ownBlock = some k → k < m
  old : IsV w0 x.av x.aa
  bel : Below n0 w0 w
  h0 : n0 = w0.heap.size
  hnq : n0 ≤ q
  hqm : q + 3 ≤ m
  hm : m ≤ w.heap.size
variable {n0 q m : Nat} {x : AV} {vat : Value} {w0 : World} {A B : Nat → Prop} {w : World} {pb : Nat} {rv : Value} {T U : TR}
theorem DoS.cells4 (h : DoS n0 q m x vat w0 A B w pb rv T U) : w.cell? ⟨q, 0, none⟩ = some rv ∧ w.frozen? ⟨q, 0, none⟩ = false := ⟨h.k4.1 0, h.k4.2 0⟩
theorem DoS.isV (h : DoS n0 q m x vat w0 A B w pb rv T U) : IsV w x.av x.aa := h.old.below (h.h0 ▸ h.bel)
theorem DoS.prog (h : DoS n0 q m x vat w0 A B w pb rv T U) {w' : World} {T' : TR} (hp : PT (andNew A w.heap.size) w' pb T') (hb : ButA A w w') : ∃ A', DoS n0 q m x vat w0 A' B w' pb rv T' U := by
  have hP : ∀ k, q ≤ k → k < m → w'.heap[k]? = w.heap[k]? := fun k h1 h2 => hb.block k (Nat.lt_of_lt_of_le h2 h.hm) fun ha => by have := (h.hA k ha).2.2; omega
  have hm := h.hm
  have hqm := h.hqm
  refine ⟨fun k => andNew A w.heap.size k ∧ k < w'.heap.size, ⟨hp.tight, h.tb.keep fun k hk => hb.block k (h.hB k hk).2.1 (h.hB k hk).2.2.2, ?_, ?_, h.k4.keep (hP q (Nat.le_refl _) (by omega)), h.k5.keep (hP (q + 1) (by omega) (by omega)), h.k6.keep (hP (q + 2) (by omega) (by omega)), ?_, h.rowP, h.old, h.bel.trans (hb.below (fun k hk => (h.hA k hk).1) (Nat.le_trans h.hnq (by omega))), h.h0, h.hnq, h.hqm, Nat.le_trans hm hb.size⟩⟩
  · rintro k ⟨h1 | h1, h2⟩
    · exact ⟨(h.hA k h1).1, h2, (h.hA k h1).2.2⟩
    · have := h.hnq
      exact ⟨by omega, h2, by omega⟩
  · intro k hk
    obtain ⟨b1, b2, b3, b4⟩ := h.hB k hk
    refine ⟨b1, Nat.lt_of_lt_of_le b2 hb.size, b3, ?_⟩
    rintro ⟨h1 | h1, _⟩
    · exact b4 h1
    · omega
  · obtain ⟨xs, hx⟩ := h.row
    exact ⟨xs, ownsRow_keep hx fun k e => hP k (by have := (hx.lt k e).1; omega) (h.rowP k e)⟩
theorem DoS.doc (h : DoS n0 q m x vat w0 A B w pb rv T U) {w' : World} {rv' : Value} {U' : TR} (hU : 0 < U'.length) (ht : IsTB (andNew B w.heap.size) w' rv' U') (hb : Below w.heap.size w w') : ∃ B', DoS n0 q m x vat w0 A B' (w'.setCell ⟨q, 0, none⟩ rv') pb rv' T U' := by
  have hm := h.hm
  have hqm := h.hqm
  have hnq := h.hnq
  have hsz : (w'.setCell ⟨q, 0, none⟩ rv').heap.size = w'.heap.size := by simp [World.setCell]
  have hs := hb.size
  have hot : ∀ k, k ≠ q → (w'.setCell ⟨q, 0, none⟩ rv').heap[k]? = w'.heap[k]? := fun k hk => Below.heap_setCell _ _ _ _ hk
  have hAq : ∀ k, A k → k ≠ q := fun k hk => by have := (h.hA k hk).2.2; omega
  have tt : ∀ k, andNew B w.heap.size k → k ≠ q := by
    rintro k (h1 | h1)
    · have := (h.hB k h1).2.2.1; omega
    · omega
  have hP : ∀ k, q < k → k < m → (w'.setCell ⟨q, 0, none⟩ rv').heap[k]? = w.heap[k]? := fun k h1 h2 => (hot k (by omega)).trans (hb.block k (by omega))
  have hk4 : Kept (w'.setCell ⟨q, 0, none⟩ rv') q [rv'] := (h.k4.below hb).set 0 (by simp) rv'
  refine ⟨fun k => andNew B w.heap.size k ∧ k < w'.heap.size, ⟨(h.pt.below hb).keep (by rw [hsz]; exact Nat.le_refl _) fun k hk => hot k (hAq k hk), (ht.tight hU).keep fun k hk => hot k (tt k hk.1), ?_, ?_, hk4, h.k5.keep (hP (q + 1) (by omega) (by omega)), h.k6.keep (hP (q + 2) (by omega) (by omega)), ?_, h.rowP, h.old, h.bel.trans ((hb.mono (by omega)).setCell (p := ⟨q, 0, none⟩) hnq _), h.h0, hnq, hqm, by rw [hsz]; omega⟩⟩
  · intro k hk
    obtain ⟨a1, a2, a3⟩ := h.hA k hk
    exact ⟨a1, by rw [hsz]; omega, a3⟩
  · rintro k ⟨h1 | h1, h2⟩
    · obtain ⟨b1, b2, b3, b4⟩ := h.hB k h1
      exact ⟨b1, by rw [hsz]; exact h2, b3, b4⟩
    · exact ⟨by omega, by rw [hsz]; exact h2, by omega, fun ha => by have := (h.hA k ha).2.1; omega⟩
  · obtain ⟨xs, hx⟩ := h.row
    exact ⟨xs, ownsRow_keep hx fun k e => hP k (by have := (hx.lt k e).1; omega) (h.rowP k e)⟩
/-- One value of the local list is spoilt. -/
theorem DoS.spoil (h : DoS n0 q m x vat w0 A B w pb rv T U) {g c : Nat} (hv : vat = .slice (some ⟨g, 0, none⟩) x.aa.length c) (i : Nat) (u : Value) : DoS n0 q m x vat w0 A B (w.setCell ⟨g, i, none⟩ u) pb rv T U := by
  subst hv
  have hm := h.hm
  have hqm := h.hqm
  have hnq := h.hnq
  obtain ⟨xs, hx⟩ := h.row
  have hg1 := (hx.lt g rfl).1
  have hg2 := h.rowP g rfl
  have hsz : (w.setCell ⟨g, i, none⟩ u).heap.size = w.heap.size := by simp [World.setCell]
  have hot : ∀ k, k ≠ g → (w.setCell ⟨g, i, none⟩ u).heap[k]? = w.heap[k]? := fun k hk => Below.heap_setCell _ _ _ _ hk
  exact ⟨h.pt.keep (by rw [hsz]; exact Nat.le_refl _) fun k hk => hot k (by have := (h.hA k hk).2.2; omega), h.tb.keep fun k hk => hot k (by have := (h.hB k hk).2.2.1; omega), fun k hk => by rw [hsz]; exact h.hA k hk, fun k hk => by rw [hsz]; exact h.hB k hk, h.k4.keep (hot q (by omega)), h.k5.keep (hot (q + 1) (by omega)), h.k6.keep (hot (q + 2) (by omega)), ⟨_, (hx.stored i u).1⟩, h.rowP, h.old, h.bel.setCell (p := ⟨g, i, none⟩) (by simp only; omega) u, h.h0, hnq, hqm, by rw [hsz]; exact hm⟩
/-- The answer is laid. -/
theorem DoS.done (h : DoS n0 q m x vat w0 A B w pb rv T U) : Both n0 w0 (w.setCell ⟨q + 2, 0, none⟩ rv) pb rv T U := by
  have hm := h.hm
  have hqm := h.hqm
  have hnq := h.hnq
  have hsz : (w.setCell ⟨q + 2, 0, none⟩ rv).heap.size = w.heap.size := by simp [World.setCell]
  have hot : ∀ k, k ≠ q + 2 → (w.setCell ⟨q + 2, 0, none⟩ rv).heap[k]? = w.heap[k]? := fun k hk => Below.heap_setCell _ _ _ _ hk
  exact ⟨⟨A, B, h.pt.keep (by rw [hsz]; exact Nat.le_refl _) fun k hk => hot k (by have := (h.hA k hk).2.2; omega), h.tb.keep fun k hk => hot k (by have := (h.hB k hk).2.2.1; omega), fun k hk => by rw [hsz]; exact ⟨(h.hA k hk).1, (h.hA k hk).2.1⟩, fun k hk => by rw [hsz]; exact ⟨(h.hB k hk).1, (h.hB k hk).2.1, (h.hB k hk).2.2.2⟩⟩, h.bel.setCell (p := ⟨q + 2, 0, none⟩) (by simp only; omega) rv, by rw [hsz]; omega⟩
/-- What an act does to an arena: by the program, and by the document. -/
def actP (T : TR) (x : AV) : TR × Int × Int :=
  if x.k = 1 then ((makeL T { kind := 1, space := x.sp, name := x.s.data.toList, attrs := x.aa }).1, (makeL T { kind := 1, space := x.sp, name := x.s.data.toList, attrs := x.aa }).2, 0)
  else if x.k = 2 then ((makeL T { kind := 2, text := x.s.data.toList }).1, (makeL T { kind := 2, text := x.s.data.toList }).2, 0)
  else if x.k = 3 then ((makeL T { kind := 3, text := x.s.data.toList }).1, (makeL T { kind := 3, text := x.s.data.toList }).2, 0)
  else if x.k = 4 then ((copyL T x.a).1, (copyL T x.a).2, 0)
  else if x.k = 5 then ((addZ T x.a x.s.data.toList).1, 0, (addZ T x.a x.s.data.toList).2)
  else if x.k = 6 then ((appendZ T x.a x.b).1, 0, (appendZ T x.a x.b).2)
  else if x.k = 7 then ((beforeZ T x.a x.b).1, 0, (beforeZ T x.a x.b).2)
  else if x.k = 8 then ((removeZ T x.a).1, 0, (removeZ T x.a).2)
  else if x.k = 9 then ((moveZ T x.a x.b).1, 0, (moveZ T x.a x.b).2)
  else (T, 0, 0)
def actD (T : TR) (x : AV) : TR × Int × Int := if x.k = 4 then ((copyD T x.a).1, (copyD T x.a).2, 0) else actP T x
end Go.Proofs.Ytjgklemhlmgheaa
