/- ArenaPlays: what stands in the world: both arenas are T, and the caller's boxes r (block q) and next (block nq) stay. No function of the program in it. -/
import Derived.Test.YtjgklemhlmgheaaDoK5
import Derived.Test.YtjgklemhlmgheaaDW5
set_option linter.unusedVariables false
set_option linter.unusedSimpArgs false
namespace Go.Proofs.Ytjgklemhlmgheaa
open Go.RowKit

section
variable {rr : Nat → Prop} {ob : World} {n0 : Nat} {w0 w : World} {pb : Nat} {rv : Value} {T U : TR}
theorem BothK.re (h : BothK rr ob n0 w0 w pb rv T U) : BothK rr w n0 w0 w pb rv T U := ⟨h.ex, h.bel, h.hn, h.lt, fun _ _ => rfl⟩
theorem BothK.less {ss : Nat → Prop} (h : BothK rr ob n0 w0 w pb rv T U) (hs : ∀ k, ss k → rr k) : BothK ss ob n0 w0 w pb rv T U := by
  obtain ⟨A, B, h1, h2, h3, h4, h5, h6⟩ := h.ex
  exact ⟨⟨A, B, h1, h2, h3, h4, fun k hk => h5 k (hs k hk), fun k hk => h6 k (hs k hk)⟩, h.bel, h.hn, fun k hk => h.lt k (hs k hk), fun k hk => h.ho k (hs k hk)⟩
theorem BothK.form (h : BothK rr ob n0 w0 w pb rv T U) : ∃ a c, rv = .slice a U.length c := by
  obtain ⟨A, B, h1, h2, _⟩ := h.ex
  obtain ⟨b, o, cap, ps, e1, _⟩ := h2
  exact ⟨_, _, e1⟩
theorem BothK.isT (h : BothK rr ob n0 w0 w pb rv T U) : IsT w rv U := by
  obtain ⟨A, B, h1, h2, _⟩ := h.ex
  exact h2.isT
/-- One block more, that is new. -/
theorem BothK.more (h : BothK rr ob n0 w0 w pb rv T U) (o : Obj) : BothK (fun k => rr k ∨ k = w.heap.size) (w.alloc o) n0 w0 (w.alloc o) pb rv T U := by
  have hh := h.on (below_alloc w o)
  obtain ⟨A, B, h1, h2, h3, h4, h5, h6⟩ := h.ex
  have b := below_alloc w o
  have hz : (w.alloc o).heap.size = w.heap.size + 1 := by simp
  refine ⟨⟨A, B, h1.below b, h2.below b, fun k hk => ⟨(h3 k hk).1, by have := (h3 k hk).2; omega⟩, fun k hk => ⟨(h4 k hk).1, by have := (h4 k hk).2.1; omega, (h4 k hk).2.2⟩, fun k hk ha => ?_, fun k hk hb => ?_⟩, hh.bel, hh.hn, fun k hk => ?_, fun _ _ => rfl⟩
  · rcases hk with hk | hk
    · exact h5 k hk ha
    · have := (h3 k ha).2; omega
  · rcases hk with hk | hk
    · exact h6 k hk hb
    · have := (h4 k hb).2.1; omega
  · rcases hk with hk | hk
    · have := h.lt k hk; omega
    · omega
/-- A store into a block that is kept apart. -/
theorem BothK.store (h : BothK rr ob n0 w0 w pb rv T U) {k0 : Nat} (hk : rr k0) (hn : n0 ≤ k0) (i : Nat) (v : Value) : BothK rr (w.setCell ⟨k0, i, none⟩ v) n0 w0 (w.setCell ⟨k0, i, none⟩ v) pb rv T U := by
  obtain ⟨A, B, h1, h2, h3, h4, h5, h6⟩ := h.ex
  have hsz : (w.setCell ⟨k0, i, none⟩ v).heap.size = w.heap.size := by simp [World.setCell]
  have hot : ∀ k, k ≠ k0 → (w.setCell ⟨k0, i, none⟩ v).heap[k]? = w.heap[k]? := fun k hk => Below.heap_setCell _ _ _ _ hk
  refine ⟨⟨A, B, h1.keep (by rw [hsz]; exact Nat.le_refl _) fun k ha => hot k (fun e => h5 k0 hk (e ▸ ha)), h2.keep fun k hb => hot k (fun e => h6 k0 hk (e ▸ hb)), fun k ha => by rw [hsz]; exact h3 k ha, fun k hb => by rw [hsz]; exact h4 k hb, h5, h6⟩, h.bel.setCell (p := ⟨k0, i, none⟩) hn v, by rw [hsz]; exact h.hn, fun k hk => by rw [hsz]; exact h.lt k hk, fun _ _ => rfl⟩
end
/-- At the head of the loop. -/
structure Pl (q : Nat) (w0 : World) (pb : Nat) (W : World) (rv : Value) (T : TR) : Prop where
  bk : BothK (fun k => k = q) W w0.heap.size w0 W pb rv T T
  kp : Kept W q [rv]
  hq : w0.heap.size ≤ q
variable {q nq : Nat} {w0 : World} {pb : Nat} {W W' : World} {ro rv : Value} {T : TR}
theorem Pl.on (h : Pl q w0 pb W rv T) (hb : Below W.heap.size W W') : Pl q w0 pb W' rv T := ⟨(h.bk.on hb).re, h.kp.below hb, h.hq⟩
theorem Pl.start (h : Both w0.heap.size w0 W pb rv T T) : Pl W.heap.size w0 pb (W.alloc (.cells #[rv] 27)) rv T := by
  have h0 : BothK (fun _ => False) W w0.heap.size w0 W pb rv T T := by
    obtain ⟨A, B, h1, h2, h3, h4⟩ := h.ex
    exact ⟨⟨A, B, h1, h2, h3, h4, fun _ hf => hf.elim, fun _ hf => hf.elim⟩, h.bel, h.hn, fun _ hf => hf.elim, fun _ hf => hf.elim⟩
  exact ⟨(h0.more _).less fun k hk => .inr hk, Kept.new W [rv] _, h.hn⟩
/-- Behind do: next is laid. -/
structure Nx (q nq : Nat) (w0 : World) (pb : Nat) (W : World) (ro rv : Value) (T : TR) : Prop where
  bk : BothK (fun k => k = q ∨ k = nq) W w0.heap.size w0 W pb rv T T
  kq : Kept W q [ro]
  kn : Kept W nq [rv]
  hq : w0.heap.size ≤ q
  ne : nq ≠ q
/-- next's box is new behind the call. -/
theorem Nx.late {ob : World} (h : BothK (fun k => k = q) ob w0.heap.size w0 W pb rv T T) (kq : Kept W q [ro]) (hq : w0.heap.size ≤ q) : Nx q W.heap.size w0 pb (W.alloc (.cells #[rv] 27)) ro rv T :=
  ⟨h.more _, kq.alloc _, Kept.new W [rv] _, hq, fun e => by have := h.lt q rfl; omega⟩
/-- next's box was there ahead of the call. -/
theorem Nx.early {ob : World} {z : Value} (h : BothK (fun k => k = q ∨ k = nq) ob w0.heap.size w0 W pb rv T T) (kq : Kept W q [ro]) (kn : Kept W nq [z]) (hq : w0.heap.size ≤ q) (hn : w0.heap.size ≤ nq) (ne : nq ≠ q) : Nx q nq w0 pb (W.setCell ⟨nq, 0, none⟩ rv) ro rv T :=
  ⟨h.store (.inr rfl) hn 0 rv, kq.other ⟨nq, 0, none⟩ ne rv, kn.set 0 (by simp) rv, hq, ne⟩
/-- r = next. -/
theorem Nx.set (h : Nx q nq w0 pb W ro rv T) : Pl q w0 pb (W.setCell ⟨q, 0, none⟩ rv) rv T :=
  ⟨(h.bk.store (.inl rfl) h.hq 0 rv).less fun k hk => .inl hk, h.kq.set 0 (by simp) rv, h.hq⟩
theorem isN_low {B : Nat → Prop} {w : World} {j : Nat} {t : NT j} {vs : List Value} (h : IsN B w t vs) : IsN (fun k => k < w.heap.size) w t vs := (IsN.tight _ _ h).mono fun k hk => hk.2
theorem isN_next {w W : World} {j : Nat} {t : NT j} {vs : List Value} (h : IsN (fun k => k < w.heap.size) w t vs) (hb : Below w.heap.size w W) : IsN (fun k => k < W.heap.size) W t vs := IsN.keep (fun k hk => hb.block k hk) (fun k hk => Nat.lt_of_lt_of_le hk hb.size) _ _ h
end Go.Proofs.Ytjgklemhlmgheaa
