/- The live question is answered as fixed. -/
import Derived.Test.YteacldkfdhhphaaPl14
import Derived.Test.YteacldkfdhhphaaFt14
set_option linter.unusedVariables false
set_option linter.unusedSimpArgs false
set_option maxRecDepth 40000
namespace Go.Proofs.Yteacldkfdhhphaa
open Go.RowKit

/-- A disk that lies in blocks from n on, and what was below n is as it was. -/
structure Liv (w : World) (v : Value) (d : DM) (x : World) : Prop where
  k : ∃ A, IsK A x v d ∧ ∀ k, A k → w.heap.size ≤ k
  b : Below w.heap.size w x
theorem Liv.below {w x y : World} {v : Value} {d : DM} (h : Liv w v d x) (hb : Below x.heap.size x y) : Liv w v d y := by
  obtain ⟨A, h1, h2⟩ := h.k
  exact ⟨⟨A, h1.below hb, h2⟩, h.b.trans (hb.mono h.b.size)⟩
theorem Liv.kr {w x y : World} {v : Value} {d' : DM} {A : Nat → Prop} (hA : ∀ k, A k → w.heap.size ≤ k) (hb : Below w.heap.size w x) (h : KR IsK A x v d' y) : Liv w v d' y := by
  obtain ⟨A', h1, h2, h3⟩ := h
  exact ⟨⟨A', h1, fun k hk => (h2 k hk).elim (hA k) (fun h => Nat.le_trans hb.size h)⟩, hb.trans (h3.below hA hb.size)⟩
theorem isY_one (w : World) (x : UInt8) : IsY (w.alloc (.cells #[.int .u8 (x.toNat : Int)] 5)) (.slice (some ⟨w.heap.size, 0, none⟩) 1 1) [x] := .inr ⟨_, _, _, rfl, Nat.le_refl _, fun j hj => by
  obtain rfl : j = 0 := by simpa using hj
  simp [go_sem]⟩
theorem isF_two (w : World) (a b : Bool) : IsF (w.alloc (.cells #[.bool a, .bool b] 4)) (.slice (some ⟨w.heap.size, 0, none⟩) 2 2) [a, b] := .inr ⟨_, _, _, rfl, fun j hj => by
  have : j = 0 ∨ j = 1 := by simp at hj; omega
  rcases this with rfl | rfl <;> simp [go_sem]⟩
theorem off_new {A : Nat → Prop} {w : World} {v : Value} {d : DM} (h : IsK A w v d) {u : Value} (hu : ∀ k, u.ownBlock = some k → w.heap.size ≤ k) : Off A u := fun k hk ha => by have := hu k hk; have := h.lt k ha; omega
/-- A block is written that is made of a few bytes just laid. -/
theorem live_block {w : World} {v : Value} {d : DM} {x : World} (z : UInt8) :
    Calls Try.prog 24 #[.slice (some ⟨x.heap.size, 0, none⟩) 1 1] (x.alloc (.cells #[.int .u8 (z.toNat : Int)] 5)) fun e x1 => ∃ (p : Option Addr) (c : Nat), e = .returned (.slice p 256 c) ∧ Hid (NewY x.heap.size x1 (.slice p 256 c) (blockB [z])) ∧ Hid (Below x.heap.size x x1) :=
  (rblock_any _ [z] _ (isY_one x z) (by simp)).mono fun e x1 hh => by
    obtain ⟨v, rfl, ho, hb⟩ := hh
    obtain ⟨p, c, rfl⟩ := owns_formG ho
    refine ⟨p, c, rfl, hide ((owns_newY (l := blockB [z]) (by rw [block_len]; exact ho)).base (by simp)), hide ((below_alloc x _).trans (hb.mono (by simp)))⟩
theorem live_write {w x x1 : World} {v : Value} {d : DM} {n : Int} {u : Value} {b : Bs} (hF : Fit d) (h : Liv w v d x) (hb : Below x.heap.size x x1) (hy : NewY x.heap.size x1 u b) (hbl : b.length ≤ 1000000) :
    Calls Try.prog 23 #[v, .int .i64 n, u] x1 fun e y => e = .returned (.int .i64 (writeD d n b).2) ∧ Hid (Liv w v (writeD d n b).1 y) := by
  obtain ⟨A, h1, h2⟩ := h.k
  have h3 := h.below hb
  exact (pwrite_any A v d n u b x1 (h1.below hb) hF hy.isY (fun _ => off_new h1 fun k hk => (hy.blk k hk).1) hbl).mono fun e y hh => ⟨hh.1, hide (Liv.kr h2 h3.b hh.2)⟩
theorem live_flush {w x : World} {v : Value} {d : DM} (hF : Fit d) (h : Liv w v d x) :
    Calls Try.prog 25 #[v] x fun e y => e = .returned (.int .i64 (flushD d).2) ∧ Hid (Liv w v (flushD d).1 y) := by
  obtain ⟨A, h1, h2⟩ := h.k
  exact (pflush_any A v d x h1 hF).mono fun e y hh => ⟨hh.1, hide (Liv.kr h2 h.b hh.2)⟩
theorem live_fuse {w x : World} {v : Value} {d : DM} {n : Int} (hF : Fit d) (h : Liv w v d x) (hn : -9223372036854775808 ≤ n ∧ n ≤ 9223372036854775807) :
    Calls Try.prog 26 #[v, .int .i64 n] x fun e y => e = .returned (.tuple #[]) ∧ Hid (Liv w v (armD d n) y) := by
  obtain ⟨A, h1, h2⟩ := h.k
  exact (pfuse_any A v d n x h1 hF hn).mono fun e y hh => ⟨hh.1, hide (Liv.kr h2 h.b hh.2)⟩
/-- A crash by bools that lie off the disk: below w, or in a block just laid. -/
theorem live_crash {w x : World} {v : Value} {d : DM} {kv : Value} {keep : List Bool} (hF : Fit d) (h : Liv w v d x) {x1 : World} (hb : Below x.heap.size x x1) (hk : IsF x1 kv keep) (hl : keep.length ≤ 9223372036854775807) (ho : keep ≠ [] → ∀ k, kv.ownBlock = some k → k < w.heap.size ∨ x.heap.size ≤ k) :
    Calls Try.prog 22 #[v, kv] x1 fun e y => e = .returned (.tuple #[]) ∧ Hid (Liv w v (crashD d keep) y) := by
  obtain ⟨A, h1, h2⟩ := h.k
  exact (pcrash_any A v d kv keep x1 (h1.below hb) hF hk (fun hne k hk ha => by have := h2 k ha; have := h1.lt k ha; rcases ho hne k hk with h | h <;> omega) hl).mono fun e y hh => ⟨hh.1, hide (Liv.kr h2 (h.below hb).b hh.2)⟩
theorem live_read {w x : World} {v : Value} {d : DM} {n : Int} (hF : Fit d) (h : Liv w v d x) :
    Calls Try.prog 15 #[v, .int .i64 n] x fun e y => ∃ (p : Option Addr) (c : Nat), e = .returned (.tuple #[.slice p (readD d n).1.length c, .int .i64 (readD d n).2]) ∧ Hid (NewY x.heap.size y (.slice p (readD d n).1.length c) (readD d n).1) ∧ Hid (Below x.heap.size x y) := by
  obtain ⟨A, h1, h2⟩ := h.k
  exact (pread_any A v d n x h1 hF).mono fun e y hh => by
    obtain ⟨u, rfl, hy, hb⟩ := hh
    obtain ⟨p, c, rfl⟩ := hy.form
    exact ⟨p, c, rfl, hide hy, hide hb⟩
theorem live_pending {w x : World} {v : Value} {d : DM} (hF : Fit d) (h : Liv w v d x) :
    Calls Try.prog 17 #[v] x fun e y => e = .returned (.int .i64 (d.l.length : Int)) ∧ Hid (Below x.heap.size x y) := by
  obtain ⟨A, h1, h2⟩ := h.k
  exact (ppending_any A v d x h1 hF).mono fun e y hh => ⟨hh.1, hide hh.2⟩
theorem live_blocks {w x : World} {v : Value} {d : DM} (hF : Fit d) (h : Liv w v d x) :
    Calls Try.prog 21 #[v] x fun e y => e = .returned (.int .i64 ((d.safe.length / 4 : Nat) : Int)) ∧ Hid (Below x.heap.size x y) := by
  obtain ⟨A, h1, h2⟩ := h.k
  exact (pblocks_any A v d x h1 hF).mono fun e y hh => ⟨hh.1, hide hh.2⟩
theorem live_dump {w x : World} {v : Value} {d : DM} (hF : Fit d) (h : Liv w v d x) :
    Calls Try.prog 18 #[v] x fun e y => ∃ (p : Option Addr) (c : Nat), e = .returned (.slice p (dumpD d).length c) ∧ Hid (NewY x.heap.size y (.slice p (dumpD d).length c) (dumpD d)) ∧ Hid (Below x.heap.size x y) := by
  obtain ⟨A, h1, h2⟩ := h.k
  exact (pdump_any A v d x h1 hF).mono fun e y hh => by
    obtain ⟨u, rfl, hy, hb⟩ := hh
    obtain ⟨p, c, rfl⟩ := hy.form
    exact ⟨p, c, rfl, hide hy, hide hb⟩
theorem live_new (n : Int) (w x : World) (hb : Below w.heap.size w x) (h : 1 ≤ n ∧ n ≤ 4096) : Calls Try.prog 10 #[.int .i64 n] x fun e y => ∃ a, e = .returned (.tuple #[.pointer (some a), .int .i64 0]) ∧ Hid (Liv w (.pointer (some a)) (newD n.toNat) y) :=
  (pnew_ok n x h).mono fun e y hh => by
    obtain ⟨a, A, rfl, h1, h2, h3⟩ := hh
    exact ⟨a, rfl, hide ⟨⟨A, h1, fun k hk => Nat.le_trans hb.size (h2 k hk)⟩, hb.trans (h3.mono hb.size)⟩⟩
set_option maxHeartbeats 4000000 in
theorem alive_any (w : World) : Calls Try.prog 20 #[] w fun e w' => e = .returned (.bool true) ∧ Below w.heap.size w w' := by
  obtain ⟨f0, f1, f2, f3, f4⟩ := liv_fit
  obtain ⟨t0, t1, t2⟩ := liv_told
  obtain ⟨r0, r1, r2, r3, r4⟩ := liv_read
  obtain ⟨e0, e1⟩ := liv_end
  have HN := hide (live_new 1 w w (Below.refl _ _) (by omega))
  have HB : Hid (∀ (x : World) (z : UInt8), _) := hide (fun x z => live_block (w := w) (v := .bool true) (d := liv0) (x := x) z)
  have HW0 : Hid (∀ a x x1 u, Liv w (.pointer (some a)) (newD (Int.toNat 1)) x → Below x.heap.size x x1 → NewY x.heap.size x1 u (blockB [1]) → Calls Try.prog 23 #[.pointer (some a), .int .i64 0, u] x1 fun e y => e = .returned (.int .i64 0) ∧ Hid (Liv w (.pointer (some a)) liv1 y)) := hide (fun a x x1 u h hb hy => (live_write (n := 0) f0 h hb hy (by rw [block_len]; omega)).mono fun e y hh => ⟨by rw [hh.1]; exact congrArg (fun k => Ending.returned (.int .i64 k)) t0, hh.2⟩)
  have HF1 : Hid (∀ a x, Liv w (.pointer (some a)) liv1 x → Calls Try.prog 25 #[.pointer (some a)] x fun e y => e = .returned (.int .i64 0) ∧ Hid (Liv w (.pointer (some a)) liv2 y)) := hide (fun a x h => (live_flush f1 h).mono fun e y hh => ⟨by rw [hh.1, t1], hh.2⟩)
  have HW2 : Hid (∀ a x x1 u, Liv w (.pointer (some a)) liv2 x → Below x.heap.size x x1 → NewY x.heap.size x1 u (blockB [2]) → Calls Try.prog 23 #[.pointer (some a), .int .i64 0, u] x1 fun e y => e = .returned (.int .i64 0) ∧ Hid (Liv w (.pointer (some a)) liv3 y)) := hide (fun a x x1 u h hb hy => (live_write (n := 0) f2 h hb hy (by rw [block_len]; omega)).mono fun e y hh => ⟨by rw [hh.1, t2], hh.2⟩)
  have HC3 : Hid (∀ a x, Liv w (.pointer (some a)) liv3 x → Calls Try.prog 22 #[.pointer (some a), .slice (some ⟨x.heap.size, 0, none⟩) 2 2] (x.alloc (.cells #[.bool false, .bool true] 4)) fun e y => e = .returned (.tuple #[]) ∧ Hid (Liv w (.pointer (some a)) liv4 y)) := hide (fun a x h => live_crash f3 h (below_alloc x _) (isF_two x false true) (by simp) (fun _ k hk => by cases hk; exact .inr (Nat.le_refl _)))
  have HR4 : Hid (∀ a x, Liv w (.pointer (some a)) liv4 x → Calls Try.prog 15 #[.pointer (some a), .int .i64 0] x fun e y => ∃ g o c, e = .returned (.tuple #[.slice (some ⟨g, o, none⟩) 256 c, .int .i64 0]) ∧ (y.cell? ⟨g, o, none⟩ = some (.int .u8 1) ∧ y.cell? ⟨g, o + 64, none⟩ = some (.int .u8 2) ∧ y.cell? ⟨g, o + 128, none⟩ = some (.int .u8 1)) ∧ Hid (Liv w (.pointer (some a)) liv4 y)) := hide (fun a x h => (live_read (n := 0) f4 h).mono fun e y hh => by
    obtain ⟨p, c, rfl, hy, hb⟩ := hh
    rw [r0, r1]
    rw [r1] at hy
    rcases hy.out with ⟨h0, _⟩ | ⟨g, o, cap, e, _, _, _, hc, _⟩
    · rw [h0] at r1; simp at r1
    · injection e with e1 e2 e3
      subst e1 e3
      have hg : ∀ (j : Nat) (z : UInt8), (readD liv4 0).1[j]? = some z → y.cell? ⟨g, o + j, none⟩ = some (.int .u8 (z.toNat : Int)) := fun j z hz => by
        obtain ⟨hj, hz2⟩ := List.getElem?_eq_some_iff.1 hz
        rw [hc j hj, hz2]
      exact ⟨g, o, c, rfl, ⟨hg 0 1 r2, hg 64 2 r3, hg 128 1 r4⟩, hide (h.below hb.out)⟩)
  have HP4 : Hid (∀ a x, Liv w (.pointer (some a)) liv4 x → Calls Try.prog 17 #[.pointer (some a)] x fun e y => e = .returned (.int .i64 0) ∧ Hid (Liv w (.pointer (some a)) liv4 y)) := hide (fun a x h => (live_pending f4 h).mono fun e y hh => ⟨by rw [hh.1, e0]; rfl, hide (h.below hh.2.out)⟩)
  have HK4 : Hid (∀ a x, Liv w (.pointer (some a)) liv4 x → Calls Try.prog 21 #[.pointer (some a)] x fun e y => e = .returned (.int .i64 1) ∧ Hid (Below w.heap.size w y)) := hide (fun a x h => (live_blocks f4 h).mono fun e y hh => ⟨by rw [hh.1, e1]; rfl, hide (h.below hh.2.out).b⟩)
  clear f0 f1 f2 f3 f4 t0 t1 t2 r0 r1 r2 r3 r4 e0 e1
  go_enter Try.func20, Try.ntmps20
  go_wp2_with fail
  refine HN.out.mono ?_
  rintro e x0 ⟨a, rfl, L0⟩
  have HB0 := hide (HB.out x0 1)
  clear HN
  go_wp2_with fail
  refine HB0.out.mono ?_
  rintro e x1 ⟨p, c, rfl, y1, b1⟩
  have H1 := hide (HW0.out a x0 x1 _ L0.out b1.out y1.out)
  clear HB0 HW0 L0 y1 b1
  go_wp2_with fail
  refine H1.out.mono ?_
  rintro e x2 ⟨rfl, L1⟩
  have H2 := hide (HF1.out a x2 L1.out)
  clear H1 HF1 L1
  go_wp2_with fail
  refine H2.out.mono ?_
  rintro e x3 ⟨rfl, L2⟩
  have HB1 := hide (HB.out x3 2)
  clear HB H2
  go_wp2_with fail
  refine HB1.out.mono ?_
  rintro e x4 ⟨p2, c2, rfl, y2, b2⟩
  have H3 := hide (HW2.out a x3 x4 _ L2.out b2.out y2.out)
  clear HB1 HW2 L2 y2 b2
  go_wp2_with fail
  refine H3.out.mono ?_
  rintro e x5 ⟨rfl, L3⟩
  have H4 := hide (HC3.out a x5 L3.out)
  clear H3 HC3 L3
  go_wp2_with fail
  refine H4.out.mono ?_
  rintro e x6 ⟨rfl, L4⟩
  have H5 := hide (HR4.out a x6 L4.out)
  clear H4 HR4 L4
  go_wp2_with fail
  refine H5.out.mono ?_
  rintro e x7 ⟨g, o, c7, rfl, ⟨q0, q1, q2⟩, L5⟩
  have H6 := hide (HP4.out a x7 L5.out)
  clear H5 HP4 L5
  go_wp2_with fail
  refine H6.out.mono ?_
  rintro e x8 ⟨rfl, L6⟩
  have H7 := hide (HK4.out a x8 L6.out)
  clear H6 HK4 L6 q0 q1 q2
  go_wp2_with fail
  refine H7.out.mono ?_
  rintro e x9 ⟨rfl, L7⟩
  clear H7
  go_wp2
  go_ret
  exact ⟨rfl, L7.out⟩
end Go.Proofs.Yteacldkfdhhphaa
