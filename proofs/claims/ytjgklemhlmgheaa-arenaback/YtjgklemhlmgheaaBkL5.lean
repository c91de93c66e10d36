/- What ArenaBack needs over lists, and of the memory. -/
import Derived.Test.YtjgklemhlmgheaaVT5
import Derived.Test.YtjgklemhlmgheaaPQ5
set_option linter.unusedVariables false
set_option linter.unusedSimpArgs false
namespace Go.Proofs.Ytjgklemhlmgheaa
open Go.RowKit

/-- What has kids may hold them. -/
def HK (T : TR) : Prop := ∀ i, kidsAt T i ≠ [] → holdsL T i = true
theorem hk_of {T U : TR} (hn : ∀ i, nodeAt U i = nodeAt T i) (hk : ∀ i, kidsAt U i ≠ [] → holdsL T i = true) : HK U := fun i hi => by
  have := hk i hi
  unfold holdsL at this ⊢
  rw [hn i]
  exact this
theorem hk_new : HK newL := fun i hi => by
  exfalso
  apply hi
  cases i with
  | zero => rfl
  | succ i => exact kidsAt_out (by show 1 ≤ i + 1; omega)
theorem hk_push {T : TR} (h : HK T) (d : ND) : HK (pushL T d) := fun i hi => by
  rw [kids_push] at hi
  have hl : i < T.length := by
    rcases Nat.lt_or_ge i T.length with h1 | h1
    · exact h1
    · exact absurd (kidsAt_out h1) hi
  have h2 := h i hi
  unfold holdsL at h2 ⊢
  rw [node_pushL, if_pos hl]
  exact h2
theorem hk_make {T : TR} (h : HK T) (d : ND) : HK (makeL T d).1 := by
  unfold makeL
  split
  · exact hk_push h d
  · exact h
theorem hk_add {T : TR} (h : HK T) (n : Nat) (s : List UInt8) : HK (addL T n s) := fun i hi => by
  rw [kids_add] at hi
  have h2 := h i hi
  unfold holdsL at h2 ⊢
  rw [node_addL]
  split <;> exact h2
theorem out_kids {T : TR} (hW : WF T) (n i : Nat) (hi : kidsAt (outL T n) i ≠ []) : kidsAt T i ≠ [] := fun e => by
  rw [kids_out hW, e] at hi
  exact hi rfl
theorem hk_out {T : TR} (hW : WF T) (h : HK T) (n : Nat) : HK (outL T n) := hk_of (node_out T n) fun i hi => h i (out_kids hW n i hi)
theorem set_kids {T : TR} {p i : Nat} {ks : List Nat} (hp : p < T.length) (hi : kidsAt (setK T p ks) i ≠ []) : i = p ∨ kidsAt T i ≠ [] := by
  rw [kids_set T p ks hp] at hi
  split at hi
  · rename_i e; exact .inl e
  · exact .inr hi
theorem hk_act {T : TR} (hW : WF T) (h : HK T) (x : AV) : HK (actP T x).1 := by
  unfold actP
  split
  · exact hk_make h _
  split
  · exact hk_make h _
  split
  · exact hk_make h _
  split
  · show HK (copyL T x.a).1
    unfold copyL
    split
    · exact hk_make h _
    · exact h
  split
  · show HK (addZ T x.a x.s.data.toList).1
    unfold addZ
    split
    · split
      · exact hk_add h _ _
      · exact h
    · exact h
  split
  · show HK (appendZ T x.a x.b).1
    unfold appendZ
    split
    · rename_i hin
      split
      · rename_i hc
        simp only [Bool.and_eq_true] at hc
        refine hk_of (node_append T _ _) fun i hi => ?_
        rcases set_kids (by rw [out_len]; exact (inT_nat hin.1).1) hi with e | e
        · rw [e]; exact hc.1
        · exact h i (out_kids hW _ i e)
      · exact h
    · exact h
  split
  · show HK (beforeZ T x.a x.b).1
    unfold beforeZ
    split
    · rename_i hin
      cases hp : parentN T x.a.toNat with
      | none => exact h
      | some p =>
        simp only
        split
        · have hm := parent_some hp
          refine hk_of (node_before T _ _ _) fun i hi => ?_
          rcases set_kids (by rw [out_len]; exact kidsAt_lt hm) hi with e | e
          · rw [e]; exact h p (by intro e2; rw [e2] at hm; simp at hm)
          · exact h i (out_kids hW _ i e)
        · exact h
    · exact h
  split
  · show HK (removeZ T x.a).1
    unfold removeZ
    split
    · split
      · exact hk_out hW h _
      · exact h
    · exact h
  split
  · show HK (moveZ T x.a x.b).1
    unfold moveZ
    split
    · rename_i hin
      split
      · rename_i hc
        simp only [Bool.and_eq_true] at hc
        refine hk_of (node_move T _ _) fun i hi => ?_
        rw [kids_move T _ _ (inT_nat hin.1).1 (inT_nat hin.2).1] at hi
        split at hi
        · rename_i e; rw [e]; exact hc.1
        · split at hi
          · exact absurd rfl hi
          · exact h i hi
      · exact h
    · exact h
  · exact h
structure GoodK (N : Nat) (T : TR) : Prop where
  good : Good N T
  hk : HK T
theorem GoodK.up {N : Nat} {T : TR} (h : GoodK N T) : GoodK (N + 1) T := ⟨h.good.up, h.hk⟩
theorem goodk_new : GoodK 0 newL := ⟨good_new, hk_new⟩
theorem goodk_act {N : Nat} {T : TR} (h : GoodK N T) (x : AV) (hs : smallB x = true) : GoodK (N + 1) (actP T x).1 := ⟨good_act h.good x hs, hk_act h.good.wf h.hk x⟩

theorem up_out {T : TR} (hW : WF T) {n a b : Nat} (h : Up (outL T n) a b) : Up T a b := by
  induction h using Up.ind with
  | refl => exact .refl
  | step n p hm _ ih =>
    rw [kids_out hW] at hm
    exact .step (List.mem_filter.1 hm).1 ih
theorem not_up_out {T : TR} (hW : WF T) {p n q : Nat} (hn : n ∈ kidsAt T p) (hq : q = p ∨ (q ∈ kidsAt T p ∧ q ≠ n)) : ¬ Up (outL T n) n q := by
  obtain ⟨r, hr⟩ := hW.rank
  have h0 : ¬ Up (outL T n) n p := fun hu => by
    have h1 := up_rank hr (up_out hW hu)
    have h2 := hr p n hn
    omega
  rcases hq with rfl | ⟨hq, hne⟩
  · exact h0
  · intro hu
    rcases hu.part with hu1 | ⟨p2, hm, hu2⟩
    · exact hne hu1
    · rw [kids_out hW] at hm
      have e := hW.once _ _ _ (List.mem_filter.1 hm).1 hq
      subst e
      exact h0 hu2
theorem not_within_out {T : TR} (hW : WF T) {p n q : Nat} (hn : n ∈ kidsAt T p) (hq : q = p ∨ (q ∈ kidsAt T p ∧ q ≠ n)) : withinL (outL T n) q n = false := by
  have hl : q < (outL T n).length := by
    rw [out_len]
    rcases hq with rfl | ⟨hq, _⟩
    · exact kidsAt_lt hn
    · exact (hW.inb _ _ hq).2
  cases e : withinL (outL T n) q n with
  | false => rfl
  | true => exact absurd ((within_iff (hW.out n) hl).1 e) (not_up_out hW hn hq)
theorem back_ap {T : TR} (hW : WF T) (hK : HK T) {p n : Nat} {a : List Nat} (hk : kidsAt T p = a ++ [n]) : appendZ (outL T n) (p : Int) (n : Int) = (T, 0) := by
  have hm : n ∈ kidsAt T p := by rw [hk]; simp
  have hp := kidsAt_lt hm
  have hb := hW.inb _ _ hm
  have hh : holdsL (outL T n) p = true := by
    have := hK p (by rw [hk]; simp)
    unfold holdsL at this ⊢
    rw [node_out]
    exact this
  have i1 : inT (outL T n) (p : Int) := by unfold inT; rw [out_len]; omega
  have i2 : inT (outL T n) (n : Int) := by unfold inT; rw [out_len]; omega
  unfold appendZ
  rw [if_pos ⟨i1, i2⟩, Int.toNat_natCast, Int.toNat_natCast, hh, not_within_out hW hm (.inl rfl), show ((n : Int) == 0) = false from beq_eq_false_iff_ne.2 (by omega), back_append hW hk]
  rfl
theorem back_be {T : TR} (hW : WF T) {p n x : Nat} {a b : List Nat} (hk : kidsAt T p = a ++ n :: x :: b) : beforeZ (outL T n) (x : Int) (n : Int) = (T, 0) := by
  have hm : n ∈ kidsAt T p := by rw [hk]; simp
  have hx : x ∈ kidsAt T p := by rw [hk]; simp
  have hb := hW.inb _ _ hm
  have hbx := hW.inb _ _ hx
  have hne : x ≠ n := by
    intro e
    have := hW.nodup p
    rw [hk, e] at this
    exact (List.nodup_cons.1 (List.nodup_append.1 this).2.1).1 (by simp)
  have hxo : x ∈ kidsAt (outL T n) p := by
    rw [kids_out hW, List.mem_filter]
    exact ⟨hx, by simp [hne]⟩
  have i1 : inT (outL T n) (x : Int) := by unfold inT; rw [out_len]; omega
  have i2 : inT (outL T n) (n : Int) := by unfold inT; rw [out_len]; omega
  unfold beforeZ
  rw [if_pos ⟨i1, i2⟩, Int.toNat_natCast, Int.toNat_natCast, (hW.out n).parent hxo, not_within_out hW hm (.inr ⟨hx, hne⟩), show ((n : Int) == 0) = false from beq_eq_false_iff_ne.2 (by omega)]
  show (beforeL (outL T n) p x n, (0 : Int)) = (T, 0)
  rw [back_before hW hk]
theorem back_at {T : TR} (hW : WF T) (hK : HK T) {p n i : Nat} (hi : i < (kidsAt T p).length) (he : (kidsAt T p)[i] = n) :
    removeZ T (n : Int) = (outL T n, 0) ∧ appendZ T (n : Int) 0 = (T, 1) ∧ (∀ h : i + 1 < (kidsAt T p).length, beforeZ (outL T n) ((kidsAt T p)[i + 1] : Int) (n : Int) = (T, 0)) ∧ (¬ i + 1 < (kidsAt T p).length → appendZ (outL T n) (p : Int) (n : Int) = (T, 0)) := by
  have hm : n ∈ kidsAt T p := by rw [← he]; exact List.getElem_mem hi
  have hb := hW.inb _ _ hm
  have hp := hW.parent hm
  have hs : kidsAt T p = (kidsAt T p).take i ++ n :: (kidsAt T p).drop (i + 1) := by
    rw [← he, ← List.drop_eq_getElem_cons hi, List.take_append_drop]
  have i1 : inT T (n : Int) := by unfold inT; omega
  have i2 : inT T (0 : Int) := by unfold inT; omega
  refine ⟨?_, ?_, fun h => ?_, fun h => ?_⟩
  · unfold removeZ
    rw [if_pos i1, Int.toNat_natCast, hp]
    rfl
  · unfold appendZ
    rw [if_pos ⟨i1, i2⟩]
    simp
  · refine back_be hW (p := p) (a := (kidsAt T p).take i) (b := (kidsAt T p).drop (i + 1 + 1)) ?_
    rw [← List.drop_eq_getElem_cons h]
    exact hs
  · refine back_ap hW hK (a := (kidsAt T p).take i) ?_
    rw [List.drop_eq_nil_of_le (by omega)] at hs
    exact hs
theorem remove_none {T : TR} {z : Int} (h : parentZ T z = -1) : removeZ T z = (T, 1) ∨ removeZ T z = (T, 2) := by
  unfold removeZ
  by_cases hi : inT T z
  · rw [if_pos hi]
    have : parentN T z.toNat = none := by
      unfold parentZ inT at *
      rw [if_neg (by omega)] at h
      cases e : parentN T z.toNat with
      | none => rfl
      | some q =>
        exfalso
        rw [e] at h
        have h2 : (q : Int) = -1 := h
        omega
    rw [this]
    exact .inl rfl
  · rw [if_neg hi]
    exact .inr rfl
theorem parentZ_cases {T : TR} (hW : WF T) (z : Int) : parentZ T z = -1 ∨ ∃ n p i : Nat, z = (n : Int) ∧ parentZ T z = (p : Int) ∧ p < T.length ∧ n < T.length ∧ ∃ h : i < (kidsAt T p).length, (kidsAt T p)[i] = n := by
  unfold parentZ
  by_cases h0 : z < 0
  · rw [if_pos h0]; exact .inl rfl
  · rw [if_neg h0]
    cases e : parentN T z.toNat with
    | none => exact .inl rfl
    | some p =>
      have hm := parent_some e
      obtain ⟨i, hi, he⟩ := List.getElem_of_mem hm
      exact .inr ⟨z.toNat, p, i, by omega, rfl, kidsAt_lt hm, (hW.inb _ _ hm).2, hi, he⟩

/-- The arena is T, what lies in the blocks from s0 up to s2 stays as it was in y. -/
structure Bk (n0 s0 s2 : Nat) (w0 y : World) (pb : Nat) (W : World) (T : TR) : Prop where
  own : PT (fun k => (n0 ≤ k ∧ k < s0) ∨ (s2 ≤ k ∧ k < W.heap.size)) W pb T
  bel : Below n0 w0 W
  keep : ∀ k, s0 ≤ k → k < s2 → W.heap[k]? = y.heap[k]?
  hs : s2 ≤ W.heap.size
  h0 : n0 ≤ s0
  h2 : s0 ≤ s2
theorem Bk.start {n0 : Nat} {w0 wr y : World} {pb : Nat} {T : TR} (h : Liv n0 w0 wr pb T) (hb : Below wr.heap.size wr y) : Bk n0 wr.heap.size y.heap.size w0 y pb y T :=
  ⟨(PT.below h.own hb).mono fun k hk => .inl hk, h.bel.trans (hb.mono h.hn), fun _ _ _ => rfl, Nat.le_refl _, h.hn, hb.size⟩
theorem Bk.on {n0 s0 s2 : Nat} {w0 y : World} {pb : Nat} {W W' : World} {T : TR} (h : Bk n0 s0 s2 w0 y pb W T) (hb : Below W.heap.size W W') : Bk n0 s0 s2 w0 y pb W' T := by
  have h1 := h.h0
  have h2 := h.h2
  have h3 := h.hs
  have h4 := hb.size
  exact ⟨(PT.below h.own hb).mono fun k hk => hk.imp id fun hk => ⟨hk.1, by omega⟩, h.bel.trans (hb.mono (by omega)), fun k a b => (hb.block k (by omega)).trans (h.keep k a b), by omega, h1, h2⟩
theorem Bk.step {n0 s0 s2 : Nat} {w0 y : World} {pb : Nat} {W W' : World} {T r : TR} (h : Bk n0 s0 s2 w0 y pb W T) (hp : PT (andNew (fun k => (n0 ≤ k ∧ k < s0) ∨ (s2 ≤ k ∧ k < W.heap.size)) W.heap.size) W' pb r) (hb : ButA (fun k => (n0 ≤ k ∧ k < s0) ∨ (s2 ≤ k ∧ k < W.heap.size)) W W') : Bk n0 s0 s2 w0 y pb W' r := by
  have h1 := h.h0
  have h2 := h.h2
  have h3 := h.hs
  have h4 := hb.size
  refine ⟨hp.tight.mono fun k hk => ?_, h.bel.trans (hb.below (fun k hk => ?_) (by omega)), fun k a b => (hb.block k (by omega) fun hk => ?_).trans (h.keep k a b), by omega, h1, h2⟩
  · obtain ⟨hk1, hk2⟩ := hk
    rcases hk1 with hk1 | hk1
    · exact hk1.imp id fun hk => ⟨hk.1, hk2⟩
    · exact .inr ⟨by omega, hk2⟩
  · omega
  · omega
theorem bk_remove {n0 s0 s2 : Nat} {w0 y : World} {pb : Nat} {W : World} {T : TR} (hW : WF T) (hz : T.length ≤ 1000000) (z : Int) (h : Bk n0 s0 s2 w0 y pb W T) :
    Calls Try.prog 24 #[.pointer (some ⟨pb, 0, none⟩), .int .i64 z] W fun e w' => e = .returned (.int .i64 (removeZ T z).2) ∧ Bk n0 s0 s2 w0 y pb w' (removeZ T z).1 :=
  (remove_p hW hz z h.own).mono fun e w' ⟨a, b, c⟩ => ⟨a, h.step b c⟩
theorem bk_append {n0 s0 s2 : Nat} {w0 y : World} {pb : Nat} {W : World} {T : TR} (hW : WF T) (hz : T.length ≤ 1000000) (zp zc : Int) (h : Bk n0 s0 s2 w0 y pb W T) :
    Calls Try.prog 26 #[.pointer (some ⟨pb, 0, none⟩), .int .i64 zp, .int .i64 zc] W fun e w' => e = .returned (.int .i64 (appendZ T zp zc).2) ∧ Bk n0 s0 s2 w0 y pb w' (appendZ T zp zc).1 :=
  (append_p hW hz zp zc h.own).mono fun e w' ⟨a, b, c⟩ => ⟨a, h.step b c⟩
theorem bk_before {n0 s0 s2 : Nat} {w0 y : World} {pb : Nat} {W : World} {T : TR} (hW : WF T) (hz : T.length ≤ 1000000) (zp zc : Int) (h : Bk n0 s0 s2 w0 y pb W T) :
    Calls Try.prog 25 #[.pointer (some ⟨pb, 0, none⟩), .int .i64 zp, .int .i64 zc] W fun e w' => e = .returned (.int .i64 (beforeZ T zp zc).2) ∧ Bk n0 s0 s2 w0 y pb w' (beforeZ T zp zc).1 :=
  (before_p hW hz zp zc h.own).mono fun e w' ⟨a, b, c⟩ => ⟨a, h.step b c⟩
theorem Bk.cell {n0 s0 s2 : Nat} {w0 y : World} {pb : Nat} {W : World} {T : TR} (h : Bk n0 s0 s2 w0 y pb W T) {b o : Nat} {v : Value} (hc : y.cell? ⟨b, o, none⟩ = some v) (h1 : s0 ≤ b) (h2 : b < s2) : W.cell? ⟨b, o, none⟩ = some v := by
  rw [World.cell?_of_block (a := ⟨b, o, none⟩) (h.keep b h1 h2)]
  exact hc
theorem Bk.node {n0 s0 s2 : Nat} {w0 y : World} {pb : Nat} {W : World} {T : TR} {j : Nat} {t : NT j} {vs : List Value} (h : Bk n0 s0 s2 w0 y pb W T) (hN : IsN (fun k => s0 ≤ k ∧ k < s2) y t vs) : IsN (fun k => s0 ≤ k ∧ k < s2) W t vs := hN.on fun k hk => h.keep k hk.1 hk.2
theorem bk_same {n0 s0 s2 : Nat} {w0 y : World} {pb : Nat} {W : World} {T : TR} {j : Nat} {t : NT j} {va vs : List Value} (ht : OkT t) (h : Bk n0 s0 s2 w0 y pb W T) {B : Nat → Prop} (hB : ∀ k, B k → k < W.heap.size) (hA : IsN B W t va) (hN : IsN (fun k => s0 ≤ k ∧ k < s2) y t vs) :
    Calls Try.prog 14 #[.agg va.toArray, .agg vs.toArray] W fun e w' => e = .returned (.bool true) ∧ Below W.heap.size W w' :=
  same_any t ht (fun k => k < W.heap.size) va vs W (fun k hk => hk) (hA.mono hB) ((h.node hN).mono fun k hk => by have := h.hs; omega)
theorem kids_row {w : World} {B n : Nat} {v : Value} {l : List Nat} (h : w.ownsRow B 3 1 v n (intCells l)) (hl : 0 < l.length) : ∃ g o cap, v = .slice (some ⟨g, o, none⟩) n cap ∧ B ≤ g ∧ g < w.heap.size ∧ ∀ j (hj : j < l.length), w.cell? ⟨g, o + j, none⟩ = some (.int .i64 (l[j] : Int)) := by
  have hI := owns_isI h
  obtain ⟨a, c, rfl⟩ := owns_form h
  obtain ⟨b, o, rfl, hc⟩ := hI.at hl
  refine ⟨b, o, c, rfl, ?_, cell_lt (hc 0 hl), hc⟩
  rcases h.2 with h2 | ⟨g, cap, cur, e, h2, _⟩
  · have := h2.1
    cases this
  · injection e with e1
    injection e1 with e1
    injection e1 with e1
    subst e1
    exact h2
/-- A node in a box of its own. -/
structure Box (s0 s2 : Nat) (y : World) (q : Nat) {j : Nat} (t : NT j) (vs : List Value) : Prop where
  lo : s0 ≤ q
  hi : q < s2
  cells : ∀ i, y.cell? ⟨q, i, none⟩ = vs[i]?
  node : IsN (fun k => s0 ≤ k ∧ k < s2) y t vs
theorem Box.new {wr y : World} {j : Nat} {t : NT j} {vs : List Value} (b : Below wr.heap.size wr y) (hN : IsN (fun k => wr.heap.size ≤ k) y t vs) (ty : TypeId) : Box wr.heap.size (y.alloc (.cells vs.toArray ty)).heap.size (y.alloc (.cells vs.toArray ty)) y.heap.size t vs := by
  have hs := b.size
  have hz : (y.alloc (.cells vs.toArray ty)).heap.size = y.heap.size + 1 := by simp
  refine ⟨hs, by omega, fun i => ?_, ?_⟩
  · exact (Kept.new y vs ty).1 i
  · refine IsN.keep (fun k hk => Below.heap_alloc _ _ _ hk.2) (fun k hk => ⟨hk.1, by omega⟩) _ _ (IsN.tight _ _ hN)
theorem Box.on {s0 s2 s1 s3 : Nat} {y Y : World} {q : Nat} {j : Nat} {t : NT j} {vs : List Value} (h : Box s0 s2 y q t vs) (hb : Below y.heap.size y Y) (h2 : s2 ≤ y.heap.size) (h1 : s1 ≤ s0) (h3 : s2 ≤ s3) : Box s1 s3 Y q t vs := by
  have a1 := h.lo
  have a2 := h.hi
  refine ⟨by omega, by omega, fun i => ?_, IsN.keep (fun k hk => hb.block k (by omega)) (fun k hk => ⟨by omega, by omega⟩) _ _ h.node⟩
  rw [World.cell?_of_block (a := ⟨q, i, none⟩) (hb.block q (by omega))]
  exact h.cells i
theorem Box.six {n0 s0 s2 : Nat} {w0 y : World} {pb : Nat} {W : World} {T : TR} {q : Nat} {j : Nat} {t : NT j} {v0 v1 v2 v3 v4 v5 : Value} (h : Box s0 s2 y q t [v0, v1, v2, v3, v4, v5]) (hb : Bk n0 s0 s2 w0 y pb W T) :
    W.cell? ⟨q, 0, none⟩ = some v0 ∧ W.cell? ⟨q, 1, none⟩ = some v1 ∧ W.cell? ⟨q, 2, none⟩ = some v2 ∧ W.cell? ⟨q, 3, none⟩ = some v3 ∧ W.cell? ⟨q, 4, none⟩ = some v4 ∧ W.cell? ⟨q, 5, none⟩ = some v5 :=
  ⟨hb.cell (h.cells 0) h.lo h.hi, hb.cell (h.cells 1) h.lo h.hi, hb.cell (h.cells 2) h.lo h.hi, hb.cell (h.cells 3) h.lo h.hi, hb.cell (h.cells 4) h.lo h.hi, hb.cell (h.cells 5) h.lo h.hi⟩
theorem Bk.startA {n0 : Nat} {w0 wr y : World} {pb : Nat} {T : TR} (h : Liv n0 w0 wr pb T) (hb : Below wr.heap.size wr y) (o : Obj) : Bk n0 wr.heap.size (y.alloc o).heap.size w0 (y.alloc o) pb (y.alloc o) T := Bk.start h (hb.trans ((below_alloc y o).mono hb.size))
end Go.Proofs.Ytjgklemhlmgheaa
