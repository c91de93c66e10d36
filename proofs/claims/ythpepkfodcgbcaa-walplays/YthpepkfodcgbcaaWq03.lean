import Derived.Test.YthpepkfodcgbcaaWq02
import Derived.Deep.RegionLaw
/- What the statements' own model answers. -/
set_option linter.unusedVariables false
set_option linter.unusedSimpArgs false
set_option maxRecDepth 40000
namespace Go.Proofs.Ythpepkfodcgbcaa
open Go.RowKit

def modelD (d : DM) (a : AV) : DM × Int := if a.kind = 1 then writeD d a.n (acB a) else if a.kind = 2 then flushD d else if a.kind = 3 then (armD d a.n, 0) else if a.kind = 4 then (crashD d a.keep, 0) else if a.kind = 5 then (d, (readD d a.n).2) else (d, 0)
/-- What is behind a call that answers a disk, as values. -/
def ModD (w : World) (R : DM × Int) (T : Value → Ending) (e : Ending) (x : World) : Prop := ∃ (A0 A1 : Option Addr) (N0 N1 D0 D1 : Nat) (lf : Int) (fu of : Bool), e = T (.agg #[.slice A0 N0 D0, .slice A1 N1 D1, .int .i64 lf, .bool fu, .bool of]) ∧ Hid (∀ v0 v1 v2 v3 v4, DiskR w R (.returned (.tuple #[.agg #[.slice A0 N0 D0, .slice A1 N1 D1, .int .i64 lf, .bool fu, .bool of], .int .i64 R.2])) (set5 x (w.heap.size + 2) v0 v1 v2 v3 v4)) ∧ x.heap[w.heap.size + 2]? = some (.cells (dkC zeroDV) 31 (0, 0))
end Go.Proofs.Ythpepkfodcgbcaa
/- Disks over lists: whole or not; the power. No program in it. -/
set_option linter.unusedVariables false
set_option linter.unusedSimpArgs false
namespace Go.Proofs.Ythpepkfodcgbcaa

/-! Whole or not: behind a crash each sector is as it was safe, or as a piece laid it. -/
theorem crash_each : ∀ (l : List (Nat × Bs)) (k : List Bool) (s : List Bs) (j : Nat) (hj : j < s.length), (crashL s l k)[j]? = s[j]? ∨ ∃ p ∈ l, p.1 = j ∧ (crashL s l k)[j]? = some p.2
  | [], _, s, j, hj => by cases ‹List Bool› <;> exact .inl rfl
  | p :: r, [], s, j, hj => .inl rfl
  | p :: r, b :: k, s, j, hj => by
    have hlen : (if b then putS s p else s).length = s.length := by cases b <;> simp [putS]
    rcases crash_each r k (if b then putS s p else s) j (by omega) with h | ⟨q, hq, h1, h2⟩
    · show (crashL (if b then putS s p else s) r k)[j]? = _ ∨ _
      cases b
      · exact .inl h
      · by_cases hp : p.1 = j
        · refine .inr ⟨p, List.mem_cons_self .., hp, ?_⟩
          show (crashL (putS s p) r k)[j]? = _
          rw [show (crashL (putS s p) r k)[j]? = (putS s p)[j]? from h]
          unfold putS
          rw [List.getElem?_set, if_pos hp, if_pos (by omega)]
        · refine .inl ?_
          show (crashL (putS s p) r k)[j]? = _
          rw [show (crashL (putS s p) r k)[j]? = (putS s p)[j]? from h, put_other hp]
    · exact .inr ⟨q, List.mem_cons_of_mem _ hq, h1, h2⟩
/-- All kept: as it is. -/
theorem crash_all : ∀ (l : List (Nat × Bs)) (k : List Bool) (s : List Bs), l.length ≤ k.length → (∀ i, i < l.length → k[i]? = some true) → crashL s l k = nowL s l
  | [], _, s, _, _ => by cases ‹List Bool› <;> rfl
  | p :: r, [], s, h, _ => by simp at h
  | p :: r, b :: k, s, h, hk => by
    have hb : b = true := by
      have := hk 0 (by simp)
      simpa using this
    subst hb
    show crashL (putS s p) r k = nowL (putS s p) r
    exact crash_all r k _ (by simpa using h) fun i hi => by
      have := hk (i + 1) (by simp; omega)
      simpa using this
/-- A write lays its own pieces: behind it each of them is there. -/
theorem now_last (s : List Bs) (l : List (Nat × Bs)) (n : Nat) (b : Bs) (i : Nat) (hi : i < 4) (hn : n * 4 + 4 ≤ s.length) : (nowL s (l ++ piecesL n b))[n * 4 + i]? = some (cutB b i) := by
  have e : nowL s (l ++ piecesL n b) = nowL (nowL s l) (piecesL n b) := by
    unfold nowL
    rw [List.foldl_append]
  have hl : (nowL s l).length = s.length := nowL_len l s
  rw [e]
  have key : nowL (nowL s l) (piecesL n b) = ((((nowL s l).set (n * 4 + 0) (cutB b 0)).set (n * 4 + 1) (cutB b 1)).set (n * 4 + 2) (cutB b 2)).set (n * 4 + 3) (cutB b 3) := rfl
  rw [key]
  rcases (by omega : i = 0 ∨ i = 1 ∨ i = 2 ∨ i = 3) with rfl | rfl | rfl | rfl <;> simp [List.getElem?_set] <;> omega
/-- Writes, one behind the other. -/
def writesL (d : DM) : List (Nat × Bs) → DM
  | [] => d
  | p :: r => writesL { d with l := d.l ++ piecesL p.1 p.2 } r
def flatP (ws : List (Nat × Bs)) : List (Nat × Bs) := ws.flatMap fun p => piecesL p.1 p.2
theorem writes_is : ∀ (ws : List (Nat × Bs)) (d : DM), writesL d ws = { d with l := d.l ++ flatP ws }
  | [], d => by
    show d = _
    unfold flatP
    simp
  | p :: r, d => by
    show writesL _ r = _
    rw [writes_is r]
    unfold flatP
    simp
/-- Behind a crash each sector is as it was, or as one of the writes laid it. -/
theorem whole_or_not (s : List Bs) (ws : List (Nat × Bs)) (hw : ∀ p ∈ ws, p.1 * 4 + 4 ≤ s.length) (k : List Bool) (j : Nat) (hj : j < s.length) : (crashL s (flatP ws) k)[j]? = s[j]? ∨ ∃ i, i < ws.length ∧ (crashL s (flatP ws) k)[j]? = (nowL s (flatP (ws.take (i + 1))))[j]? := by
  rcases crash_each (flatP ws) k s j hj with h | ⟨p, hp, h1, h2⟩
  · exact .inl h
  · right
    unfold flatP at hp
    obtain ⟨q, hq, hpq⟩ := List.mem_flatMap.1 hp
    obtain ⟨i, hi, rfl⟩ := List.getElem_of_mem hq
    obtain ⟨c, hc, rfl⟩ := mem_pieces hpq
    refine ⟨i, hi, ?_⟩
    rw [h2]
    have e : flatP (ws.take (i + 1)) = flatP (ws.take i) ++ piecesL ws[i].1 ws[i].2 := by
      unfold flatP
      rw [List.take_succ_eq_append_getElem hi, List.flatMap_append]
      simp
    rw [e, ← h1]
    exact (now_last s (flatP (ws.take i)) ws[i].1 ws[i].2 c hc (hw _ (List.getElem_mem hi))).symm
/-! The power. -/
theorem spend_fuse {d : DM} (hf : d.fuse = true) (ho : d.off = false) (hl : 0 < d.left) : spendD d = ({ d with left := d.left - 1 }, true) := by
  unfold spendD
  rw [ho, hf, Bool.false_or, Bool.true_and, decide_eq_false (by omega), if_neg (by simp), if_pos rfl]
theorem spend_out {d : DM} (hf : d.fuse = true) (hl : d.left = 0) : spendD d = ({ d with off := true, fuse := false }, false) := by
  unfold spendD
  rw [hf, hl]
  simp
theorem spend_off {d : DM} (ho : d.off = true) : spendD d = ({ d with off := true, fuse := false }, false) := by
  unfold spendD
  rw [ho]
  simp
end Go.Proofs.Ythpepkfodcgbcaa
/- What a disk of the program's writes to: a set of blocks; rows of bytes beside it. No function of the program in it. -/
set_option linter.unusedVariables false
set_option linter.unusedSimpArgs false
set_option maxRecDepth 4000
namespace Go.Proofs.Ythpepkfodcgbcaa
open Go.RowKit

/-- Nothing is written but blocks of A and what is new. -/
structure ButA (A : Nat → Prop) (w w' : World) : Prop where
  os : w'.os = w.os
  tape : w'.tape = w.tape
  output : w'.output = w.output
  size : w.heap.size ≤ w'.heap.size
  block : ∀ k, k < w.heap.size → ¬ A k → w'.heap[k]? = w.heap[k]?
theorem ButA.refl (A : Nat → Prop) (w : World) : ButA A w w := ⟨rfl, rfl, rfl, Nat.le_refl _, fun _ _ _ => rfl⟩
theorem ButA.of {A : Nat → Prop} {w w' : World} (h : Below w.heap.size w w') : ButA A w w' := ⟨h.os, h.tape, h.output, h.size, fun k hk _ => h.block k hk⟩
theorem ButA.trans {A B : Nat → Prop} {w w1 w2 : World} (h : ButA A w w1) (k : ButA B w1 w2) (hB : ∀ j, j < w.heap.size → B j → A j) : ButA A w w2 :=
  ⟨k.os.trans h.os, k.tape.trans h.tape, k.output.trans h.output, Nat.le_trans h.size k.size, fun j hj hn => (k.block j (Nat.lt_of_lt_of_le hj h.size) (fun hb => hn (hB j hj hb))).trans (h.block j hj hn)⟩
theorem ButA.below {A : Nat → Prop} {n : Nat} {w w' : World} (h : ButA A w w') (hn : ∀ k, A k → n ≤ k) (hs : n ≤ w.heap.size) : Below n w w' := ⟨h.os, h.tape, h.output, h.size, fun k hk => h.block k (by omega) (fun ha => by have := hn k ha; omega)⟩
theorem ButA.setCell {A : Nat → Prop} {w w' : World} (h : ButA A w w') {a : Addr} (ha : A a.block ∨ w.heap.size ≤ a.block) (v : Value) : ButA A w (w'.setCell a v) :=
  ⟨h.os, h.tape, h.output, by have := h.size; simp [World.setCell]; omega, fun k hk hn => (Below.heap_setCell _ _ _ _ (fun e => by subst e; rcases ha with ha | ha; exact hn ha; omega)).trans (h.block k hk hn)⟩
theorem ButA.drew {A : Nat → Prop} {w w' : World} (h : ButA A w w') : ButA A w w'.drew := ⟨h.os, h.tape, h.output, h.size, h.block⟩
theorem ButA.mono {A B : Nat → Prop} {w w' : World} (h : ButA A w w') (hm : ∀ k, A k → B k) : ButA B w w' := ⟨h.os, h.tape, h.output, h.size, fun k hk hn => h.block k hk fun ha => hn (hm k ha)⟩
/-- A list's block is none of A. -/
def Off (A : Nat → Prop) (v : Value) : Prop := ∀ k, v.ownBlock = some k → ¬ A k
def Grew (A A' : Nat → Prop) (n : Nat) : Prop := ∀ k, A' k → A k ∨ n ≤ k
theorem Grew.refl (A : Nat → Prop) (n : Nat) : Grew A A n := fun k h => .inl h
theorem Grew.trans {A B C : Nat → Prop} {n m : Nat} (h : Grew A B n) (k : Grew B C m) (hm : n ≤ m) : Grew A C n := fun j hj => (k j hj).elim (fun hb => h j hb) (fun h2 => .inr (by omega))
theorem cell_blk {w W : World} {b : Nat} (h : W.heap[b]? = w.heap[b]?) (o : Nat) : W.cell? ⟨b, o, none⟩ = w.cell? ⟨b, o, none⟩ := by simp [World.cell?, h]
theorem frozen_blk {w W : World} {b : Nat} (h : W.heap[b]? = w.heap[b]?) (o : Nat) : W.frozen? ⟨b, o, none⟩ = w.frozen? ⟨b, o, none⟩ := by simp [World.frozen?, h]
theorem IsY.keep {w W : World} {v : Value} {l : Bs} (h : IsY w v l) (hk : ∀ k, v.ownBlock = some k → W.heap[k]? = w.heap[k]?) : IsY W v l := by
  rcases h with h | ⟨b, o, cap, rfl, hc, hh⟩
  · exact .inl h
  · exact .inr ⟨b, o, cap, rfl, hc, fun j hj => (cell_blk (hk b rfl) _).trans (hh j hj)⟩
theorem IsF.keep {w W : World} {v : Value} {l : List Bool} (h : IsF w v l) (hk : ∀ k, v.ownBlock = some k → W.heap[k]? = w.heap[k]?) : IsF W v l := by
  rcases h with h | ⟨b, o, cap, rfl, hh⟩
  · exact .inl h
  · exact .inr ⟨b, o, cap, rfl, fun j hj => (cell_blk (hk b rfl) _).trans (hh j hj)⟩
theorem IsW.butA {w W : World} {v : Value} {l : List Bs} {A : Nat → Prop} (h : IsW w v l) (hn : ∀ k, A k → NoStr w k) (hb : ButA A w W) : IsW W v l := by
  rcases h with h | ⟨b, o, cap, rfl, hh⟩
  · exact .inl h
  · refine .inr ⟨b, o, cap, rfl, fun j hj => ?_⟩
    have h1 := hh j hj
    exact (cell_blk (hb.block b (cell_lt h1) (fun ha => hn b ha _ _ h1)) _).trans h1
theorem IsP.butA {w W : World} {v : Value} {l : List (Nat × Bs)} {A : Nat → Prop} (h : IsP w v l) (hn : ∀ k, A k → NoStr w k) (hb : ButA A w W) : IsP W v l := by
  rcases h with h | ⟨b, o, cap, rfl, hh⟩
  · exact .inl h
  · refine .inr ⟨b, o, cap, rfl, fun j hj => ?_⟩
    obtain ⟨h1, h2⟩ := hh j hj
    have hk := hb.block b (cell_lt h2) (fun ha => hn b ha _ _ h2)
    exact ⟨(cell_blk hk _).trans h1, (cell_blk hk _).trans h2⟩
theorem IsD.butA {w W : World} {d : DV} {A : Nat → Prop} (h : IsD w d) (hn : ∀ k, A k → NoStr w k) (hb : ButA A w W) : IsD W d := ⟨h.s.butA hn hb, h.l.butA hn hb⟩
theorem read_len {d : DM} (hok : OkD d) (hs : d.safe.length ≤ 100000) (n : Int) : (readD d n).1.length ≤ 100000000 := by
  unfold readD
  split
  · split
    · decide
    · have h1 := read_64 (l := nowD d) (now_64 _ hok.safe hok.len) (n.toNat * 4) 4
      rw [show (nowD d).length = d.safe.length from nowL_len _ _] at h1
      show (((nowD d).drop (n.toNat * 4)).take 4).flatten.length ≤ _
      omega
  · decide
/-- A disk whose lists and numbers are not too great. -/
structure Fit (d : DM) : Prop where
  ok : OkD d
  s : d.safe.length ≤ 100000
  l : d.l.length ≤ 100000
  left : 0 ≤ d.left ∧ d.left ≤ 9223372036854775807
/-- A row of bytes in a block from B on that may be written. -/
def NewY (B : Nat) (w : World) (v : Value) (l : Bs) : Prop := (l = [] ∧ v = .slice none 0 0) ∨ ∃ b o cap, v = .slice (some ⟨b, o, none⟩) l.length cap ∧ B ≤ b ∧ b < w.heap.size ∧ l.length ≤ cap ∧ (∀ j (hj : j < l.length), w.cell? ⟨b, o + j, none⟩ = some (.int .u8 (l[j].toNat : Int))) ∧ ∀ j, j < l.length → w.frozen? ⟨b, o + j, none⟩ = false
theorem NewY.isY {B : Nat} {w : World} {v : Value} {l : Bs} (h : NewY B w v l) : IsY w v l := by
  rcases h with ⟨h, rfl⟩ | ⟨b, o, cap, rfl, _, _, hc, hh, _⟩
  · exact .inl ⟨h, _, _, rfl⟩
  · exact .inr ⟨b, o, cap, rfl, hc, hh⟩
theorem NewY.form {B : Nat} {w : World} {v : Value} {l : Bs} (h : NewY B w v l) : ∃ a c, v = .slice a l.length c := h.isY.form
theorem NewY.blk {B : Nat} {w : World} {v : Value} {l : Bs} (h : NewY B w v l) : ∀ k, v.ownBlock = some k → B ≤ k ∧ k < w.heap.size := by
  rcases h with ⟨h, rfl⟩ | ⟨b, o, cap, rfl, hb, hb2, _⟩
  · intro k hk; cases hk
  · intro k hk; cases hk; exact ⟨hb, hb2⟩
theorem NewY.keep {B : Nat} {w W : World} {v : Value} {l : Bs} (h : NewY B w v l) (hs : w.heap.size ≤ W.heap.size) (hk : ∀ k, v.ownBlock = some k → W.heap[k]? = w.heap[k]?) : NewY B W v l := by
  rcases h with h | ⟨b, o, cap, rfl, hb, hb2, hc, hh, hf⟩
  · exact .inl h
  · exact .inr ⟨b, o, cap, rfl, hb, by omega, hc, fun j hj => (cell_blk (hk b rfl) _).trans (hh j hj), fun j hj => (frozen_blk (hk b rfl) _).trans (hf j hj)⟩
theorem NewY.below {B : Nat} {w W : World} {v : Value} {l : Bs} (h : NewY B w v l) (hb : Below w.heap.size w W) : NewY B W v l := h.keep hb.size fun k hk => hb.block k (h.blk k hk).2
theorem NewY.base {B C : Nat} {w : World} {v : Value} {l : Bs} (h : NewY B w v l) (hc : C ≤ B) : NewY C w v l := by
  rcases h with h | ⟨b, o, cap, e, hb, r⟩
  · exact .inl h
  · exact .inr ⟨b, o, cap, e, by omega, r⟩
theorem NewY.at_ {B : Nat} {w : World} {a : Option Addr} {n c : Nat} {l : Bs} (h : NewY B w (.slice a n c) l) (i : Nat) (hi : i < l.length) (x : UInt8) :
    ∃ g o, a = some ⟨g, o, none⟩ ∧ n = l.length ∧ B ≤ g ∧ g < w.heap.size ∧ w.cell? ⟨g, o + i, none⟩ = some (.int .u8 (l[i].toNat : Int)) ∧ w.frozen? ⟨g, o + i, none⟩ = false ∧ NewY B (w.setCell ⟨g, o + i, none⟩ (.int .u8 (x.toNat : Int))) (.slice a n c) (l.set i x) := by
  rcases h with ⟨h, _⟩ | ⟨g, o, cap, e, hb, hb2, hc, hh, hf⟩
  · subst h; simp at hi
  · injection e with e1 e2 e3
    subst e1 e2 e3
    refine ⟨g, o, rfl, rfl, hb, hb2, hh i hi, hf i hi, .inr ⟨g, o, c, by simp, hb, by simpa [World.setCell] using hb2, by simpa using hc, fun j hj => ?_, fun j hj => ?_⟩⟩
    · have hj2 : j < l.length := by simpa using hj
      have h1 := hh j hj2
      have h2 := hh i hi
      by_cases hij : i = j
      · subst hij
        rw [List.getElem_set_self]
        exact World.cell?_setCell_same _ _ _ h2
      · rw [List.getElem_set_ne hij]
        exact (World.cell?_setCell_other _ _ _ _ (by intro e; injection e; omega)).trans h1
    · have hj2 : j < l.length := by simpa using hj
      rw [World.frozen?_setCell]; exact hf j hj2
theorem owns_newY {w : World} {B : Nat} {v : Value} {l : Bs} (h : w.ownsRow B 5 1 v l.length (bytesV l)) : NewY B w v l := by
  rcases h.2 with ⟨rfl, h0⟩ | ⟨g, cap, cur, rfl, hb, hg, hn, hm, hs, ht⟩
  · exact .inl ⟨List.eq_nil_of_length_eq_zero h0, rfl⟩
  · exact .inr ⟨g, 0, cap, rfl, hb, (Array.getElem?_eq_some_iff.1 hg).1, hn, own_cells h, fun j hj => by rw [Nat.zero_add]; exact h.frozenAt j⟩
end Go.Proofs.Ythpepkfodcgbcaa
/- What is done to a disk keeps it not too great. No program in it. -/
set_option linter.unusedVariables false
set_option linter.unusedSimpArgs false
namespace Go.Proofs.Ythpepkfodcgbcaa

theorem spend_left {d : DM} (h : 0 ≤ d.left ∧ d.left ≤ 9223372036854775807) : 0 ≤ (spendD d).1.left ∧ (spendD d).1.left ≤ 9223372036854775807 := by
  unfold spendD
  split
  · exact h
  · rename_i hc
    simp only []
    split
    · rename_i hf
      simp only [hf, Bool.true_and, Bool.or_eq_true, decide_eq_true_eq, not_or] at hc
      show 0 ≤ d.left - 1 ∧ d.left - 1 ≤ _
      omega
    · exact h
theorem Fit.new {n : Nat} (h : n ≤ 4096) : Fit (newD n) := ⟨ok_new n, by show (List.replicate (n * 4) noughtB).length ≤ _; rw [List.length_replicate]; omega, by show 0 ≤ 100000; omega, by show (0 : Int) ≤ 0 ∧ (0 : Int) ≤ _; omega⟩
theorem write_size (d : DM) (n : Int) (b : Bs) : (writeD d n b).1.safe = d.safe ∧ (writeD d n b).1.l.length ≤ d.l.length + 4 := by
  obtain ⟨e1, e2⟩ := sp_lists d
  unfold writeD
  split
  · split
    · refine ⟨e1, ?_⟩
      show ((spendD d).1.l ++ piecesL n.toNat b).length ≤ _
      rw [List.length_append, pieces_len, e2]
      omega
    · exact ⟨e1, by rw [e2]; omega⟩
  · exact ⟨rfl, Nat.le_add_right _ _⟩
theorem Fit.write {d : DM} (h : Fit d) (hl : d.l.length + 4 ≤ 100000) (n : Int) (b : Bs) : Fit (writeD d n b).1 := by
  obtain ⟨e1, e2⟩ := write_size d n b
  refine ⟨ok_write h.ok n b, by rw [e1]; exact h.s, by omega, ?_⟩
  unfold writeD
  have := spend_left h.left
  split
  · split
    · exact this
    · exact this
  · exact h.left
theorem flush_size (d : DM) : (flushD d).1.safe.length = d.safe.length ∧ (flushD d).1.l.length ≤ d.l.length := by
  obtain ⟨e1, e2⟩ := sp_lists d
  unfold flushD
  split
  · refine ⟨?_, Nat.zero_le _⟩
    show (nowL (spendD d).1.safe (spendD d).1.l).length = _
    rw [nowL_len, e1]
  · exact ⟨by rw [e1], by rw [e2]; omega⟩
theorem Fit.flush {d : DM} (h : Fit d) : Fit (flushD d).1 := by
  obtain ⟨e1, e2⟩ := flush_size d
  refine ⟨ok_flush h.ok, by rw [e1]; exact h.s, Nat.le_trans e2 h.l, ?_⟩
  unfold flushD
  have := spend_left h.left
  split
  · exact this
  · exact this
theorem Fit.arm {d : DM} (h : Fit d) (k : Int) (hk : k ≤ 9223372036854775807) : Fit (armD d k) := by
  have h0 := ok_arm h.ok k
  unfold armD at *
  split
  · exact h
  · rename_i hc
    rw [if_neg hc] at h0
    refine ⟨h0, h.s, h.l, ?_⟩
    show 0 ≤ (if k < 0 then 0 else k) ∧ (if k < 0 then 0 else k) ≤ _
    split <;> omega
theorem arm_size (d : DM) (k : Int) : (armD d k).safe = d.safe ∧ (armD d k).l = d.l := by
  unfold armD
  split <;> exact ⟨rfl, rfl⟩
theorem Fit.crash {d : DM} (h : Fit d) (k : List Bool) : Fit (crashD d k) := ⟨ok_crash h.ok k, by show (crashL d.safe d.l k).length ≤ _; rw [crashL_len]; exact h.s, Nat.zero_le _, by show (0 : Int) ≤ 0 ∧ (0 : Int) ≤ _; omega⟩
theorem crash_size (d : DM) (k : List Bool) : (crashD d k).safe.length = d.safe.length ∧ (crashD d k).l = [] := ⟨crashL_len _ _ _, rfl⟩
theorem model_size (d : DM) (a : AV) : (modelD d a).1.safe.length = d.safe.length ∧ (modelD d a).1.l.length ≤ d.l.length + 4 := by
  unfold modelD
  split
  · obtain ⟨e1, e2⟩ := write_size d a.n (acB a)
    exact ⟨by rw [e1], e2⟩
  · split
    · obtain ⟨e1, e2⟩ := flush_size d
      exact ⟨e1, by omega⟩
    · split
      · obtain ⟨e1, e2⟩ := arm_size d a.n
        exact ⟨by show (armD d a.n).safe.length = _; rw [e1], by show (armD d a.n).l.length ≤ _; rw [e2]; omega⟩
      · split
        · obtain ⟨e1, e2⟩ := crash_size d a.keep
          exact ⟨e1, by show (crashD d a.keep).l.length ≤ _; rw [e2]; exact Nat.zero_le _⟩
        · split
          · exact ⟨rfl, Nat.le_add_right _ _⟩
          · exact ⟨rfl, Nat.le_add_right _ _⟩
theorem Fit.model {d : DM} (h : Fit d) (hl : d.l.length + 4 ≤ 100000) (a : AV) (hn : a.n ≤ 9223372036854775807) : Fit (modelD d a).1 := by
  unfold modelD
  split
  · exact h.write hl _ _
  · split
    · exact h.flush
    · split
      · exact h.arm _ hn
      · split
        · exact h.crash _
        · split
          · exact h
          · exact h
/- The live question. -/
def liv0 : DM := newD 1
def liv1 : DM := (writeD liv0 0 (blockB [1])).1
def liv2 : DM := (flushD liv1).1
def liv3 : DM := (writeD liv2 0 (blockB [2])).1
def liv4 : DM := crashD liv3 [false, true]
theorem liv2_l : liv2.l.length = 0 := by kernel_rfl
theorem liv_fit : Fit liv0 ∧ Fit liv1 ∧ Fit liv2 ∧ Fit liv3 ∧ Fit liv4 := by
  have h0 : Fit liv0 := Fit.new (by decide)
  have h1 : Fit liv1 := h0.write (by decide) _ _
  have h2 : Fit liv2 := h1.flush
  have h3 : Fit liv3 := h2.write (by rw [liv2_l]; decide) _ _
  exact ⟨h0, h1, h2, h3, h3.crash _⟩
theorem liv_told : (writeD liv0 0 (blockB [1])).2 = 0 ∧ (flushD liv1).2 = 0 ∧ (writeD liv2 0 (blockB [2])).2 = 0 := ⟨by kernel_rfl, by kernel_rfl, by kernel_rfl⟩
theorem liv_read : (readD liv4 0).2 = 0 ∧ (readD liv4 0).1.length = 256 ∧ (readD liv4 0).1[0]? = some 1 ∧ (readD liv4 0).1[64]? = some 2 ∧ (readD liv4 0).1[128]? = some 1 := ⟨by kernel_rfl, by kernel_rfl, by kernel_rfl, by kernel_rfl, by kernel_rfl⟩
theorem liv_end : liv4.l.length = 0 ∧ liv4.safe.length / 4 = 1 := ⟨by kernel_rfl, by kernel_rfl⟩
end Go.Proofs.Ythpepkfodcgbcaa
/- The program's disk over lists: all bytes in one row, and writes that can be undone. No program in it. -/
set_option linter.unusedVariables false
set_option linter.unusedSimpArgs false
set_option maxRecDepth 4000
namespace Go.Proofs.Ythpepkfodcgbcaa

/-- Bytes laid over others from a place on. -/
def setB (F : Bs) (o : Nat) : Bs → Bs
  | [] => F
  | v :: r => setB (F.set o v) (o + 1) r
theorem setB_len : ∀ (x : Bs) (F : Bs) (o : Nat), (setB F o x).length = F.length
  | [], F, o => rfl
  | v :: r, F, o => by rw [setB, setB_len r]; simp
theorem setB_app : ∀ (x y : Bs) (F : Bs) (o : Nat), setB F o (x ++ y) = setB (setB F o x) (o + x.length) y
  | [], y, F, o => rfl
  | v :: r, y, F, o => by
    show setB (F.set o v) (o + 1) (r ++ y) = setB (setB (F.set o v) (o + 1) r) (o + (r.length + 1)) y
    rw [setB_app r y, show o + 1 + r.length = o + (r.length + 1) by omega]
theorem setB_get : ∀ (x : Bs) (F : Bs) (o j : Nat), o + x.length ≤ F.length → (setB F o x)[j]? = if o ≤ j ∧ j < o + x.length then x[j - o]? else F[j]?
  | [], F, o, j, h => by
    show F[j]? = _
    rw [if_neg (by rw [List.length_nil]; omega)]
  | v :: r, F, o, j, h => by
    have h' : o + (r.length + 1) ≤ F.length := h
    rw [setB, setB_get r (F.set o v) (o + 1) j (by rw [List.length_set]; omega), List.length_cons]
    by_cases h1 : j = o
    · subst h1
      rw [if_neg (by omega), if_pos (by omega), List.getElem?_set_self (by omega)]
      simp
    · rw [List.getElem?_set_ne (by omega)]
      by_cases h2 : o ≤ j ∧ j < o + (r.length + 1)
      · rw [if_pos (by omega), if_pos h2, show j - o = (j - (o + 1)) + 1 by omega, List.getElem?_cons_succ]
      · rw [if_neg (by omega), if_neg h2]
theorem setB_is (x F : Bs) (o : Nat) (h : o + x.length ≤ F.length) : setB F o x = F.take o ++ (x ++ F.drop (o + x.length)) := by
  apply List.ext_getElem?
  intro j
  rw [setB_get x F o j h]
  have hl : (F.take o).length = o := by rw [List.length_take]; omega
  by_cases h1 : o ≤ j
  · rw [List.getElem?_append_right (by omega), hl]
    by_cases h2 : j < o + x.length
    · rw [if_pos ⟨h1, h2⟩, List.getElem?_append_left (by omega)]
    · rw [if_neg (by omega), List.getElem?_append_right (by omega), List.getElem?_drop]
      congr 1
      omega
  · rw [if_neg (by omega), List.getElem?_append_left (by omega), List.getElem?_take, if_pos (by omega)]
/-- What was there, laid again. -/
theorem setB_back (x F : Bs) (o : Nat) (h : o + x.length ≤ F.length) : setB (setB F o x) o ((F.drop o).take x.length) = F := by
  have hl : ((F.drop o).take x.length).length = x.length := by rw [List.length_take, List.length_drop]; omega
  apply List.ext_getElem?
  intro j
  rw [setB_get _ _ _ _ (by rw [hl, setB_len]; exact h), hl, setB_get x F o j h]
  by_cases h1 : o ≤ j ∧ j < o + x.length
  · rw [if_pos h1, List.getElem?_take, if_pos (by omega), List.getElem?_drop]
    congr 1
    omega
  · rw [if_neg h1, if_neg h1]
theorem setB_mid (A X D x : Bs) (h : X.length = x.length) : setB (A ++ (X ++ D)) A.length x = A ++ (x ++ D) := by
  rw [setB_is x _ _ (by rw [List.length_append, List.length_append]; omega), List.take_left, List.drop_append, List.drop_of_length_le (by omega), List.nil_append, show A.length + x.length - A.length = X.length by omega, List.drop_left]
theorem set_flat (S : List Bs) (i : Nat) (x : Bs) (hs : ∀ y ∈ S, y.length = 64) (hx : x.length = 64) (hi : i < S.length) : (S.set i x).flatten = setB S.flatten (64 * i) x := by
  have h1 : (S.take i).flatten.length = 64 * i := by
    rw [flat_len _ (fun y hy => hs y (List.mem_of_mem_take hy)), List.length_take]
    congr 1
    omega
  have h2 : S.flatten = (S.take i).flatten ++ (S[i] ++ (S.drop (i + 1)).flatten) := by
    conv => lhs; rw [← List.take_append_drop i S, List.flatten_append, List.drop_eq_getElem_cons hi, List.flatten_cons]
  have h3 : S[i].length = 64 := hs _ (List.getElem_mem hi)
  rw [h2, ← h1, setB_mid _ _ _ _ (by omega), List.set_eq_take_append_cons_drop, if_pos hi, List.flatten_append, List.flatten_cons]
theorem cut_len (b : Bs) (i : Nat) (hb : b.length = 256) (hi : i < 4) : (cutB b i).length = 64 := by unfold cutB; rw [List.length_take, List.length_drop]; omega
theorem four_cut (b : Bs) (hb : b.length = 256) : cutB b 0 ++ (cutB b 1 ++ (cutB b 2 ++ cutB b 3)) = b := by
  unfold cutB
  have e : ∀ k, b.drop (k * 64) = (b.drop (k * 64)).take 64 ++ b.drop ((k + 1) * 64) := fun k => by
    conv => lhs; rw [← List.take_append_drop 64 (b.drop (k * 64)), List.drop_drop]
    rw [show k * 64 + 64 = (k + 1) * 64 by omega]
  have e3 : (b.drop (3 * 64)).take 64 = b.drop (3 * 64) := List.take_of_length_le (by rw [List.length_drop]; omega)
  rw [e3, ← e 2, ← e 1, ← e 0]
  simp
theorem pieces_is (n : Nat) (b : Bs) : piecesL n b = [(n * 4 + 0, cutB b 0), (n * 4 + 1, cutB b 1), (n * 4 + 2, cutB b 2), (n * 4 + 3, cutB b 3)] := rfl
theorem set_64 {S : List Bs} {i : Nat} {x : Bs} (hs : ∀ y ∈ S, y.length = 64) (hx : x.length = 64) : ∀ y ∈ S.set i x, y.length = 64 := fun y hy => by
  rcases List.mem_or_eq_of_mem_set hy with h | h
  · exact hs y h
  · rw [h]; exact hx
theorem lay_flat (S : List Bs) (n : Nat) (b : Bs) (hs : ∀ y ∈ S, y.length = 64) (hb : b.length = 256) (hn : n * 4 + 4 ≤ S.length) : (nowL S (piecesL n b)).flatten = setB S.flatten (256 * n) b := by
  have l0 := cut_len b 0 hb (by omega)
  have l1 := cut_len b 1 hb (by omega)
  have l2 := cut_len b 2 hb (by omega)
  have l3 := cut_len b 3 hb (by omega)
  conv => rhs; rw [← four_cut b hb]
  rw [pieces_is]
  show ((((S.set (n * 4 + 0) (cutB b 0)).set (n * 4 + 1) (cutB b 1)).set (n * 4 + 2) (cutB b 2)).set (n * 4 + 3) (cutB b 3)).flatten = _
  rw [set_flat _ _ _ (set_64 (set_64 (set_64 hs l0) l1) l2) l3 (by simp; omega), set_flat _ _ _ (set_64 (set_64 hs l0) l1) l2 (by simp; omega), set_flat _ _ _ (set_64 hs l0) l1 (by simp; omega), set_flat _ _ _ hs l0 (by omega), setB_app, setB_app, setB_app, l0, l1, l2]
  rw [show 64 * (n * 4 + 0) = 256 * n by omega, show 64 * (n * 4 + 1) = 256 * n + 64 by omega, show 64 * (n * 4 + 2) = 256 * n + 64 + 64 by omega, show 64 * (n * 4 + 3) = 256 * n + 64 + 64 + 64 by omega]
/-- One write that is pending. -/
structure PW where
  at_ : Nat
  was : Bs
  laid : Bs
def pcs (ws : List PW) : List (Nat × Bs) := ws.flatMap fun x => piecesL x.at_ x.laid
theorem pcs_app (a b : List PW) : pcs (a ++ b) = pcs a ++ pcs b := by unfold pcs; rw [List.flatMap_append]
theorem pcs_len : ∀ ws : List PW, (pcs ws).length = 4 * ws.length
  | [] => rfl
  | x :: r => by
    show (piecesL x.at_ x.laid ++ pcs r).length = _
    rw [List.length_append, pieces_len, pcs_len r, List.length_cons]
    omega
theorem pcs_get : ∀ (ws : List PW) (k s : Nat) (hk : k < ws.length), s < 4 → (pcs ws)[4 * k + s]? = some (ws[k].at_ * 4 + s, cutB ws[k].laid s)
  | x :: r, 0, s, hk, hs => by
    show (piecesL x.at_ x.laid ++ pcs r)[4 * 0 + s]? = _
    rw [List.getElem?_append_left (by rw [pieces_len]; omega), pieces_is]
    rcases (by omega : s = 0 ∨ s = 1 ∨ s = 2 ∨ s = 3) with rfl | rfl | rfl | rfl <;> rfl
  | x :: r, k + 1, s, hk, hs => by
    show (piecesL x.at_ x.laid ++ pcs r)[4 * (k + 1) + s]? = _
    rw [List.getElem?_append_right (by rw [pieces_len]; omega), pieces_len, show 4 * (k + 1) + s - 4 = 4 * k + s by omega, pcs_get r k s (by simpa using hk) hs]
    rfl
def undoW (x : PW) (F : Bs) : Bs := setB F (256 * x.at_) x.was
def undoL (F : Bs) (ws : List PW) : Bs := ws.foldr undoW F
theorem undo_app (F : Bs) (a b : List PW) : undoL F (a ++ b) = undoL (undoL F b) a := by unfold undoL; rw [List.foldr_append]
theorem undo_len (F : Bs) : ∀ ws : List PW, (undoL F ws).length = F.length
  | [] => rfl
  | x :: r => by
    show (setB (undoL F r) _ _).length = _
    rw [setB_len, undo_len F r]
/-- From the last one back: what is undone from the write number i on. -/
theorem undo_drop (F : Bs) (ws : List PW) (i : Nat) (hi : i < ws.length) : undoL F (ws.drop i) = undoW ws[i] (undoL F (ws.drop (i + 1))) := by
  rw [List.drop_eq_getElem_cons hi]
  rfl
/- The crash, sector by sector. -/
def keepS (S : List Bs) (q : (Nat × Bs) × Bool) : List Bs := if q.2 then putS S q.1 else S
theorem crash_zip : ∀ (l : List (Nat × Bs)) (k : List Bool) (S : List Bs), crashL S l k = (l.zip k).foldl keepS S
  | [], k, S => by cases k <;> rfl
  | p :: r, [], S => rfl
  | p :: r, b :: k, S => by
    show crashL (if b then putS S p else S) r k = (r.zip k).foldl keepS (keepS S (p, b))
    rw [crash_zip r k]
    rfl
def crashN (S : List Bs) (l : List (Nat × Bs)) (k : List Bool) (i : Nat) : List Bs := ((l.zip k).take i).foldl keepS S
theorem crashN_zero (S : List Bs) (l : List (Nat × Bs)) (k : List Bool) : crashN S l k 0 = S := rfl
theorem crashN_end (S : List Bs) (l : List (Nat × Bs)) (k : List Bool) (i : Nat) (h : k.length ≤ i ∨ l.length ≤ i) : crashN S l k i = crashL S l k := by
  unfold crashN
  rw [crash_zip, List.take_of_length_le (by rw [List.length_zip]; omega)]
theorem crashN_succ (S : List Bs) (l : List (Nat × Bs)) (k : List Bool) (i : Nat) (hl : i < l.length) (hk : i < k.length) : crashN S l k (i + 1) = if k[i] then putS (crashN S l k i) l[i] else crashN S l k i := by
  unfold crashN
  have hz : i < (l.zip k).length := by rw [List.length_zip]; omega
  rw [List.take_succ_eq_append_getElem hz, List.foldl_append, List.getElem_zip]
  rfl
theorem crashN_64 (S : List Bs) (l : List (Nat × Bs)) (k : List Bool) (hs : ∀ y ∈ S, y.length = 64) (hl : ∀ p ∈ l, p.2.length = 64) : ∀ i, (∀ y ∈ crashN S l k i, y.length = 64) ∧ (crashN S l k i).length = S.length
  | 0 => ⟨hs, rfl⟩
  | i + 1 => by
    obtain ⟨h1, h2⟩ := crashN_64 S l k hs hl i
    by_cases hc : i < l.length ∧ i < k.length
    · rw [crashN_succ S l k i hc.1 hc.2]
      split
      · exact ⟨set_64 h1 (hl _ (List.getElem_mem hc.1)), by unfold putS; rw [List.length_set]; exact h2⟩
      · exact ⟨h1, h2⟩
    · rw [crashN_end S l k (i + 1) (by omega), ← crashN_end S l k i (by omega)]
      exact ⟨h1, h2⟩
/-- All bytes of the program's disk, and its writes, are those of a disk over sectors. -/
structure PRel (n : Nat) (F : Bs) (ws : List PW) (fused : Bool) (left : Int) (off : Bool) (d : DM) : Prop where
  n4 : d.safe.length = 4 * n
  len : F.length = 256 * n
  now : F = dumpD d
  l : d.l = pcs ws
  undo : undoL F ws = d.safe.flatten
  ok : ∀ x ∈ ws, x.at_ < n ∧ x.was.length = 256 ∧ x.laid.length = 256
  off_ : off = d.off
  on : d.off = false → fused = d.fuse ∧ left = d.left
theorem PRel.is_ {n : Nat} {F : Bs} {ws : List PW} {fu : Bool} {left : Int} {off : Bool} {d : DM} (h : PRel n F ws fu left off d) (k : Int) : isD d k = (decide (0 ≤ k) && decide (k < (n : Int))) := by
  unfold isD
  rw [h.n4, show 4 * n / 4 = n by omega]
theorem PRel.read {n : Nat} {F : Bs} {ws : List PW} {fu : Bool} {left : Int} {off : Bool} {d : DM} (h : PRel n F ws fu left off d) (hok : OkD d) (k : Nat) (hk : k < n) : (((nowD d).drop (k * 4)).take 4).flatten = (F.drop (256 * k)).take 256 := by
  have h64 : ∀ x ∈ nowD d, x.length = 64 := now_64 (s := d.safe) d.l hok.safe hok.len
  have hl : (nowD d).length = 4 * n := (nowL_len _ _).trans h.n4
  have e1 : ((nowD d).take (k * 4)).flatten.length = 256 * k := by
    rw [flat_len _ (fun y hy => h64 y (List.mem_of_mem_take hy)), List.length_take]
    omega
  have e2 : (((nowD d).drop (k * 4)).take 4).flatten.length = 256 := by
    rw [flat_len _ (fun y hy => h64 y (List.mem_of_mem_drop (List.mem_of_mem_take hy))), List.length_take, List.length_drop]
    omega
  have e3 : F = ((nowD d).take (k * 4)).flatten ++ ((((nowD d).drop (k * 4)).take 4).flatten ++ (((nowD d).drop (k * 4)).drop 4).flatten) := by
    rw [h.now, ← List.flatten_append, List.take_append_drop, ← List.flatten_append, List.take_append_drop]
    rfl
  rw [e3, ← e1]
  generalize ((nowD d).take (k * 4)).flatten = X at *
  generalize (((nowD d).drop (k * 4)).take 4).flatten = Y at *
  rw [List.drop_left, ← e2, List.take_left]
theorem PRel.new (n : Nat) : PRel n (List.replicate (256 * n) 0) [] false 0 false (newD n) := by
  have e : (List.replicate (n * 4) noughtB).flatten = List.replicate (256 * n) 0 := by
    unfold noughtB
    rw [List.flatten_replicate_replicate, show n * 4 * 64 = 256 * n by omega]
  refine ⟨?_, ?_, ?_, rfl, ?_, fun x hx => by simp at hx, rfl, fun _ => ⟨rfl, rfl⟩⟩
  · show (List.replicate (n * 4) noughtB).length = _
    rw [List.length_replicate]; omega
  · rw [List.length_replicate]
  · exact e.symm
  · exact e.symm
/-- The bytes ahead of a write. -/
def wasB (F : Bs) (k : Nat) : Bs := (F.drop (256 * k)).take 256
theorem was_len (F : Bs) (n k : Nat) (h : F.length = 256 * n) (hk : k < n) : (wasB F k).length = 256 := by unfold wasB; rw [List.length_take, List.length_drop]; omega
theorem PRel.write {n : Nat} {F : Bs} {ws : List PW} {fu : Bool} {left : Int} {off : Bool} {d : DM} (h : PRel n F ws fu left off d) (hok : OkD d) (k : Nat) (hk : k < n) (b : Bs) (hb : b.length = 256) :
    PRel n (setB F (256 * k) b) (ws ++ [⟨k, wasB F k, b⟩]) fu left off { d with l := d.l ++ piecesL k b } := by
  have h64 : ∀ x ∈ nowD d, x.length = 64 := now_64 (s := d.safe) d.l hok.safe hok.len
  have hl : (nowD d).length = 4 * n := (nowL_len _ _).trans h.n4
  refine ⟨h.n4, by rw [setB_len]; exact h.len, ?_, ?_, ?_, ?_, h.off_, h.on⟩
  · rw [h.now]
    show setB (nowL d.safe d.l).flatten (256 * k) b = (nowL d.safe (d.l ++ piecesL k b)).flatten
    unfold nowL
    rw [List.foldl_append]
    exact (lay_flat (nowL d.safe d.l) k b h64 hb (by show k * 4 + 4 ≤ (nowD d).length; omega)).symm
  · rw [pcs_app, ← h.l]
    show d.l ++ piecesL k b = d.l ++ (piecesL k b ++ [])
    rw [List.append_nil]
  · rw [undo_app]
    show undoL (setB (setB F (256 * k) b) (256 * k) (wasB F k)) ws = _
    have := setB_back b F (256 * k) (by rw [h.len, hb]; omega)
    rw [hb] at this
    unfold wasB
    rw [this]
    exact h.undo
  · intro x hx
    rcases List.mem_append.1 hx with hx | hx
    · exact h.ok x hx
    · obtain rfl := List.mem_singleton.1 hx
      exact ⟨hk, was_len F n k h.len hk, hb⟩
theorem PRel.flush {n : Nat} {F : Bs} {ws : List PW} {fu : Bool} {left : Int} {off : Bool} {d : DM} (h : PRel n F ws fu left off d) : PRel n F [] fu left off { d with safe := nowD d, l := [] } :=
  ⟨(nowL_len _ _).trans h.n4, h.len, h.now, rfl, h.now, fun x hx => by simp at hx, h.off_, h.on⟩
theorem PRel.spend {n : Nat} {F : Bs} {ws : List PW} {fu fu' : Bool} {left left' : Int} {off off' : Bool} {d d' : DM} (h : PRel n F ws fu left off d) (hs : d'.safe = d.safe) (hl : d'.l = d.l) (ho : off' = d'.off) (hon : d'.off = false → fu' = d'.fuse ∧ left' = d'.left) : PRel n F ws fu' left' off' d' :=
  ⟨by rw [hs]; exact h.n4, h.len, by rw [h.now]; unfold dumpD nowD; rw [hs, hl], by rw [hl]; exact h.l, by rw [hs]; exact h.undo, h.ok, ho, hon⟩
/-- What is laid by so many of the list that a crash is handed. -/
def crashF (d : DM) (keep : List Bool) (i : Nat) : Bs := (crashN d.safe d.l keep i).flatten
theorem PRel.crash_step {n : Nat} {F : Bs} {ws : List PW} {fu : Bool} {left : Int} {off : Bool} {d : DM} (h : PRel n F ws fu left off d) (hok : OkD d) (keep : List Bool) (i : Nat) (hi : i < keep.length) (hw : i / 4 < ws.length) :
    crashF d keep (i + 1) = if keep[i] then setB (crashF d keep i) (256 * ws[i / 4].at_ + 64 * (i % 4)) (cutB ws[i / 4].laid (i % 4)) else crashF d keep i := by
  have hll : d.l.length = 4 * ws.length := by rw [h.l, pcs_len]
  have hl : i < d.l.length := by omega
  obtain ⟨h1, h2⟩ := crashN_64 d.safe d.l keep hok.safe hok.len i
  have hg := pcs_get ws (i / 4) (i % 4) hw (by omega)
  rw [← h.l, show 4 * (i / 4) + i % 4 = i by omega, List.getElem?_eq_getElem hl] at hg
  injection hg with hg
  have ha := (h.ok _ (List.getElem_mem hw))
  unfold crashF
  rw [crashN_succ d.safe d.l keep i hl hi]
  split
  · rw [hg]
    show ((crashN d.safe d.l keep i).set (ws[i / 4].at_ * 4 + i % 4) (cutB ws[i / 4].laid (i % 4))).flatten = _
    rw [set_flat _ _ _ h1 (cut_len _ _ ha.2.2 (by omega)) (by rw [h2, h.n4]; omega), show 64 * (ws[i / 4].at_ * 4 + i % 4) = 256 * ws[i / 4].at_ + 64 * (i % 4) by omega]
  · rfl
theorem PRel.crash {n : Nat} {F : Bs} {ws : List PW} {fu : Bool} {left : Int} {off : Bool} {d : DM} (h : PRel n F ws fu left off d) (hok : OkD d) (keep : List Bool) (i : Nat) (hi : keep.length ≤ i ∨ 4 * ws.length ≤ i) : PRel n (crashF d keep i) [] false 0 false (crashD d keep) := by
  have hll : d.l.length = 4 * ws.length := by rw [h.l, pcs_len]
  obtain ⟨h1, h2⟩ := crashN_64 d.safe d.l keep hok.safe hok.len i
  have e : crashF d keep i = (crashL d.safe d.l keep).flatten := by unfold crashF; rw [crashN_end _ _ _ _ (by omega)]
  refine ⟨(crashL_len _ _ _).trans h.n4, ?_, e, rfl, e, fun x hx => by simp at hx, rfl, fun _ => ⟨rfl, rfl⟩⟩
  unfold crashF
  rw [flat_len _ h1, h2, h.n4]
  omega
theorem crashF_len {n : Nat} {F : Bs} {ws : List PW} {fu : Bool} {left : Int} {off : Bool} {d : DM} (h : PRel n F ws fu left off d) (hok : OkD d) (keep : List Bool) (i : Nat) : (crashF d keep i).length = 256 * n := by
  obtain ⟨h1, h2⟩ := crashN_64 d.safe d.l keep hok.safe hok.len i
  unfold crashF
  rw [flat_len _ h1, h2, h.n4]
  omega
end Go.Proofs.Ythpepkfodcgbcaa
