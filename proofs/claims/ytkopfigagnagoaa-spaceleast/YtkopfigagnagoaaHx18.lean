/- The program's space: what its calls answer, and in which blocks it lies. -/
import Derived.Test.YtkopfigagnagoaaHw18
set_option linter.unusedVariables false
set_option linter.unusedSimpArgs false
set_option maxRecDepth 4000
namespace Go.Proofs.Ytkopfigagnagoaa
open Go.RowKit

/-- A space of the program's. -/
structure SpA (A : Nat → Prop) (w : World) (b tg c : Nat) (fv : Value) (s : SL) (l : List Nat) : Prop where
  nums : NumS w (.slice (some ⟨tg, 0, none⟩) s.length c) b fv l
  row : w.ownsRow 0 4 1 (.slice (some ⟨tg, 0, none⟩) s.length c) s.length (boolsV s)
  heap : HeapOf l s
  tb : tg ≠ b
  sep : fv.ownBlock ≠ some tg
  inB : A b
  inT : A tg
  inF : ∀ k, fv.ownBlock = some k → A k
  lt : ∀ k, A k → k < w.heap.size
  le : s.length ≤ 4096
def IsK (A : Nat → Prop) (w : World) (v : Value) (s : SL) : Prop := ∃ b tg c fv l, v = .pointer (some ⟨b, 0, none⟩) ∧ SpA A w b tg c fv s l
theorem NumS.keep {w x : World} {T0 : Value} {b : Nat} {v : Value} {l : List Nat} (h : NumS w T0 b v l) (hb : x.heap[b]? = w.heap[b]?) (hv : ∀ k, v.ownBlock = some k → x.heap[k]? = w.heap[k]?) : NumS x T0 b v l := by
  refine ⟨?_, ?_, ?_, ?_, ownsRow_keep h.row hv, h.apart, h.le⟩
  · rw [World.cell?_of_block (a := ⟨b, 0, none⟩) hb]; exact h.cell0
  · rw [World.frozen?_of_block (a := ⟨b, 0, none⟩) hb]; exact h.frozen0
  · rw [World.cell?_of_block (a := ⟨b, 1, none⟩) hb]; exact h.cell
  · rw [World.frozen?_of_block (a := ⟨b, 1, none⟩) hb]; exact h.frozen
theorem IsK.keep {A : Nat → Prop} {w x : World} {v : Value} {l : SL} (h : IsK A w v l) (hk : ∀ k, A k → x.heap[k]? = w.heap[k]?) : IsK A x v l := by
  obtain ⟨b, tg, c, fv, fl, rfl, h⟩ := h
  refine ⟨b, tg, c, fv, fl, rfl, h.nums.keep (hk b h.inB) (fun k e => hk k (h.inF k e)), ownsRow_keep h.row (fun k e => ?_), h.heap, h.tb, h.sep, h.inB, h.inT, h.inF, fun k ha => ?_, h.le⟩
  · have : tg = k := by injection e
    subst this
    exact hk tg h.inT
  · have h1 := hk k ha
    have h2 := h.lt k ha
    rw [Array.getElem?_eq_getElem h2] at h1
    exact (Array.getElem?_eq_some_iff.1 h1).1
theorem IsK.lt {A : Nat → Prop} {w : World} {v : Value} {l : SL} (h : IsK A w v l) : ∀ k, A k → k < w.heap.size := by
  obtain ⟨_, _, _, _, _, _, h⟩ := h
  exact h.lt
theorem IsK.ptr {A : Nat → Prop} {w : World} {v : Value} {l : SL} (h : IsK A w v l) : ∃ a, v = .pointer (some a) := by
  obtain ⟨b, _, _, _, _, h1, _⟩ := h
  exact ⟨_, h1⟩
/-- A number's mark is turned, behind a call on the free ones. -/
theorem SpA.mark {A : Nat → Prop} {w w1 : World} {b tg c : Nat} {fv fv' : Value} {s : SL} {l l' : List Nat} (h : SpA A w b tg c fv s l) (hn : NumS w1 (.slice (some ⟨tg, 0, none⟩) s.length c) b fv' l') (hb : ButA (nb18 b fv) w w1) (ho : ∀ k, fv'.ownBlock = some k → fv.ownBlock = some k ∨ w.heap.size ≤ k) (i : Nat) (t : Bool) (hh : HeapOf l' (s.set i t)) :
    SpA (fun k => A k ∨ fv'.ownBlock = some k) (w1.setCell ⟨tg, i, none⟩ (.bool t)) b tg c fv' (s.set i t) l' ∧ ButA A w (w1.setCell ⟨tg, i, none⟩ (.bool t)) ∧ Grew A (fun k => A k ∨ fv'.ownBlock = some k) w.heap.size := by
  have htl := h.lt tg h.inT
  have hsep : fv'.ownBlock ≠ some tg := fun e => (ho tg e).elim h.sep (fun h5 => by omega)
  have hr1 : w1.ownsRow 0 4 1 (.slice (some ⟨tg, 0, none⟩) s.length c) s.length (boolsV s) := ownsRow_keep h.row fun k e => by
    have e2 : tg = k := by injection e
    subst e2
    exact hb.block tg htl (fun h5 => h5.elim h.tb h.sep)
  have hr2 := (hr1.stored i (.bool t)).1
  have e4 : (boolsV s).set i (.bool t) = boolsV (s.set i t) := by unfold boolsV; rw [List.map_set]
  rw [e4] at hr2
  have hbA : ButA A w w1 := hb.mono fun k hk => hk.elim (fun e => e ▸ h.inB) (h.inF k)
  refine ⟨⟨?_, ?_, hh, h.tb, hsep, .inl h.inB, .inl h.inT, fun k e => .inr e, fun k hk => ?_, by rw [List.length_set]; exact h.le⟩, hbA.setCell (a := ⟨tg, i, none⟩) (.inl h.inT) _, fun k hk => hk.elim .inl (fun e => (ho k e).elim (fun h5 => .inl (h.inF k h5)) .inr)⟩
  · rw [List.length_set]
    exact hn.keep (Below.heap_setCell _ _ _ _ (fun e => h.tb e.symm)) (fun k e => Below.heap_setCell _ _ _ _ (fun e2 => hsep (by rw [e]; exact congrArg some e2)))
  · rw [List.length_set]
    exact hr2
  · have hz : (w1.setCell ⟨tg, i, none⟩ (.bool t)).heap.size = w1.heap.size := by simp [World.setCell]
    rw [hz]
    rcases hk with hk | hk
    · exact Nat.lt_of_lt_of_le (h.lt k hk) hb.size
    · exact (hn.row.lt k hk).2
set_option maxHeartbeats 2000000 in
theorem pfree_run (A : Nat → Prop) (b tg c : Nat) (fv : Value) (s : SL) (l : List Nat) (w : World) (h : SpA A w b tg c fv s l) : Calls Try.prog 14 #[.pointer (some ⟨b, 0, none⟩)] w fun e w' => e = .returned (.int .i64 (l.length : Int)) ∧ w' = w := by
  obtain ⟨a, cc, rfl⟩ := h.nums.form
  have c0 := h.nums.cell
  clear h
  generalize l.length = n at *
  go_enter Try.func14, Try.ntmps14
  go_wp2
  go_ret
  exact ⟨rfl, rfl⟩
theorem pfree_any (A : Nat → Prop) (v : Value) (l : SL) (w : World) (hK : IsK A w v l) (hl : l.length ≤ 4096) : Calls Try.prog 14 #[v] w fun e w' => e = .returned (.int .i64 (freeS l : Int)) ∧ Below w.heap.size w w' := by
  obtain ⟨b, tg, c, fv, fl, rfl, h⟩ := hK
  refine (pfree_run A b tg c fv l fl w h).mono ?_
  rintro e w' ⟨rfl, rfl⟩
  rw [h.heap.len]
  exact ⟨rfl, Below.refl _ _⟩
set_option maxHeartbeats 2000000 in
theorem ptaken_run (A : Nat → Prop) (b tg c : Nat) (fv : Value) (s : SL) (l : List Nat) (i : Int) (w : World) (h : SpA A w b tg c fv s l) : Calls Try.prog 16 #[.pointer (some ⟨b, 0, none⟩), .int .i64 i] w fun e w' => e = .returned (.bool (takenS s i)) ∧ w' = w := by
  have c0 := h.nums.cell0
  have hle := h.le
  unfold takenS
  by_cases h0 : 0 ≤ i
  · by_cases h1 : i < (s.length : Int)
    · obtain ⟨k, rfl⟩ : ∃ k : Nat, i = (k : Int) := ⟨i.toNat, by omega⟩
      have hk : k < s.length := by omega
      have hcell : w.cell? ⟨tg, k, none⟩ = some (.bool (s.getD k false)) := by
        have h5 := h.row.cellAt k (by omega)
        rw [h5, boolsV_get s k hk, List.getD_eq_getElem?_getD, List.getElem?_eq_getElem hk, Option.getD_some]
      rw [decide_eq_true h0, decide_eq_true h1, Int.toNat_natCast]
      clear h
      generalize s.getD k false = t at *
      generalize s.length = n at *
      simp only [Bool.true_and]
      go_enter Try.func16, Try.ntmps16
      go_wp2
      go_ret
      exact ⟨rfl, rfl⟩
    · rw [decide_eq_true h0, decide_eq_false h1]
      clear h
      generalize s.length = n at *
      simp only [Bool.true_and, Bool.false_and]
      go_enter Try.func16, Try.ntmps16
      go_wp2
      go_ret
      exact ⟨rfl, rfl⟩
  · rw [decide_eq_false h0]
    clear h
    generalize s.length = n at *
    simp only [Bool.false_and]
    go_enter Try.func16, Try.ntmps16
    go_wp2
    go_ret
    exact ⟨rfl, rfl⟩
theorem ptaken_any (A : Nat → Prop) (v : Value) (l : SL) (i : Int) (w : World) (hK : IsK A w v l) (hl : l.length ≤ 4096) : Calls Try.prog 16 #[v, .int .i64 i] w fun e w' => e = .returned (.bool (takenS l i)) ∧ Below w.heap.size w w' := by
  obtain ⟨b, tg, c, fv, fl, rfl, h⟩ := hK
  refine (ptaken_run A b tg c fv l fl i w h).mono ?_
  rintro e w' ⟨rfl, rfl⟩
  exact ⟨rfl, Below.refl _ _⟩
set_option maxHeartbeats 4000000 in
theorem ptake_any (A : Nat → Prop) (v : Value) (l : SL) (w : World) (hK : IsK A w v l) (hl : l.length ≤ 4096) : Calls Try.prog 19 #[v] w fun e w' => e = .returned (.tuple #[.int .i64 ((takeS l).2.1 : Int), .int .i64 (takeS l).2.2]) ∧ KR IsK A w v (takeS l).1 w' := by
  obtain ⟨b, tg, c, fv, fl, rfl, h⟩ := hK
  have HF := hide (pfree_run A b tg c fv l fl w h)
  have HS := hide h
  by_cases h0 : fl.length = 0
  · have ht := h.heap.none_ h0
    have HK : Hid (KR IsK A w (.pointer (some ⟨b, 0, none⟩)) l w) := hide ⟨A, ⟨b, tg, c, fv, fl, rfl, h⟩, Grew.refl _ _, ButA.refl _ _⟩
    rw [h0] at HF
    rw [ht]
    clear h ht h0 HS
    go_enter Try.func19, Try.ntmps19
    go_wp2_with fail
    refine HF.out.mono ?_
    rintro e w0 ⟨rfl, rfl⟩
    clear HF
    go_wp2
    go_ret2
    exact ⟨rfl, HK.out⟩
  · obtain ⟨m, hm⟩ : ∃ m, fl.length = m + 1 := ⟨fl.length - 1, by omega⟩
    have HL := hide (nleast_any _ b fv fl m w h.nums hm h.heap.heap)
    have HFIN : Hid (∀ w1 v' l', NumS w1 (.slice (some ⟨tg, 0, none⟩) l.length c) b v' (l'.take m) → l'.Perm (swapL fl 0 m) → atN l' m = atN fl 0 → HeapN l' m → ButA (nb18 b fv) w w1 → (∀ k, v'.ownBlock = some k → fv.ownBlock = some k) →
        takeS l = (l.set (atN fl 0) true, atN fl 0, 0) ∧ atN fl 0 < l.length ∧ KR IsK A w (.pointer (some ⟨b, 0, none⟩)) (l.set (atN fl 0) true) (w1.setCell ⟨tg, atN fl 0, none⟩ (.bool true)) ∧ w1.cell? ⟨tg, atN fl 0, none⟩ ≠ none ∧ w1.frozen? ⟨tg, atN fl 0, none⟩ = false ∧ w1.cell? ⟨b, 0, none⟩ = some (.slice (some ⟨tg, 0, none⟩) l.length c)) := hide (fun w1 v' l' q1 q2 q3 q4 q5 q6 => by
      have e5 : fl.length - 1 = m := by omega
      obtain ⟨a1, a2, a3⟩ := h.heap.take (l' := l') (by omega) (.inr (by rw [e5]; exact q2)) (by rw [e5]; exact q3) (by rw [e5]; exact q4)
      rw [e5] at a3
      obtain ⟨b1, b2, b3⟩ := h.mark q1 q5 (fun k e => .inl (q6 k e)) (atN fl 0) true a3
      have htl := h.lt tg h.inT
      have hr1 : w1.ownsRow 0 4 1 (.slice (some ⟨tg, 0, none⟩) l.length c) l.length (boolsV l) := ownsRow_keep h.row fun k e => by
        have e2 : tg = k := by injection e
        subst e2
        exact q5.block tg htl (fun h5 => h5.elim h.tb h.sep)
      refine ⟨a1, a2, ⟨_, ⟨b, tg, c, v', _, rfl, b1⟩, b3, b2⟩, ?_, hr1.frozenAt _, q1.cell0⟩
      rw [hr1.cellAt _ (by omega), boolsV_get l _ a2]
      simp)
    have hge : 0 < fl.length := by omega
    rw [hm] at HF
    generalize hT : takeS l = T at *
    clear h h0 HS hT
    go_enter Try.func19, Try.ntmps19
    go_wp2_with fail
    refine HF.out.mono ?_
    rintro e w0 ⟨rfl, rfl⟩
    clear HF
    go_wp2_with fail
    refine HL.out.mono ?_
    rintro e w1 ⟨rfl, v', l', q1, q2, q3, q4, q5, q6⟩
    obtain ⟨a1, a2, a3, a4, a5, a6⟩ := HFIN.out w1 v' l' q1 q2 q3 q4 q5 q6
    obtain ⟨x, a4⟩ := Option.ne_none_iff_exists'.1 a4
    have HK := hide a3
    clear HL HFIN q1 q2 q3 q4 q5 q6 a3
    generalize atN fl 0 = y at *
    subst a1
    generalize l.length = n at *
    go_wp2
    go_ret2
    exact ⟨rfl, HK.out⟩
end Go.Proofs.Ytkopfigagnagoaa
