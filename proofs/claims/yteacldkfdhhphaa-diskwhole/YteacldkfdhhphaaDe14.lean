/- What the document's Flush answers. -/
import Derived.Test.YteacldkfdhhphaaDd14
set_option linter.unusedVariables false
set_option linter.unusedSimpArgs false
set_option maxRecDepth 4000
namespace Go.Proofs.Yteacldkfdhhphaa
open Go.RowKit

theorem setCell_box {w : World} {A : Nat} {cs : Array Value} {T : TypeId} {f : Nat × Nat} (h : w.heap[A]? = some (.cells cs T f)) (i : Nat) (v : Value) : (w.setCell ⟨A, i, none⟩ v).heap[A]? = some (.cells (cs.setIfInBounds i v) T f) := by
  simp [World.setCell, Array.getElem?_modify, h]
theorem set5_dk {w : World} {A : Nat} {d e : DV} (h : w.heap[A]? = some (.cells (dkC d) 31 (0, 0))) : (set5 w A e.sv e.lv (.int .i64 e.m.left) (.bool e.m.fuse) (.bool e.m.off)).heap[A]? = some (.cells (dkC e) 31 (0, 0)) := by
  unfold set5
  rw [setCell_box (setCell_box (setCell_box (setCell_box (setCell_box h 0 e.sv) 1 e.lv) 2 (.int .i64 e.m.left)) 3 (.bool e.m.fuse)) 4 (.bool e.m.off)]
  rfl
theorem set5_size (X : World) (b : Nat) (v0 v1 v2 v3 v4 : Value) : (set5 X b v0 v1 v2 v3 v4).heap.size = X.heap.size := by simp [set5, World.setCell]
def DiskR (w : World) (R : DM × Int) (e : Ending) (w' : World) : Prop := ∃ d' : DV, e = .returned (.tuple #[dkA d', .int .i64 R.2]) ∧ d'.m = R.1 ∧ IsD w' d' ∧ Below w.heap.size w w'
/-- The two boxes of a function that answers a disk: its own, and the answer's. -/
structure TwoB (w : World) (d : DV) (x : World) : Prop where
  a : x.heap[w.heap.size]? = some (.cells (dkC d) 31 (0, 0))
  b : x.heap[w.heap.size + 1]? = some (.cells (dkC zeroDV) 31 (0, 0))
  i : IsD x d
  l : Below w.heap.size w x
  s : w.heap.size + 2 ≤ x.heap.size
theorem two_start {w x : World} {d : DV} (hI : IsD w d) (h : Below (dkB w d).heap.size (dkB w d) x) : TwoB w d x := by
  obtain ⟨k0, k1, k2, k3⟩ := dk_boxB w d h
  exact ⟨k0, k1, hI.below k3, k3, by have := h.size; simp at this; exact this⟩
theorem TwoB.below {w x W : World} {d : DV} (h : TwoB w d x) (hb : Below x.heap.size x W) : TwoB w d W := ⟨(hb.block _ (by have := h.s; omega)).trans h.a, (hb.block _ (by have := h.s; omega)).trans h.b, h.i.below hb, h.l.trans (hb.mono h.l.size), Nat.le_trans h.s hb.size⟩
/-- The own box is written over. -/
theorem TwoB.put {w x : World} {d e : DV} (h : TwoB w d x) (hI : IsD x e) : TwoB w e (set5 x w.heap.size e.sv e.lv (.int .i64 e.m.left) (.bool e.m.fuse) (.bool e.m.off)) := by
  have o := set5_other x w.heap.size e.sv e.lv (.int .i64 e.m.left) (.bool e.m.fuse) (.bool e.m.off)
  refine ⟨set5_dk h.a, (o _ (by omega)).trans h.b, hI.but (noStr_dk h.i h.a) o, below_set5 (Nat.le_refl _) h.l _ _ _ _ _, ?_⟩
  rw [set5_size]
  exact h.s
theorem TwoB.done {w x : World} {d : DV} (h : TwoB w d x) (R : DM × Int) (hR : d.m = R.1) (v0 v1 v2 v3 v4 : Value) : DiskR w R (.returned (.tuple #[dkA d, .int .i64 R.2])) (set5 x (w.heap.size + 1) v0 v1 v2 v3 v4) :=
  ⟨d, rfl, hR, h.i.but (noStr_dk (isD_zero w) h.b) (set5_other x _ v0 v1 v2 v3 v4), below_set5 (by omega) h.l _ _ _ _ _⟩
/-- Two cells of the own box are written over. -/
theorem TwoB.cells {w x : World} {d : DV} (h : TwoB w d x) (v : Value) (s : List Bs) (hs : IsW x v s) : TwoB w ⟨{ d.m with safe := s, l := [] }, v, .slice none 0 0⟩ ((x.setCell ⟨w.heap.size, 0, none⟩ v).setCell ⟨w.heap.size, 1, none⟩ (.slice none 0 0)) := by
  have o : ∀ k, k ≠ w.heap.size → ((x.setCell ⟨w.heap.size, 0, none⟩ v).setCell ⟨w.heap.size, 1, none⟩ (.slice none 0 0)).heap[k]? = x.heap[k]? := fun k hk => by rw [Below.heap_setCell _ _ _ _ hk, Below.heap_setCell _ _ _ _ hk]
  refine ⟨?_, (o _ (by omega)).trans h.b, ⟨hs.but (noStr_dk h.i h.a) o, .inl ⟨rfl, _, _, rfl⟩⟩, (h.l.setCell (p := ⟨w.heap.size, 0, none⟩) (Nat.le_refl _) _).setCell (p := ⟨w.heap.size, 1, none⟩) (Nat.le_refl _) _, ?_⟩
  · rw [setCell_box (setCell_box h.a 0 v) 1 (.slice none 0 0)]
    rfl
  · have := h.s
    simp [World.setCell]
    omega
theorem spend_ok {d : DM} (h : OkD d) : OkD (spendD d).1 := by
  obtain ⟨e1, e2⟩ := spend_lists d
  exact ⟨by rw [e1, e2]; exact h.at_, by rw [e1]; exact h.safe, by rw [e2]; exact h.len, by rw [e1]; exact h.four⟩
set_option maxHeartbeats 4000000 in
theorem rflush_any (d : DV) (w : World) (hI : IsD w d) (hok : OkD d.m) (h1 : d.m.safe.length ≤ 100000) (h2 : d.m.l.length ≤ 100000) (hl : -9223372036854775808 < d.m.left ∧ d.m.left ≤ 9223372036854775807) :
    Calls Try.prog 30 #[dkA d] w fun e w' => DiskR w (flushD d.m) e w' := by
  obtain ⟨e1, e2⟩ := spend_lists d.m
  have hbw := (dk_boxB w d (Below.refl _ (dkB w d))).2.2.2
  have HS : Hid (Calls Try.prog 39 #[dkA d] (dkB w d) fun e w' => e = .returned (.tuple #[.agg #[d.sv, d.lv, .int .i64 (spendD d.m).1.left, .bool (spendD d.m).1.fuse, .bool (spendD d.m).1.off], .bool (spendD d.m).2]) ∧ Below (dkB w d).heap.size (dkB w d) w') := hide (rspend_any d (dkB w d) (hI.below hbw) hl)
  have HT := hide (fun x (b : Below (dkB w d).heap.size (dkB w d) x) => two_start (x := x) hI b)
  have HI1 : Hid (∀ x, IsD x d → IsD x ⟨(spendD d.m).1, d.sv, d.lv⟩) := hide (fun x h => ⟨by show IsW x d.sv (spendD d.m).1.safe; rw [e1]; exact h.s, by show IsP x d.lv (spendD d.m).1.l; rw [e2]; exact h.l⟩)
  have HNW : Hid (∀ x, IsD x ⟨(spendD d.m).1, d.sv, d.lv⟩ → Calls Try.prog 35 #[.agg #[d.sv, d.lv, .int .i64 (spendD d.m).1.left, .bool (spendD d.m).1.fuse, .bool (spendD d.m).1.off]] x fun e w' => ∃ a c, e = .returned (.slice a (nowD (spendD d.m).1).length c) ∧ IsW w' (.slice a (nowD (spendD d.m).1).length c) (nowD (spendD d.m).1) ∧ Below x.heap.size x w') := hide (fun x h => (rnow_any ⟨(spendD d.m).1, d.sv, d.lv⟩ x h (spend_ok hok) (by show (spendD d.m).1.safe.length ≤ _; rw [e1]; exact h1) (by show (spendD d.m).1.l.length ≤ _; rw [e2]; exact h2)).mono fun e w' hh => by
    obtain ⟨v, rfl, ho, hb⟩ := hh
    obtain ⟨a, c, rfl⟩ := owns_formG ho
    exact ⟨a, c, rfl, (owns_isW ho).1, hb⟩)
  have hfl : flushD d.m = if (spendD d.m).2 then ({ (spendD d.m).1 with safe := nowD (spendD d.m).1, l := [] }, 0) else ((spendD d.m).1, 9) := rfl
  rw [hfl]
  clear hfl hok e1 e2 hl hbw
  generalize hsd : (spendD d.m).1 = m1 at *
  generalize (spendD d.m).2 = ok at *
  clear hsd
  generalize nowD m1 = NW at *
  obtain ⟨sa, sc, es⟩ := hI.s.form
  obtain ⟨la, lc, el⟩ := hI.l.form
  obtain ⟨m, sv, lv⟩ := d
  simp only [] at es el HS HT HI1 HNW
  subst es el
  generalize m.safe.length = k1 at *
  generalize m.l.length = k2 at *
  obtain ⟨safe1, l1, left1, fuse1, off1⟩ := m1
  simp only [] at *
  clear hI h1 h2
  cases ok
  · rw [if_neg (by simp)]
    go_enter Try.func30, Try.ntmps30
    go_wp2_with fail
    refine HS.out.mono ?_
    rintro e w1 ⟨rfl, b1⟩
    have t1 := HT.out w1 b1
    have t2 := t1.put (HI1.out _ t1.i)
    obtain ⟨x0, x1, x2, x3, x4, f0, f1, f2, f3, f4⟩ := dk_cells t1.a
    obtain ⟨y0, y1, y2, y3, y4, g0, g1, g2, g3, g4⟩ := dk_cells t1.b
    simp only [zeroDV] at x0 x1 x2 x3 x4 y0 y1 y2 y3 y4
    have ZZ := hide (t2.done (⟨safe1, l1, left1, fuse1, off1⟩, 9) rfl)
    simp only [] at ZZ
    clear t1 t2 HT HI1 HNW HS b1
    go_wp2
    refine bodyPost_ret (v := .tuple #[.agg #[.slice sa k1 sc, .slice la k2 lc, .int .i64 left1, .bool fuse1, .bool off1], .int .i64 9]) ?_ rfl (ZZ.out _ _ _ _ _)
    simp [results, Try.results30, go_sem, y0, y1, y2, y3, y4]
  · rw [if_pos rfl]
    go_enter Try.func30, Try.ntmps30
    go_wp2_with fail
    refine HS.out.mono ?_
    rintro e w1 ⟨rfl, b1⟩
    have t1 := HT.out w1 b1
    have t2 := t1.put (HI1.out _ t1.i)
    obtain ⟨x0, x1, x2, x3, x4, f0, f1, f2, f3, f4⟩ := dk_cells t1.a
    simp only [] at x0 x1 x2 x3 x4
    have HN2 := hide (HNW.out _ t2.i)
    have T2 := hide t2
    simp only [] at HN2 T2
    clear t1 t2 HT HI1 HNW HS b1
    go_wp2_with fail
    refine HN2.out.mono ?_
    rintro e w3 ⟨va, vc, rfl, hW3, b3⟩
    have t3 := T2.out.below b3
    have t4 := t3.cells _ _ hW3
    obtain ⟨x0, x1, x2, x3, x4, f0, f1, f2, f3, f4⟩ := dk_cells t3.a
    obtain ⟨y0, y1, y2, y3, y4, g0, g1, g2, g3, g4⟩ := dk_cells t3.b
    simp only [zeroDV] at x0 x1 x2 x3 x4 y0 y1 y2 y3 y4
    have ZZ := hide (t4.done (⟨NW, [], left1, fuse1, off1⟩, 0) rfl)
    simp only [] at ZZ
    clear t3 t4 T2 b3 HN2 hW3
    generalize NW.length = nwl at *
    go_wp2
    refine bodyPost_ret (v := .tuple #[.agg #[.slice va nwl vc, .slice none 0 0, .int .i64 left1, .bool fuse1, .bool off1], .int .i64 0]) ?_ rfl (ZZ.out _ _ _ _ _)
    simp [results, Try.results30, go_sem, y0, y1, y2, y3, y4]
end Go.Proofs.Yteacldkfdhhphaa
