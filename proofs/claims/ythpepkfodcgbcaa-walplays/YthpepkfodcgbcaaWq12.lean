import Derived.Test.YthpepkfodcgbcaaWq11
import Derived.Test.YthpepkfodcgbcaaWq09
import Derived.Test.YthpepkfodcgbcaaWq06
import Derived.Test.YthpepkfodcgbcaaWq04
import Derived.Maps.AppendAt
import Derived.Laws.BytesArg
import Derived.Lib.ConvBytes
/- What the document's Append answers where nothing is appended. -/
set_option linter.unusedVariables false
set_option linter.unusedSimpArgs false
set_option maxRecDepth 40000
namespace Go.Proofs.Ythpepkfodcgbcaa
open Go.RowKit

set_option maxHeartbeats 8000000 in
theorem rappend_no (g : LgV) (d : DV) (bv : Value) (b : Bs) (w : World) (P : Nat → Prop) (hP : ∀ k, w.heap.size ≤ k → P k) (hG : IsG P w g) (hI : IsD w d) (hY : IsY w bv b) (hO : OkG g.m) (hl : b.length ≤ 1000000) (hw : whyW g.m b ≠ 0) :
    Calls Try.prog 15 #[lgA g, dkA d, bv] w (LogDR P w (appendW g.m d.m b).1 (appendW g.m d.m b).2.1 (appendW g.m d.m b).2.2) := by
  have hF := four_start hP hG hI
  obtain ⟨ra, rc, er⟩ := hG.form
  obtain ⟨sa, sc, es⟩ := hI.s.form
  obtain ⟨la, lc, el⟩ := hI.l.form
  obtain ⟨ba, bc, rfl⟩ := hY.form
  have hap : appendW g.m d.m b = (g.m, d.m, whyW g.m b) := by unfold appendW; rw [if_neg hw]
  rw [hap]
  have HWY : Hid (whyW g.m b = if b.length = 0 then 1 else if 6000 < b.length then 4 else if g.m.broken then 9 else if roomW g.m < b.length then 3 else 0) := hide rfl
  have HRM : Hid (Calls Try.prog 27 #[lgA g] (ldW w g d) fun e w' => e = .returned (.int .i64 (roomW g.m : Int)) ∧ Hid (FourB P w g d w')) := hide ((rroom_any g _ hO).mono fun e w' hh => ⟨hh.1, hide (hF.below hh.2)⟩)
  generalize whyW g.m b = E at *
  generalize roomW g.m = RM at *
  have HF4 := hide hF
  clear hG hI hY hF hap hO
  obtain ⟨m, sv, lv⟩ := d
  obtain ⟨⟨first, size, ep, li, en, recs, broken⟩, rv⟩ := g
  simp only at er es el HWY
  subst er es el
  generalize recs.length = rl at *
  generalize m.safe.length = k1 at *
  generalize m.l.length = k2 at *
  generalize b.length = bl at *
  by_cases c1 : bl = 0
  · subst c1
    obtain rfl : E = 1 := by rw [HWY.out, if_pos rfl]
    clear HWY HRM hw hl
    go_enter Try.func15, Try.ntmps15
    go_wp2
    have FB : FourB P w ⟨⟨first, size, ep, li, en, recs, broken⟩, .slice ra rl rc⟩ ⟨m, .slice sa k1 sc, .slice la k2 lc⟩ ((((w.alloc (.cells (lgC ⟨⟨first, size, ep, li, en, recs, broken⟩, .slice ra rl rc⟩) 40)).alloc (.cells (dkC ⟨m, .slice sa k1 sc, .slice la k2 lc⟩) 31)).alloc (.cells #[.int .i64 0, .int .i64 0, .int .u64 0, .int .u64 0, .int .i64 0, .slice none 0 0, .bool false] 40)).alloc (.cells #[.slice none 0 0, .slice none 0 0, .int .i64 0, .bool false, .bool false] 31)) := HF4.out
    clear HF4
    generalize ((((w.alloc (.cells (lgC ⟨⟨first, size, ep, li, en, recs, broken⟩, .slice ra rl rc⟩) 40)).alloc (.cells (dkC ⟨m, .slice sa k1 sc, .slice la k2 lc⟩) 31)).alloc (.cells #[.int .i64 0, .int .i64 0, .int .u64 0, .int .u64 0, .int .i64 0, .slice none 0 0, .bool false] 40)).alloc (.cells #[.slice none 0 0, .slice none 0 0, .int .i64 0, .bool false, .bool false] 31)) = W at FB ⊢
    obtain ⟨⟨x0, x1, x2, x3, x4, x5, x6⟩, f0, f1, f2, f3, f4, f5, f6⟩ := lg_cells FB.a
    obtain ⟨y0, y1, y2, y3, y4, g0, g1, g2, g3, g4⟩ := dk_cells FB.b
    obtain ⟨⟨p0, p1, p2, p3, p4, p5, p6⟩, q0, q1, q2, q3, q4, q5, q6⟩ := lg_cells FB.c
    obtain ⟨r0, r1, r2, r3, r4, t0, t1, t2, t3, t4⟩ := dk_cells FB.e
    have HFB := hide (FB.done 1)
    clear FB
    simp only at x0 x1 x2 x3 x4 x5 x6 y0 y1 y2 y3 y4 HFB
    go_region
    go_wp2
    refine bodyPost_ret (v := .tuple #[lgA ⟨⟨first, size, ep, li, en, recs, broken⟩, .slice ra rl rc⟩, dkA ⟨m, .slice sa k1 sc, .slice la k2 lc⟩, .int .i64 1]) ?_ rfl ?_
    · simp [results, Try.results15, go_sem, p0, p1, p2, p3, p4, p5, p6, r0, r1, r2, r3, r4]
    · exact (HFB.out _ _ _ _ _ _ _ _ _ _ _ _).1.drew
  · have n1 : ((bl : Int) == 0) = false := by rw [beq_eq_false_iff_ne]; omega
    by_cases c2 : 6000 < bl
    · obtain rfl : E = 4 := by rw [HWY.out, if_neg c1, if_pos c2]
      have n2 : (6000 : Int) < bl := by omega
      clear HWY HRM hw
      go_enter Try.func15, Try.ntmps15
      go_wp2
      have FB : FourB P w ⟨⟨first, size, ep, li, en, recs, broken⟩, .slice ra rl rc⟩ ⟨m, .slice sa k1 sc, .slice la k2 lc⟩ ((((w.alloc (.cells (lgC ⟨⟨first, size, ep, li, en, recs, broken⟩, .slice ra rl rc⟩) 40)).alloc (.cells (dkC ⟨m, .slice sa k1 sc, .slice la k2 lc⟩) 31)).alloc (.cells #[.int .i64 0, .int .i64 0, .int .u64 0, .int .u64 0, .int .i64 0, .slice none 0 0, .bool false] 40)).alloc (.cells #[.slice none 0 0, .slice none 0 0, .int .i64 0, .bool false, .bool false] 31)) := HF4.out
      clear HF4
      generalize ((((w.alloc (.cells (lgC ⟨⟨first, size, ep, li, en, recs, broken⟩, .slice ra rl rc⟩) 40)).alloc (.cells (dkC ⟨m, .slice sa k1 sc, .slice la k2 lc⟩) 31)).alloc (.cells #[.int .i64 0, .int .i64 0, .int .u64 0, .int .u64 0, .int .i64 0, .slice none 0 0, .bool false] 40)).alloc (.cells #[.slice none 0 0, .slice none 0 0, .int .i64 0, .bool false, .bool false] 31)) = W at FB ⊢
      clear n1 n2 c1 c2 hl
      obtain ⟨⟨x0, x1, x2, x3, x4, x5, x6⟩, f0, f1, f2, f3, f4, f5, f6⟩ := lg_cells FB.a
      obtain ⟨y0, y1, y2, y3, y4, g0, g1, g2, g3, g4⟩ := dk_cells FB.b
      obtain ⟨⟨p0, p1, p2, p3, p4, p5, p6⟩, q0, q1, q2, q3, q4, q5, q6⟩ := lg_cells FB.c
      obtain ⟨r0, r1, r2, r3, r4, t0, t1, t2, t3, t4⟩ := dk_cells FB.e
      have HFB := hide (FB.done 4)
      clear FB
      simp only at x0 x1 x2 x3 x4 x5 x6 y0 y1 y2 y3 y4 HFB
      go_region
      go_wp2
      refine bodyPost_ret (v := .tuple #[lgA ⟨⟨first, size, ep, li, en, recs, broken⟩, .slice ra rl rc⟩, dkA ⟨m, .slice sa k1 sc, .slice la k2 lc⟩, .int .i64 4]) ?_ rfl ?_
      · simp [results, Try.results15, go_sem, p0, p1, p2, p3, p4, p5, p6, r0, r1, r2, r3, r4]
      · exact (HFB.out _ _ _ _ _ _ _ _ _ _ _ _).1.drew
    · have n2 : ¬ (6000 : Int) < bl := by omega
      have n3 : bl ≤ 6000 := by omega
      cases hbk : broken
      · subst hbk
        by_cases c4 : RM < bl
        · obtain rfl : E = 3 := by rw [HWY.out, if_neg c1, if_neg c2, if_neg (by simp), if_pos c4]
          have n4 : (RM : Int) < bl := by omega
          clear HWY hw HF4
          go_enter Try.func15, Try.ntmps15
          go_wp2_with fail
          refine HRM.out.mono ?_
          rintro e W ⟨rfl, HFB0⟩
          clear HRM
          go_wp2
          have FB := HFB0.out
          clear HFB0 n1 n2 n3 n4 c1 c2 c4 hl
          obtain ⟨⟨x0, x1, x2, x3, x4, x5, x6⟩, f0, f1, f2, f3, f4, f5, f6⟩ := lg_cells FB.a
          obtain ⟨y0, y1, y2, y3, y4, g0, g1, g2, g3, g4⟩ := dk_cells FB.b
          obtain ⟨⟨p0, p1, p2, p3, p4, p5, p6⟩, q0, q1, q2, q3, q4, q5, q6⟩ := lg_cells FB.c
          obtain ⟨r0, r1, r2, r3, r4, t0, t1, t2, t3, t4⟩ := dk_cells FB.e
          have HFB := hide (FB.done 3)
          clear FB
          simp only at x0 x1 x2 x3 x4 x5 x6 y0 y1 y2 y3 y4 HFB
          go_region
          go_wp2
          refine bodyPost_ret (v := .tuple #[lgA ⟨⟨first, size, ep, li, en, recs, false⟩, .slice ra rl rc⟩, dkA ⟨m, .slice sa k1 sc, .slice la k2 lc⟩, .int .i64 3]) ?_ rfl ?_
          · simp [results, Try.results15, go_sem, p0, p1, p2, p3, p4, p5, p6, r0, r1, r2, r3, r4]
          · exact (HFB.out _ _ _ _ _ _ _ _ _ _ _ _).1.drew
        · exfalso
          exact hw (by rw [HWY.out, if_neg c1, if_neg c2, if_neg (by simp), if_neg c4])
      · subst hbk
        obtain rfl : E = 9 := by rw [HWY.out, if_neg c1, if_neg c2, if_pos rfl]
        clear HWY HRM hw
        go_enter Try.func15, Try.ntmps15
        go_wp2
        have FB : FourB P w ⟨⟨first, size, ep, li, en, recs, true⟩, .slice ra rl rc⟩ ⟨m, .slice sa k1 sc, .slice la k2 lc⟩ ((((w.alloc (.cells (lgC ⟨⟨first, size, ep, li, en, recs, true⟩, .slice ra rl rc⟩) 40)).alloc (.cells (dkC ⟨m, .slice sa k1 sc, .slice la k2 lc⟩) 31)).alloc (.cells #[.int .i64 0, .int .i64 0, .int .u64 0, .int .u64 0, .int .i64 0, .slice none 0 0, .bool false] 40)).alloc (.cells #[.slice none 0 0, .slice none 0 0, .int .i64 0, .bool false, .bool false] 31)) := HF4.out
        clear HF4
        generalize ((((w.alloc (.cells (lgC ⟨⟨first, size, ep, li, en, recs, true⟩, .slice ra rl rc⟩) 40)).alloc (.cells (dkC ⟨m, .slice sa k1 sc, .slice la k2 lc⟩) 31)).alloc (.cells #[.int .i64 0, .int .i64 0, .int .u64 0, .int .u64 0, .int .i64 0, .slice none 0 0, .bool false] 40)).alloc (.cells #[.slice none 0 0, .slice none 0 0, .int .i64 0, .bool false, .bool false] 31)) = W at FB ⊢
        clear n1 n2 n3 c1 c2 hl
        obtain ⟨⟨x0, x1, x2, x3, x4, x5, x6⟩, f0, f1, f2, f3, f4, f5, f6⟩ := lg_cells FB.a
        obtain ⟨y0, y1, y2, y3, y4, g0, g1, g2, g3, g4⟩ := dk_cells FB.b
        obtain ⟨⟨p0, p1, p2, p3, p4, p5, p6⟩, q0, q1, q2, q3, q4, q5, q6⟩ := lg_cells FB.c
        obtain ⟨r0, r1, r2, r3, r4, t0, t1, t2, t3, t4⟩ := dk_cells FB.e
        have HFB := hide (FB.done 9)
        clear FB
        simp only at x0 x1 x2 x3 x4 x5 x6 y0 y1 y2 y3 y4 HFB
        go_region
        go_wp2
        refine bodyPost_ret (v := .tuple #[lgA ⟨⟨first, size, ep, li, en, recs, true⟩, .slice ra rl rc⟩, dkA ⟨m, .slice sa k1 sc, .slice la k2 lc⟩, .int .i64 9]) ?_ rfl ?_
        · simp [results, Try.results15, go_sem, p0, p1, p2, p3, p4, p5, p6, r0, r1, r2, r3, r4]
        · exact (HFB.out _ _ _ _ _ _ _ _ _ _ _ _).1.drew
end Go.Proofs.Ythpepkfodcgbcaa
/- What the document's Append wants: sectors that are laid one by one, blocks that are written one by one. -/
set_option linter.unusedVariables false
set_option linter.unusedSimpArgs false
set_option maxRecDepth 40000
namespace Go.Proofs.Ythpepkfodcgbcaa
open Go.RowKit

theorem laid_zero (s : List Bs) (a : Nat) : laidW s a [] = s := by
  unfold laidW
  rw [List.nil_append, List.length_nil, Nat.add_zero, List.take_append_drop]
theorem laid_set (s : List Bs) (a : Nat) (xs : List Bs) (h : a + xs.length ≤ s.length) (i : Nat) (hi : i < xs.length) : laidW s a (xs.take (i + 1)) = (laidW s a (xs.take i)).set (a + i) xs[i] := by
  have l1 : (xs.take i).length = i := by rw [List.length_take]; omega
  have l2 : (xs.take (i + 1)).length = i + 1 := by rw [List.length_take]; omega
  apply List.ext_getElem?
  intro j
  rw [List.getElem?_set]
  by_cases hj : a + i = j
  · subst hj
    rw [if_pos rfl, if_pos (by rw [laidW_len _ _ _ (by omega)]; omega), laidW_in _ _ _ (by omega) i (by omega), List.getElem?_take, if_pos (by omega), List.getElem?_eq_getElem hi]
  · rw [if_neg hj]
    by_cases hj2 : a ≤ j ∧ j < a + i
    · obtain ⟨k, rfl⟩ : ∃ k, j = a + k := ⟨j - a, by omega⟩
      rw [laidW_in _ _ _ (by omega) k (by omega), laidW_in _ _ _ (by omega) k (by omega), List.getElem?_take, List.getElem?_take, if_pos (by omega), if_pos (by omega)]
    · rw [laidW_out _ _ _ (by omega) j (by omega), laidW_out _ _ _ (by omega) j (by omega)]
/-- The blocks that are still to be written. -/
theorem writes_succ (s : List Bs) (d : DM) (k n : Nat) : writesW s d (k + 1) n = if (writeD d (n : Int) (blkW s n)).2 = 0 then writesW s (writeD d (n : Int) (blkW s n)).1 k (n + 1) else writeD d (n : Int) (blkW s n) := rfl
/-- A row of the call's own is written over at one place. -/
theorem row_store {w X : World} {N g cap : Nat} {l : List Bs} (h : w.ownsRow X.heap.size 9 1 (.slice (some ⟨g, 0, none⟩) N cap) N (textsV l)) (hb : Below X.heap.size X w) (hN : N = l.length) (j : Nat) (hj : j < N) (x : Bs) :
    (∃ old, w.cell? ⟨g, j, none⟩ = some old) ∧ w.frozen? ⟨g, j, none⟩ = false ∧ (w.setCell ⟨g, j, none⟩ (.string ⟨x.toArray⟩)).ownsRow X.heap.size 9 1 (.slice (some ⟨g, 0, none⟩) N cap) N (textsV (l.set j x)) ∧ Below X.heap.size X (w.setCell ⟨g, j, none⟩ (.string ⟨x.toArray⟩)) := by
  have q0 : w.cell? ⟨g, j, none⟩ = (textsV l)[j]? := h.cellAt j (by omega)
  have hst := (h.stored j (.string ⟨x.toArray⟩)).1
  rw [← textsV_set] at hst
  exact ⟨⟨_, q0.trans (List.getElem?_eq_getElem (by rw [textsV_len]; omega))⟩, h.frozenAt j, hst, hb.setCell (p := ⟨g, j, none⟩) (h.lt g rfl).1 _⟩
def CutA (w : World) (cs : List CL) (e : Ending) (w' : World) : Prop := ∃ (a : Option Addr) (c : Nat) (vs : List (CL × Value)), e = .returned (.slice a cs.length c) ∧ Hid (IsL w' (.slice a cs.length c) vs) ∧ Hid (vs.map Prod.fst = cs) ∧ Hid (Below w.heap.size w w')
theorem rcutA (bv : Value) (b : Bs) (ep li : Nat) (w : World) (hY : IsY w bv b) (hl : b.length ≤ 1000000) (he : ep < 18446744073709551616) (hli : li < 18446744073709551616) :
    Calls Try.prog 48 #[bv, .int .u64 (ep : Int), .int .u64 (li : Int)] w (CutA w (cutC b ep li)) := (rcut_any bv b ep li w hY hl he hli).mono fun e w' hh => by
  obtain ⟨v, vs, rfl, hI, hm, hb⟩ := hh
  obtain ⟨a, c, rfl⟩ := hI.form
  have hl : vs.length = (cutC b ep li).length := by rw [← hm, List.length_map]
  rw [hl] at hI ⊢
  exact ⟨a, c, vs, rfl, hide hI, hide hm, hide hb⟩
/-- What Encode answers of a cell that may be. -/
def EncA (w : World) (c : CL) (e : Ending) (w' : World) : Prop := ∃ (a : Option Addr) (k : Nat), e = .returned (.tuple #[.slice a 64 k, .int .i64 0]) ∧ (convert 43 9 (.slice a 64 k)).run Try.prog w' = .ok (.string ⟨(encC c).toArray⟩) w' ∧ Hid (Below w.heap.size w w')
theorem rencA (c : CL) (dv : Value) (w : World) (hC : IsC w c dv) (hm : mayC c) : Calls Try.prog 50 #[clA c dv] w (EncA w c) := (renc_any c dv w hC).mono fun e w' hh => by
  obtain ⟨hb, ⟨h1, _⟩ | ⟨_, a, k, rfl, ho⟩⟩ := hh
  · exact absurd hm h1
  · refine ⟨a, k, rfl, ?_, hide hb⟩
    have hl := enc_len c hm.2.2.2
    have h2 : w'.ownsRow w.heap.size 5 1 (.slice a 64 k) (encC c).length (Lib.byteCells (encC c)) := by rw [hl]; exact ho
    exact conv_isYC (owns_isYB h2)
theorem RecS.recsIn {P : Nat → Prop} {n0 B C : Nat} {x : World} {l : List (Bs × Value)} {v : Value} (h : RecS P n0 B x l v) (hc : C ≤ B) : RecsIn P n0 C x v (l.map Prod.fst) :=
  ⟨l, rfl, owns_isR (B := B) (n := l.length) (.inr h.o) (fun k hk => ⟨.inr (by have := (h.o.lt k hk).1; omega), (h.o.lt k hk).2⟩) fun y hy => ⟨(h.c y hy).1, fun hl k hk => ⟨((h.c y hy).2 hl k hk).1.elim .inl (fun q => .inr (by omega)), ((h.c y hy).2 hl k hk).2⟩⟩⟩
/-- A record more behind copies of the others, and the box written over. -/
theorem four_append {P : Nat → Prop} {w V : World} {g : LgV} {d : DV} (F : FourB P w g d V) (hG : IsG P w g) {ba : Option Addr} {bc : Nat} {b : Bs} (hY : IsY w (.slice ba b.length bc) b) (hb : b.length ≤ 1000000) (hr : g.m.recs.length ≤ 100000) (en : Nat) :
    ∃ a1 c1 W1 a2 c2 W2 a3 c3 W3, (Builtin.append_ #[38, 38] 38 #[.slice (some ⟨V.heap.size, 0, none⟩) 0 0, g.rv]).run Try.prog (V.alloc (.cells #[] 43)) = .ok (.slice a1 g.m.recs.length c1) W1 ∧
      (Builtin.append_ #[43, 43] 43 #[.slice (some ⟨W1.heap.size, 0, none⟩) 0 0, .slice ba b.length bc]).run Try.prog (W1.alloc (.cells #[] 5)) = .ok (.slice a2 b.length c2) W2 ∧
      (Builtin.append_ #[38, 38] 38 #[.slice a1 g.m.recs.length c1, .slice (some ⟨W2.heap.size, 0, none⟩) 1 1]).run Try.prog (W2.alloc (.cells #[.slice a2 b.length c2] 43)) = .ok (.slice a3 (g.m.recs.length + 1) c3) W3 ∧
      FourB P w g d W3 ∧ (∀ u, (W3.setCell ⟨w.heap.size, 5, none⟩ u).cell? ⟨w.heap.size, 4, none⟩ = some (.int .i64 (g.m.end_ : Int))) ∧
      FourB P w ⟨{ g.m with end_ := en, recs := g.m.recs ++ [b] }, .slice a3 (g.m.recs.length + 1) c3⟩ d ((W3.setCell ⟨w.heap.size, 5, none⟩ (.slice a3 (g.m.recs.length + 1) c3)).setCell ⟨w.heap.size, 4, none⟩ (.int .i64 (en : Int))) := by
  obtain ⟨l, hl, hR⟩ := hG
  have hll : l.length = g.m.recs.length := by rw [← hl, List.length_map]
  have hz : ∀ y ∈ l, ∃ a n c, y.2 = .slice a n c := fun y hy => by
    obtain ⟨a, c, e⟩ := (hR.2 y hy).1.form
    exact ⟨a, _, c, e⟩
  have hal := below_alloc V (.cells #[] 43)
  have hwV : w.heap.size + 4 ≤ V.heap.size := F.s
  have hRV := hR.keep (W := V.alloc (.cells #[] 43)) fun k hk => (hal.block k (by omega)).trans (F.l.block k hk.2)
  obtain ⟨a1, c1, W1, r1, o1, q1, t1⟩ := append_recs (V.alloc (.cells #[] 43)) V.heap.size 0 (.slice (some ⟨V.heap.size, 0, none⟩) 0 0) g.rv [] l _ (own_noR V _ (Nat.le_refl _)) ⟨_, _, _, rfl⟩ hRV hz (by omega) (by omega) hal.size
  rw [Nat.zero_add] at r1 o1
  rw [List.nil_append] at o1
  have hk1 : ∀ k, k < V.heap.size → W1.heap[k]? = V.heap[k]? := fun k hk => (q1.block k (Nat.lt_of_lt_of_le hk hal.size) (fun e => by have h9 : V.heap.size = k := Option.some.inj e.symm; omega)).trans (hal.block k hk)
  have hb1 : Below V.heap.size V W1 := ⟨q1.os, q1.tape, q1.output, Nat.le_trans hal.size q1.size, hk1⟩
  have S1 : RecS P w.heap.size V.heap.size W1 l (.slice a1 l.length c1) := by
    refine ⟨o1, fun y hy => ?_, fun y hy hl2 k hk e => ?_, hz⟩
    · have h1 := (hR.2 y hy).keep (W := W1) fun k hk => (hk1 k (by omega)).trans (F.l.block k hk.2)
      exact ⟨h1.1, fun hl2 k hk => ⟨.inl ⟨(h1.2 hl2 k hk).2, (h1.2 hl2 k hk).1⟩, by have := h1.2 hl2 k hk; have := hb1.size; omega⟩⟩
    · have h1 := (hR.2 y hy).2 hl2 k e
      have h2 := (o1.lt k hk).1
      omega
  have hYW : IsY W1 (.slice ba b.length bc) b := hY.below (F.l.trans (hb1.mono F.l.size))
  obtain ⟨a2, c2, W2, r2, o2, b2⟩ := copyC W1 _ b hYW hb
  have S2 := S1.below b2
  obtain ⟨a3, c3, W3, r3, S3, ⟨b3, k3⟩, _⟩ := S2.step (d := b) (owns_isYB o2) (fun _ j hj => ⟨.inr (by have := (o2.lt j hj).1; have := hb1.size; omega), fun e => by have := (o2.lt j hj).1; have := (S1.o.lt j e).2; omega⟩) (by omega) (by have := hb1.size; have := b2.size; omega) (by omega)
  have hbV3 : Below V.heap.size V W3 := hb1.trans ((b2.mono hb1.size).trans ⟨b3.os, b3.tape, b3.output, b3.size, fun k hk => b3.block k (by omega)⟩)
  have F3 := F.below hbV3
  obtain ⟨⟨x0, x1, x2, x3, x4, x5, x6⟩, f0, f1, f2, f3, f4, f5, f6⟩ := lg_cells F3.a
  rw [hll] at r1 r3 S3
  refine ⟨a1, c1, W1, a2, c2, W2, a3, c3, W3, r1, r2, r3, F3, fun u => (World.cell?_setCell_other _ _ _ _ (by intro e; injection e; omega)).trans x4, ?_⟩
  have ho : ∀ k, k ≠ w.heap.size → ((W3.setCell ⟨w.heap.size, 5, none⟩ (.slice a3 (g.m.recs.length + 1) c3)).setCell ⟨w.heap.size, 4, none⟩ (.int .i64 (en : Int))).heap[k]? = W3.heap[k]? := fun k hk => by rw [Below.heap_setCell _ _ _ _ hk, Below.heap_setCell _ _ _ _ hk]
  have hsz : ((W3.setCell ⟨w.heap.size, 5, none⟩ (.slice a3 (g.m.recs.length + 1) c3)).setCell ⟨w.heap.size, 4, none⟩ (.int .i64 (en : Int))).heap.size = W3.heap.size := by simp [World.setCell]
  have hf : ∃ a n c, g.rv = .slice a n c := by obtain ⟨a, c, e⟩ := F3.g.form; exact ⟨_, _, _, e⟩
  refine ⟨?_, (ho _ (by omega)).trans F3.b, (ho _ (by omega)).trans F3.c, (ho _ (by omega)).trans F3.e, ?_, F3.i.but (noStr_lg hf F3.a) ho, (F3.l.setCell (p := ⟨w.heap.size, 5, none⟩) (Nat.le_refl _) _).setCell (p := ⟨w.heap.size, 4, none⟩) (Nat.le_refl _) _, by rw [hsz]; exact F3.s, F3.p⟩
  · rw [setCell_box (setCell_box F3.a 5 _) 4 _]
    rfl
  · have h1 := S3.recsIn (C := w.heap.size + 4) hwV
    rw [List.map_append, hl] at h1
    exact h1.keep (by rw [hsz]; exact Nat.le_refl _) fun k hk _ => ho k (by omega)
end Go.Proofs.Ythpepkfodcgbcaa
/- What the program's mayBe, number, bytes.Clone and bytes.Equal answer. -/
set_option linter.unusedVariables false
set_option linter.unusedSimpArgs false
set_option maxRecDepth 40000
namespace Go.Proofs.Ythpepkfodcgbcaa
open Go.RowKit

set_option maxHeartbeats 1000000 in
theorem pmay_any (c : CL) (dv : Value) (w : World) (hC : IsC w c dv) : Calls Try.prog 78 #[clA c dv] w fun e w' => e = .returned (.bool (decide (mayC c))) ∧ Below w.heap.size w w' := by
  have BB := hide (below_alloc w (.cells (clC c dv) 90))
  obtain ⟨a, k, rfl⟩ := hC.d.form
  have hM : decide (mayC c) = (decide (0 ≤ c.part) && (decide (c.part < c.of) && (decide (c.of ≤ 65535) && decide (((c.data.length : Nat) : Int) ≤ 39)))) := by
    rw [← Bool.decide_and, ← Bool.decide_and, ← Bool.decide_and]
    apply decide_eq_decide.2
    unfold mayC
    omega
  rw [hM]
  clear hM hC
  obtain ⟨ep, li, part, of, data⟩ := c
  simp only [] at *
  generalize data.length = m at *
  by_cases h1 : 0 ≤ part
  · rw [decide_eq_true h1, Bool.true_and]
    by_cases h2 : part < of
    · rw [decide_eq_true h2, Bool.true_and]
      by_cases h3 : of ≤ 65535
      · rw [decide_eq_true h3, Bool.true_and]
        by_cases h4 : (m : Int) ≤ 39
        · rw [decide_eq_true h4]
          go_enter Try.func78, Try.ntmps78
          go_wp2
          go_ret
          exact ⟨rfl, BB.out⟩
        · rw [decide_eq_false h4]
          go_enter Try.func78, Try.ntmps78
          go_wp2
          go_ret
          exact ⟨rfl, BB.out⟩
      · rw [decide_eq_false h3, Bool.false_and]
        go_enter Try.func78, Try.ntmps78
        go_wp2
        go_ret
        exact ⟨rfl, BB.out⟩
    · rw [decide_eq_false h2, Bool.false_and]
      go_enter Try.func78, Try.ntmps78
      go_wp2
      go_ret
      exact ⟨rfl, BB.out⟩
  · rw [decide_eq_false h1, Bool.false_and]
    go_enter Try.func78, Try.ntmps78
    go_wp2
    go_ret
    exact ⟨rfl, BB.out⟩
/-- A byte behind a number that was moved up by eight bits. -/
theorem or_byte (n : Nat) (c : UInt8) (h : n * 256 + c.toNat < 18446744073709551616) : bits BinOp.or IntKind.u64 ((n * 256 : Nat) : Int) (c.toNat : Int) = ((n * 256 + c.toNat : Nat) : Int) := by
  have hc := c.toNat_lt
  have h1 : BitVec.ofInt 64 ((n * 256 : Nat) : Int) = BitVec.ofNat 64 (n * 256) := by rw [BitVec.ofInt_natCast]
  have h2 : BitVec.ofInt 64 (c.toNat : Int) = BitVec.ofNat 64 c.toNat := by rw [BitVec.ofInt_natCast]
  show IntKind.u64.wrap ((BitVec.ofInt 64 ((n * 256 : Nat) : Int) ||| BitVec.ofInt 64 (c.toNat : Int)).toNat : Int) = _
  rw [h1, h2, BitVec.toNat_or, BitVec.toNat_ofNat, BitVec.toNat_ofNat, Nat.mod_eq_of_lt (show n * 256 < 2 ^ 64 by omega), Nat.mod_eq_of_lt (show c.toNat < 2 ^ 64 by omega)]
  have h3 : n * 256 ||| c.toNat = n * 256 + c.toNat := by
    have h4 := Nat.shiftLeft_add_eq_or_of_lt (show c.toNat < 2 ^ 8 by omega) n
    rw [Nat.shiftLeft_eq] at h4
    exact h4.symm
  rw [h3]
  simp only [IntKind.wrap]
  rw [show IntKind.u64.signed = false from rfl, Bool.false_and, if_neg (by simp)]
  show ((n * 256 + c.toNat : Nat) : Int) % 18446744073709551616 = _
  omega
set_option maxHeartbeats 4000000 in
theorem pnumber_any (bv : Value) (b : Bs) (w : World) (hY : IsY w bv b) (hl : b.length ≤ 8) : Calls Try.prog 72 #[bv] w fun e w' => e = .returned (.int .u64 (numB b : Int)) ∧ w' = w := by
  obtain ⟨ba, bc, rfl⟩ := hY.form
  have HY := hide hY
  have HS := hide (fun i hi => num_some b i hi hl)
  clear hY
  go_enter Try.func72, Try.ntmps72
  go_wp2
  go_loop [3, 8] (fun nv iv => ∃ (i : Nat), iv = .int .i64 (i : Int) ∧ i ≤ b.length ∧ nv = .int .u64 (numB (b.take i) : Int)) (fun _ iv => b.length - (intOf iv).toNat)
  case atStart => exact ⟨0, rfl, Nat.zero_le _, rfl⟩
  case round =>
    obtain ⟨i, rfl, hi, rfl⟩ := hrel
    by_cases hlt : i < b.length
    · have hlt2 : (i : Int) < b.length := by omega
      have hs1 := HS.out (i + 1) (by omega)
      have hn := num_next b i hlt
      rcases HY.out with ⟨h0, _⟩ | ⟨bb, bo, cap, e, hc1, hc2⟩
      · rw [h0] at hlt; simp at hlt
      injection e with e _ e3
      subst e e3
      have hcell := hc2 i hlt
      have hc0 : b[i].toNat < 256 := b[i].toNat_lt
      rw [hn] at hs1
      have hor := or_byte (numB (b.take i)) b[i] hs1
      clear hc1 hc2
      generalize b[i].toNat = c0 at *
      have HN := hide hn
      have HOR := hide hor
      clear hn hor
      generalize numB (b.take i) = N0 at *
      have hs2 : N0 * 256 + c0 < 18446744073709551616 := hs1
      clear hs1
      go_wp2
      go_round
      case rel => exact ⟨i + 1, by go_num, by omega, by rw [HN.out]; first | (rw [← HOR.out]; go_num) | (rw [← HOR.out]; rfl) | trace_state⟩
      case measure => simp [intOf]; omega
    · have hlt2 : ¬ (i : Int) < b.length := by omega
      have he : i = b.length := by omega
      subst he
      rw [List.take_length]
      go_wp2
      go_ret
      exact ⟨rfl, rfl⟩
/-- A row of bytes lies in a block from B on, or nowhere. -/
def NewV (w w' : World) (v : Value) : Prop := ∀ k, v.ownBlock = some k → w.heap.size ≤ k ∧ k < w'.heap.size
def CloneR (w : World) (b : Bs) (e : Ending) (w' : World) : Prop := ∃ a c, e = .returned (.slice a b.length c) ∧ IsY w' (.slice a b.length c) b ∧ NewV w w' (.slice a b.length c) ∧ Below w.heap.size w w'
set_option maxHeartbeats 4000000 in
theorem pclone_any (bv : Value) (b : Bs) (w : World) (hY : IsY w bv b) (hl : b.length ≤ 1000000) : Calls Try.prog 55 #[bv] w (CloneR w b) := by
  obtain ⟨ba, bc, rfl⟩ := hY.form
  cases ba with
  | none =>
    rcases hY with ⟨rfl, _⟩ | ⟨bb, bo, cap, e, _⟩
    · have hnv : NewV w w (.slice none 0 0) := fun k hk => by cases hk
      have HF : Hid (CloneR w [] (Ending.returned (.slice none 0 0)) w) := hide ⟨none, 0, rfl, .inl ⟨rfl, _, _, rfl⟩, hnv, Below.refl _ _⟩
      have hq : ∀ W, (binOp BinOp.eql 43 (.slice none 0 bc) (.slice none 0 0)).run Try.prog W = .ok (.bool true) W := fun W => Lib.run_eql_slice_nil W 43 5 none 0 bc 0 0 Try.underlying43
      go_enter Try.func55, Try.ntmps55
      go_wp2
      go_ret
      exact HF.out
    · cases e
  | some ad =>
    obtain ⟨a, c, w1, hr, ho, hb⟩ := copyC w _ b hY hl
    have HF : Hid (CloneR w b (Ending.returned (.slice a b.length c)) w1) := hide ⟨a, c, rfl, owns_isYB ho, fun k hk => ho.lt k hk, hb⟩
    have HRUN := hide hr
    clear hr ho hb hY hl
    generalize b.length = m at *
    have hq : ∀ W, (binOp BinOp.eql 43 (.slice (some ad) m bc) (.slice none 0 0)).run Try.prog W = .ok (.bool false) W := fun W => Lib.run_eql_slice_nil W 43 5 (some ad) m bc 0 0 Try.underlying43
    go_enter Try.func55, Try.ntmps55
    go_wp2_with (at_builtin; refine wpList_append_run rfl _ _ 43 rfl _ _ _ _ rfl rfl HRUN.out ?_)
    go_ret
    exact HF.out
set_option maxHeartbeats 4000000 in
theorem pequal_any (av bv : Value) (a b : Bs) (w : World) (hA : IsY w av a) (hB : IsY w bv b) : Calls Try.prog 74 #[av, bv] w fun e w' => e = .returned (.bool (decide (a = b))) ∧ w' = w := by
  have h1 := conv_isYC hA
  have h2 := conv_isYC hB
  have HE : Hid ((a == b) = decide (a = b)) := hide (by by_cases h : a = b <;> simp [h])
  obtain ⟨aa, ac, rfl⟩ := hA.form
  obtain ⟨ba, bc, rfl⟩ := hB.form
  generalize a.length = n at *
  generalize b.length = m at *
  clear hA hB
  generalize hV : decide (a = b) = V at *
  clear hV
  go_enter Try.func74, Try.ntmps74
  go_wp2
  go_ret
  exact ⟨by rw [← HE.out]; rfl, rfl⟩
end Go.Proofs.Ythpepkfodcgbcaa
/- What the program's divide answers. -/
set_option linter.unusedVariables false
set_option linter.unusedSimpArgs false
set_option maxRecDepth 40000
namespace Go.Proofs.Ythpepkfodcgbcaa
open Go.RowKit
theorem and_is (X Y : BitVec 32) : bits BinOp.and IntKind.u32 (X.toNat : Int) (Y.toNat : Int) = ((X &&& Y).toNat : Int) := by
  have h1 : BitVec.ofInt 32 (X.toNat : Int) = X := by rw [BitVec.ofInt_natCast]; simp
  have h2 : BitVec.ofInt 32 (Y.toNat : Int) = Y := by rw [BitVec.ofInt_natCast]; simp
  have h3 : ((X &&& Y).toNat : Int) < 4294967296 := by have := (X &&& Y).isLt; omega
  show IntKind.u32.wrap ((BitVec.ofInt 32 (X.toNat : Int) &&& BitVec.ofInt 32 (Y.toNat : Int)).toNat : Int) = _
  rw [h1, h2]
  simp only [IntKind.wrap]
  rw [show IntKind.u32.signed = false from rfl, Bool.false_and, if_neg (by simp)]
  show ((X &&& Y).toNat : Int) % 4294967296 = _
  omega
theorem low_bit (X : BitVec 32) : X.getLsbD 0 = decide (X.toNat % 2 = 1) := by
  rw [BitVec.getLsbD, Nat.testBit_zero]
theorem low_is (X : BitVec 32) : bits BinOp.and IntKind.u32 (X.toNat : Int) 1 = ((X.toNat % 2 : Nat) : Int) := by
  have h := and_is X 1#32
  rw [show ((1#32 : BitVec 32).toNat : Int) = 1 from rfl] at h
  rw [h, BitVec.toNat_and, show (1#32 : BitVec 32).toNat = 1 from rfl, Nat.and_one_is_mod]
theorem half_is (X : BitVec 32) : (X.toNat : Int) / (2 : Int) = ((X >>> 1).toNat : Int) := by
  rw [BitVec.toNat_ushiftRight, Nat.shiftRight_eq_div_pow]
  omega
theorem tB_one {X : BitVec 32} (h : X.toNat % 2 = 1) : tB X = X >>> 1 ^^^ 0xEDB88320#32 := by
  unfold tB
  rw [low_bit, decide_eq_true h, if_pos rfl]
theorem tB_none {X : BitVec 32} (h : ¬ X.toNat % 2 = 1) : tB X = X >>> 1 := by
  unfold tB
  rw [low_bit, decide_eq_false h, if_neg (by simp), BitVec.xor_zero]
set_option maxHeartbeats 2000000 in
theorem pdivide_any (x : BitVec 32) (w : World) : Calls Try.prog 84 #[.int .u32 (x.toNat : Int)] w fun e w' => e = .returned (.int .u32 ((tN 8 x).toNat : Int)) ∧ w' = w := by
  go_enter Try.func84, Try.ntmps84
  go_wp2
  go_loop [0, 4] (fun xv iv => ∃ (i : Nat) (X : BitVec 32), iv = .int .i64 (i : Int) ∧ i ≤ 8 ∧ xv = .int .u32 (X.toNat : Int) ∧ Hid (tN (8 - i) X = tN 8 x)) (fun _ iv => 8 - (intOf iv).toNat)
  case atStart => exact ⟨0, x, rfl, Nat.zero_le _, rfl, hide rfl⟩
  case round =>
    obtain ⟨i, X, rfl, hi, rfl, HX⟩ := hrel
    by_cases hlt : i < 8
    · have hlt2 : (i : Int) < 8 := by omega
      have hX := X.isLt
      have hn := HX.out
      rw [show 8 - i = (8 - (i + 1)) + 1 by omega, tN] at hn
      have hlow := low_is X
      have HHALF := hide (half_is X)
      by_cases hb : X.toNat % 2 = 1
      · rw [tB_one hb] at hn
        have HN := hide hn
        have HXX : Hid (bits BinOp.xor IntKind.u32 ((X.toNat : Int) / 2) 3988292384 = ((X >>> 1 ^^^ 0xEDB88320#32).toNat : Int)) := hide (by rw [HHALF.out]; exact xor_is (X >>> 1) 0xEDB88320#32)
        rw [hb] at hlow
        have hlow2 : (bits BinOp.and IntKind.u32 (X.toNat : Int) 1 == 1) = true := by rw [hlow]; rfl
        clear hn HX hlow hb HHALF
        go_wp2
        go_round
        case rel => exact ⟨i + 1, X >>> 1 ^^^ 0xEDB88320#32, by go_num, by omega, by rw [HXX.out], HN⟩
        case measure => simp [intOf]; omega
      · rw [tB_none hb] at hn
        have HN := hide hn
        have hb2 : X.toNat % 2 = 0 := by omega
        rw [hb2] at hlow
        have hlow2 : (bits BinOp.and IntKind.u32 (X.toNat : Int) 1 == 1) = false := by rw [hlow]; rfl
        clear hn HX hlow hb hb2
        go_wp2
        go_round
        case rel => exact ⟨i + 1, X >>> 1, by go_num, by omega, by rw [HHALF.out], HN⟩
        case measure => simp [intOf]; omega
    · have hlt2 : ¬ (i : Int) < 8 := by omega
      obtain rfl : i = 8 := by omega
      have hn := HX.out
      rw [Nat.sub_self, tN] at hn
      subst hn
      go_wp2
      go_ret
      exact ⟨rfl, rfl⟩
end Go.Proofs.Ythpepkfodcgbcaa
/- Rows of bytes: owned, copied, read as texts, written over. No function of the program in it. -/
set_option linter.unusedVariables false
set_option linter.unusedSimpArgs false
set_option maxRecDepth 4000
namespace Go.Proofs.Ythpepkfodcgbcaa
open Go.RowKit

theorem conv_newY {B : Nat} {w : World} {v : Value} {l : Bs} (h : NewY B w v l) : (convert 43 9 v).run Try.prog w = .ok (.string ⟨l.toArray⟩) w := by
  rcases h with ⟨rfl, rfl⟩ | ⟨b, o, cap, rfl, _, _, _, hc, _⟩
  · exact run_convert_bytes_nil _ 43 5 Try.underlying43 Try.underlying5 0 0 9 Try.underlying9
  · exact conv_bytes w b o cap l hc
end Go.Proofs.Ythpepkfodcgbcaa
/- What the program's Sum and More answer. -/
set_option linter.unusedVariables false
set_option linter.unusedSimpArgs false
set_option maxRecDepth 40000
namespace Go.Proofs.Ythpepkfodcgbcaa
open Go.RowKit
theorem not_is (X : BitVec 32) : bits BinOp.xor IntKind.u32 IntKind.u32.max (X.toNat : Int) = ((X ^^^ 0xFFFFFFFF#32).toNat : Int) := by
  have h := xor_is 0xFFFFFFFF#32 X
  rw [BitVec.xor_comm] at h
  exact h
theorem byte_is (X : BitVec 32) (c : UInt8) : bits BinOp.xor IntKind.u32 (X.toNat : Int) (c.toNat : Int) = ((X ^^^ c.toBitVec.zeroExtend 32).toNat : Int) := by
  have h := xor_is X (c.toBitVec.zeroExtend 32)
  have hc : ((c.toBitVec.zeroExtend 32).toNat : Int) = (c.toNat : Int) := by
    simp only [BitVec.truncate_eq_setWidth, BitVec.toNat_setWidth, UInt8.toNat_toBitVec]
    have := c.toNat_lt
    omega
  rw [hc] at h
  exact h
set_option maxHeartbeats 2000000 in
theorem pmore_one (s : BitVec 32) (bv : Value) (b : Bs) (w : World) (hY : IsY w bv b) (hl : b.length ≤ 1000000) : Calls Try.prog 83 #[.int .u32 (s.toNat : Int), bv] w fun e w' => e = .returned (.int .u32 ((moreB s b).toNat : Int)) ∧ w' = w := by
  have HM : Hid (moreB s b = foldB (s ^^^ 0xFFFFFFFF#32) b ^^^ 0xFFFFFFFF#32) := hide rfl
  have hn0 := not_is s
  generalize moreB s b = RES at *
  generalize s ^^^ 0xFFFFFFFF#32 = X0 at *
  have hs := s.isLt
  obtain ⟨ba, bc, rfl⟩ := hY.form
  have HY := hide hY
  clear hY
  have HNI := hide not_is
  have HBI := hide byte_is
  have HDV := hide (fun x => pdivide_any x w)
  go_enter Try.func83, Try.ntmps83
  go_wp2
  clear hn0
  go_loop [5, 12] (fun xv iv => ∃ (i : Nat) (X : BitVec 32), iv = .int .i64 (i : Int) ∧ i ≤ b.length ∧ xv = .int .u32 (X.toNat : Int) ∧ Hid (foldB X (b.drop i) = foldB X0 b)) (fun _ iv => b.length - (intOf iv).toNat)
  case atStart => exact ⟨0, X0, rfl, Nat.zero_le _, rfl, hide (by rw [List.drop_zero])⟩
  case round =>
    obtain ⟨i, X, rfl, hi, rfl, HQ⟩ := hrel
    by_cases hlt : i < b.length
    · have hlt2 : (i : Int) < b.length := by omega
      have hnow := HQ.out
      rw [List.drop_eq_getElem_cons hlt, foldB, List.foldl_cons] at hnow
      rcases HY.out with ⟨h0, _⟩ | ⟨bb, bo, cap, e, hc1, hc2⟩
      · rw [h0] at hlt; simp at hlt
      injection e with e _ e3
      subst e e3
      have hcell := hc2 i hlt
      have hc0 : b[i].toNat < 256 := b[i].toNat_lt
      have HX := hide (HBI.out X b[i])
      have HDV2 := hide (HDV.out (X ^^^ b[i].toBitVec.zeroExtend 32))
      have HNOW : Hid (foldB (tN 8 (X ^^^ b[i].toBitVec.zeroExtend 32)) (b.drop (i + 1)) = foldB X0 b) := hide hnow
      clear hnow HQ hc1 hc2
      generalize X ^^^ b[i].toBitVec.zeroExtend 32 = X1 at *
      generalize b[i].toNat = c0 at *
      have hx := HX.out
      go_wp2_with fail
      refine HDV2.out.mono ?_
      rintro e w1 ⟨rfl, rfl⟩
      clear hx HX HDV2
      go_wp2
      go_round
      case rel => exact ⟨i + 1, _, by go_num, by omega, rfl, HNOW⟩
      case measure => simp [intOf]; omega
    · have hlt2 : ¬ (i : Int) < b.length := by omega
      obtain rfl : i = b.length := by omega
      have hnow := HQ.out
      rw [List.drop_length, foldB, List.foldl_nil] at hnow
      have hm := HM.out
      rw [← hnow] at hm
      have hx := HNI.out X
      rw [← hm] at hx
      clear hnow hm HQ
      go_wp2
      go_ret
      exact ⟨rfl, rfl⟩
theorem pmore_any (s : BitVec 32) (bv : Value) (b : Bs) (w : World) (hY : IsY w bv b) (hl : b.length ≤ 1000000) : Calls Try.prog 83 #[.int .u32 (s.toNat : Int), bv] w fun e w' => e = .returned (.int .u32 ((moreB s b).toNat : Int)) ∧ Below w.heap.size w w' :=
  (pmore_one s bv b w hY hl).mono fun e w' hh => ⟨hh.1, by rw [hh.2]; exact Below.refl _ _⟩
set_option maxHeartbeats 2000000 in
theorem psum_any (bv : Value) (b : Bs) (w : World) (hY : IsY w bv b) (hl : b.length ≤ 1000000) : Calls Try.prog 80 #[bv] w fun e w' => e = .returned (.int .u32 ((sumB b).toNat : Int)) ∧ Below w.heap.size w w' := by
  have HM : Hid (Calls Try.prog 83 #[.int .u32 0, bv] w fun e w' => e = .returned (.int .u32 ((sumB b).toNat : Int)) ∧ w' = w) := hide (pmore_one 0#32 bv b w hY hl)
  obtain ⟨a, c, rfl⟩ := hY.form
  clear hY
  generalize (sumB b).toNat = X at *
  generalize b.length = n at *
  go_enter Try.func80, Try.ntmps80
  go_wp2_with fail
  refine HM.out.mono ?_
  rintro e w1 ⟨rfl, rfl⟩
  clear HM
  go_wp2
  go_ret
  exact ⟨rfl, Below.refl _ _⟩
end Go.Proofs.Ythpepkfodcgbcaa
/- Which cells join, said cell by cell. No program in it. -/
set_option linter.unusedVariables false
set_option linter.unusedSimpArgs false
namespace Go.Proofs.Ythpepkfodcgbcaa

/-- All pieces are full but the last one, which is not empty. -/
def FullD : List (List UInt8) → Prop
  | [] => True
  | [d] => 1 ≤ d.length ∧ d.length ≤ 39
  | d :: e :: r => d.length = 39 ∧ FullD (e :: r)
theorem pieces_nil (k : Nat) : piecesF k [] = [] := by cases k <;> rfl
theorem full_head {d : List UInt8} {r : List (List UInt8)} (h : FullD (d :: r)) : 1 ≤ d.length ∧ d.length ≤ 39 := by
  cases r with
  | nil => exact h
  | cons e r => have := h.1; omega
theorem pieces_of : ∀ (ds : List (List UInt8)) (k : Nat), FullD ds → ds.length ≤ k → piecesF k ds.flatten = ds
  | [], k, _, _ => pieces_nil k
  | [d], 0, _, hk => by simp at hk
  | [d], k + 1, h, _ => by
    have h1 : d.length ≤ 39 := h.2
    have h2 : 1 ≤ d.length := h.1
    cases d with
    | nil => simp at h2
    | cons c b =>
      have e : [c :: b].flatten = c :: b := by simp
      rw [e, piecesF, List.take_of_length_le h1, List.drop_of_length_le h1, pieces_nil]
  | d :: e :: r, 0, _, hk => by simp at hk
  | d :: e :: r, k + 1, h, hk => by
    have h1 : d.length = 39 := h.1
    have ih := pieces_of (e :: r) k h.2 (by simp only [List.length_cons] at hk ⊢; omega)
    cases d with
    | nil => simp at h1
    | cons c b =>
      have e2 : ((c :: b) :: e :: r).flatten = c :: (b ++ (e :: r).flatten) := by simp
      have e3 : c :: (b ++ (e :: r).flatten) = (c :: b) ++ (e :: r).flatten := rfl
      rw [e2, piecesF, e3, ← h1, List.take_left, List.drop_left, ih]
theorem flat_lenK : ∀ (ds : List (List UInt8)), FullD ds → ds.flatten.length ≤ 39 * ds.length ∧ 39 * ds.length ≤ ds.flatten.length + 38
  | [], _ => by simp
  | [d], h => by
    have h1 := h.1
    have h2 := h.2
    simp only [List.flatten_cons, List.flatten_nil, List.append_nil, List.length_cons, List.length_nil]
    omega
  | d :: e :: r, h => by
    have ih := flat_lenK (e :: r) h.2
    have h1 := h.1
    rw [List.flatten_cons, List.length_append, List.length_cons]
    omega
theorem pieces_full : ∀ (k : Nat) (b : List UInt8), b.length ≤ 39 * k → FullD (piecesF k b)
  | 0, b, h => by cases b with | nil => exact trivial | cons c b => simp at h
  | k + 1, [], _ => trivial
  | k + 1, c :: b, h => by
    have ih := pieces_full k ((c :: b).drop 39) (by rw [List.length_drop]; omega)
    have hl : ((c :: b).take 39).length = min 39 (c :: b).length := List.length_take ..
    rw [piecesF]
    cases hp : piecesF k ((c :: b).drop 39) with
    | nil =>
      refine ⟨?_, ?_⟩
      · rw [hl, List.length_cons]; omega
      · rw [hl]; omega
    | cons e r =>
      rw [hp] at ih
      refine ⟨?_, ih⟩
      rw [hl]
      cases hd : (c :: b).drop 39 with
      | nil => rw [hd, pieces_nil] at hp; cases hp
      | cons x y =>
        have := congrArg List.length hd
        rw [List.length_drop, List.length_cons (a := x)] at this
        omega
theorem full_get : ∀ (ds : List (List UInt8)), FullD ds → ∀ i (hi : i < ds.length), (if i + 1 = ds.length then 1 else 39) ≤ ds[i].length ∧ ds[i].length ≤ 39
  | [], _, i, hi => by simp at hi
  | [d], h, 0, _ => by
    have h1 : 1 ≤ d.length ∧ d.length ≤ 39 := h
    simpa using h1
  | [d], h, i + 1, hi => by simp at hi
  | d :: e :: r, h, 0, _ => by
    have h1 := h.1
    show (if 0 + 1 = (d :: e :: r).length then 1 else 39) ≤ d.length ∧ d.length ≤ 39
    rw [if_neg (by simp), h1]
    omega
  | d :: e :: r, h, i + 1, hi => by
    have ih := full_get (e :: r) h.2 i (by simpa using hi)
    show (if i + 1 + 1 = (e :: r).length + 1 then 1 else 39) ≤ ((e :: r)[i]'(by simpa using hi)).length ∧ ((e :: r)[i]'(by simpa using hi)).length ≤ 39
    by_cases hh : i + 1 = (e :: r).length
    · rw [if_pos hh] at ih
      rw [if_pos (by omega)]
      exact ih
    · rw [if_neg hh] at ih
      rw [if_neg (by omega)]
      exact ih
theorem full_of : ∀ (ds : List (List UInt8)), (∀ i (hi : i < ds.length), (if i + 1 = ds.length then 1 else 39) ≤ ds[i].length ∧ ds[i].length ≤ 39) → FullD ds
  | [], _ => trivial
  | [d], h => by
    have h1 : 1 ≤ d.length ∧ d.length ≤ 39 := by simpa using h 0 (by simp)
    exact h1
  | d :: e :: r, h => by
    refine ⟨?_, full_of (e :: r) fun i hi => ?_⟩
    · have h0 := h 0 (by simp)
      rw [if_neg (by simp)] at h0
      have : ((d :: e :: r)[0]'(by simp)).length = d.length := rfl
      omega
    · have h1 := h (i + 1) (by simpa using hi)
      change (if i + 1 + 1 = (e :: r).length + 1 then 1 else 39) ≤ (e :: r)[i].length ∧ (e :: r)[i].length ≤ 39 at h1
      by_cases hh : i + 1 = (e :: r).length
      · rw [if_pos (by omega)] at h1
        rw [if_pos hh]
        exact h1
      · rw [if_neg (by omega)] at h1
        rw [if_neg hh]
        exact h1
theorem cells_len (e l : Nat) (n : Int) : ∀ (i : Nat) (ds : List (List UInt8)), (cellsF e l n i ds).length = ds.length
  | _, [] => rfl
  | i, d :: ds => by rw [cellsF, List.length_cons, List.length_cons, cells_len e l n (i + 1) ds]
theorem cells_get (e l : Nat) (n : Int) : ∀ (ds : List (List UInt8)) (i j : Nat) (hj : j < ds.length), (cellsF e l n i ds)[j]? = some ⟨e, l, ((i + j : Nat) : Int), n, ds[j]⟩
  | [], i, j, hj => by simp at hj
  | d :: ds, i, 0, _ => rfl
  | d :: ds, i, j + 1, hj => by
    rw [cellsF, List.getElem?_cons_succ, cells_get e l n ds (i + 1) j (by simpa using hj), show i + 1 + j = i + (j + 1) by omega]
    rfl
theorem cells_of (e li : Nat) (n : Int) : ∀ (l : List CL) (i : Nat), (∀ j (hj : j < l.length), l[j].ep = e ∧ l[j].li = li ∧ l[j].part = ((i + j : Nat) : Int) ∧ l[j].of = n) → cellsF e li n i (l.map CL.data) = l
  | [], _, _ => rfl
  | c :: r, i, h => by
    have h0 : c.ep = e ∧ c.li = li ∧ c.part = ((i + 0 : Nat) : Int) ∧ c.of = n := h 0 (by simp)
    rw [List.map_cons, cellsF, cells_of e li n r (i + 1) fun j hj => by
      have h1 := h (j + 1) (by simpa using hj)
      have e1 : ((c :: r)[j + 1]'(by simpa using hj)) = r[j] := rfl
      rw [e1, show i + (j + 1) = i + 1 + j by omega] at h1
      exact h1]
    obtain ⟨ep, l2, p, o, d⟩ := c
    simp only [Nat.add_zero] at h0
    obtain ⟨rfl, rfl, rfl, rfl⟩ := h0
    rfl
/-- A cell in its place of a record of n cells. -/
def CellAt (e li n i : Nat) (c : CL) : Prop := c.ep = e ∧ c.li = li ∧ c.part = (i : Int) ∧ c.of = (n : Int) ∧ (if i + 1 = n then 1 else 39) ≤ c.data.length ∧ c.data.length ≤ 39
def JoinsC (l : List CL) : Prop := ∃ c r, l = c :: r ∧ l.length ≤ 65535 ∧ ∀ i (hi : i < l.length), CellAt c.ep c.li l.length i l[i]
theorem join_yes {l : List CL} (h : JoinsC l) : joinC l = some (dataC l) := by
  obtain ⟨c, r, rfl, hl, ha⟩ := h
  have hf : FullD ((c :: r).map CL.data) := full_of _ fun i hi => by
    rw [List.length_map] at hi
    have h1 := (ha i hi).2.2.2.2
    rw [List.length_map, List.getElem_map]
    exact h1
  have hfl := flat_lenK _ hf
  rw [List.length_map] at hfl
  have hn : 1 ≤ (c :: r).length := by simp
  show (if samesC (cutC (dataC (c :: r)) c.ep c.li) (c :: r) then some (dataC (c :: r)) else none) = _
  have hd : dataC (c :: r) = ((c :: r).map CL.data).flatten := rfl
  rw [if_pos]
  refine samesC_iff.2 ?_
  rw [hd, cutC, if_neg (by omega), pieces_of _ _ hf (by rw [List.length_map]; omega)]
  rw [show (((c :: r).map CL.data).flatten.length + 38) / 39 = (c :: r).length by omega]
  refine cells_of _ _ _ _ _ fun j hj => ?_
  have h1 := ha j hj
  rw [Nat.zero_add]
  exact ⟨h1.1, h1.2.1, h1.2.2.1, h1.2.2.2.1⟩
theorem join_no {l : List CL} (h : ¬ JoinsC l) : joinC l = none := by
  cases l with
  | nil => rfl
  | cons c r =>
    show (if samesC (cutC (dataC (c :: r)) c.ep c.li) (c :: r) then some (dataC (c :: r)) else none) = _
    rw [if_neg]
    intro hs
    have hc := samesC_iff.1 hs
    rw [cutC] at hc
    split at hc
    · cases hc
    · next g =>
      have hp := piecesF_len (dataC (c :: r)).length (dataC (c :: r)) (by omega)
      have hf := pieces_full (dataC (c :: r)).length (dataC (c :: r)) (by omega)
      have hlen : (c :: r).length = ((dataC (c :: r)).length + 38) / 39 := by
        have h1 := cells_len c.ep c.li (((dataC (c :: r)).length + 38) / 39 : Nat) 0 (piecesF (dataC (c :: r)).length (dataC (c :: r)))
        rw [hc, hp] at h1
        exact h1
      refine h ⟨c, r, rfl, by omega, ?_⟩
      intro i hi
      have hi2 : i < (piecesF (dataC (c :: r)).length (dataC (c :: r))).length := by omega
      have hg := cells_get c.ep c.li (((dataC (c :: r)).length + 38) / 39 : Nat) (piecesF (dataC (c :: r)).length (dataC (c :: r))) 0 i hi2
      rw [hc, List.getElem?_eq_getElem hi, Nat.zero_add] at hg
      injection hg with hg
      have hfu := full_get _ hf i hi2
      rw [hp, ← hlen] at hfu
      rw [hg]
      refine ⟨rfl, rfl, rfl, ?_, hfu.1, hfu.2⟩
      show ((((dataC (c :: r)).length + 38) / 39 : Nat) : Int) = _
      rw [← hlen]
end Go.Proofs.Ythpepkfodcgbcaa
