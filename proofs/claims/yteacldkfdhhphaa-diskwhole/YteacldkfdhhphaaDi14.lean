/- What the document's Write answers. -/
import Derived.Test.YteacldkfdhhphaaDh14
set_option linter.unusedVariables false
set_option linter.unusedSimpArgs false
set_option maxRecDepth 40000
namespace Go.Proofs.Yteacldkfdhhphaa
open Go.RowKit

/-- The own box's second cell is written over. -/
theorem TwoB.cell1 {w x : World} {d : DV} (h : TwoB w d x) (v : Value) (l : List (Nat × Bs)) (hl : IsP x v l) : TwoB w ⟨{ d.m with l := l }, d.sv, v⟩ (x.setCell ⟨w.heap.size, 1, none⟩ v) := by
  have o : ∀ k, k ≠ w.heap.size → (x.setCell ⟨w.heap.size, 1, none⟩ v).heap[k]? = x.heap[k]? := fun k hk => Below.heap_setCell _ _ _ _ hk
  refine ⟨?_, (o _ (by omega)).trans h.b, ⟨h.i.s.but (noStr_dk h.i h.a) o, hl.but (noStr_dk h.i h.a) o⟩, h.l.setCell (p := ⟨w.heap.size, 1, none⟩) (Nat.le_refl _) _, ?_⟩
  · rw [setCell_box h.a 1 v]
    rfl
  · have := h.s
    simp [World.setCell]
    omega
theorem TwoB.onB {w x W : World} {d : DV} {B : Nat} (h : TwoB w d x) (hi : ∀ W, Below w.heap.size w W → IsD W d) (hB : w.heap.size + 2 ≤ B) (hBx : B ≤ x.heap.size) (hb : Below B x W) : TwoB w d W := by
  have hl := h.l.trans (hb.mono (by omega))
  exact ⟨(hb.block _ (by omega)).trans h.a, (hb.block _ (by omega)).trans h.b, hi W hl, hl, Nat.le_trans h.s hb.size⟩
set_option maxHeartbeats 2000000 in
theorem rwrite_any (d : DV) (n : Int) (bv : Value) (b : Bs) (w : World) (hI : IsD w d) (hY : IsY w bv b) (hok : OkD d.m) (h1 : d.m.safe.length ≤ 100000) (h2 : d.m.l.length ≤ 100000) (h3 : b.length ≤ 1000000) (hl : -9223372036854775808 < d.m.left ∧ d.m.left ≤ 9223372036854775807) :
    Calls Try.prog 29 #[dkA d, .int .i64 n, bv] w fun e w' => DiskR w (writeD d.m n b) e w' := by
  obtain ⟨e1, e2⟩ := spend_lists d.m
  have hbw := (dk_boxB w d (Below.refl _ (dkB w d))).2.2.2
  have HIS : Hid (Calls Try.prog 34 #[dkA d, .int .i64 n] (dkB w d) fun e w' => e = .returned (.bool (isD d.m n)) ∧ Below (dkB w d).heap.size (dkB w d) w') := hide (ris_any d n (dkB w d) (hI.below hbw) (by omega))
  have HS : Hid (∀ x, IsD x d → Calls Try.prog 39 #[dkA d] x fun e w' => e = .returned (.tuple #[.agg #[d.sv, d.lv, .int .i64 (spendD d.m).1.left, .bool (spendD d.m).1.fuse, .bool (spendD d.m).1.off], .bool (spendD d.m).2]) ∧ Below x.heap.size x w') := hide (fun x h => rspend_any d x h hl)
  have HT := hide (fun x (b : Below (dkB w d).heap.size (dkB w d) x) => two_start (x := x) hI b)
  have HI1 : Hid (∀ x, IsD x d → IsD x ⟨(spendD d.m).1, d.sv, d.lv⟩) := hide (fun x h => ⟨by show IsW x d.sv (spendD d.m).1.safe; rw [e1]; exact h.s, by show IsP x d.lv (spendD d.m).1.l; rw [e2]; exact h.l⟩)
  have HI0 : Hid (∀ x, Below w.heap.size w x → IsD x ⟨(spendD d.m).1, d.sv, d.lv⟩) := hide (fun x b => HI1.out x (hI.below b))
  have HY := hide (fun x (b : Below w.heap.size w x) => hY.below b)
  have hin : isD d.m n = true → 0 ≤ n ∧ n.toNat * 4 + 4 ≤ d.m.safe.length := by
    intro h
    unfold isD at h
    simp only [Bool.and_eq_true, decide_eq_true_eq] at h
    omega
  have hwr : writeD d.m n b = if isD d.m n && decide (b.length = 256) then (if (spendD d.m).2 then ({ (spendD d.m).1 with l := (spendD d.m).1.l ++ piecesL n.toNat b }, 0) else ((spendD d.m).1, 9)) else (d.m, 1) := rfl
  rw [hwr]
  rw [← e2] at h2
  clear hwr hok e1 e2 hl hbw
  generalize hsd : (spendD d.m).1 = m1 at *
  generalize (spendD d.m).2 = ok at *
  clear hsd
  generalize isD d.m n = IN at *
  obtain ⟨sa, sc, es⟩ := hI.s.form
  obtain ⟨la, lc, el⟩ := hI.l.form
  obtain ⟨ba, bc, rfl⟩ := hY.form
  obtain ⟨m, sv, lv⟩ := d
  simp only [] at es el HS HT HI1 HI0 HIS hin h1
  subst es el
  generalize hk1 : m.safe.length = k1 at *
  generalize hk2 : m.l.length = k2 at *
  obtain ⟨safe1, l1, left1, fuse1, off1⟩ := m1
  obtain ⟨safe, l, left, fuse, off⟩ := m
  simp only [] at *
  clear hI hY hk1 hk2
  by_cases hgo : IN = true ∧ b.length = 256
  · obtain ⟨rfl, hb256⟩ := hgo
    rw [decide_eq_true hb256, Bool.and_true, if_pos rfl]
    obtain ⟨hn0, hn1⟩ := hin rfl
    obtain ⟨nn, rfl⟩ : ∃ nn : Nat, n = nn := ⟨n.toNat, by omega⟩
    rw [Int.toNat_natCast] at *
    have hbl : (b.length : Int) = 256 := by omega
    cases ok
    · rw [if_neg (by simp)]
      have hbn : ((b.length : Int) != 256) = false := by rw [hbl]; rfl
      clear hin hn0 hb256
      go_enter Try.func29, Try.ntmps29
      go_wp2_with fail
      refine HIS.out.mono ?_
      rintro e w1 ⟨rfl, b1⟩
      have t1 := HT.out w1 b1
      obtain ⟨x0, x1, x2, x3, x4, f0, f1, f2, f3, f4⟩ := dk_cells t1.a
      simp only [] at x0 x1 x2 x3 x4
      have HS2 := hide (HS.out w1 t1.i)
      have T1 := hide t1
      clear b1 t1 HT HS HIS
      go_wp2_with fail
      refine HS2.out.mono ?_
      rintro e w2 ⟨rfl, b2⟩
      have t2 := T1.out.below b2
      have t3 := t2.put (HI1.out _ t2.i)
      obtain ⟨x0, x1, x2, x3, x4, f0, f1, f2, f3, f4⟩ := dk_cells t2.a
      obtain ⟨y0, y1, y2, y3, y4, g0, g1, g2, g3, g4⟩ := dk_cells t2.b
      simp only [zeroDV] at x0 x1 x2 x3 x4 y0 y1 y2 y3 y4
      have ZZ := hide (t3.done (⟨safe1, l1, left1, fuse1, off1⟩, 9) rfl)
      simp only [] at ZZ
      clear t2 t3 T1 HI1 HS2 b2
      go_wp2
      refine bodyPost_ret (v := .tuple #[.agg #[.slice sa k1 sc, .slice la k2 lc, .int .i64 left1, .bool fuse1, .bool off1], .int .i64 9]) ?_ rfl (ZZ.out _ _ _ _ _)
      simp [results, Try.results29, go_sem, y0, y1, y2, y3, y4]
    · rw [if_pos rfl]
      have hbn : ((b.length : Int) != 256) = false := by rw [hbl]; rfl
      clear hin hn0
      go_enter Try.func29, Try.ntmps29
      go_wp2_with fail
      refine HIS.out.mono ?_
      rintro e w1 ⟨rfl, b1⟩
      have t1 := HT.out w1 b1
      obtain ⟨x0, x1, x2, x3, x4, f0, f1, f2, f3, f4⟩ := dk_cells t1.a
      simp only [] at x0 x1 x2 x3 x4
      have HS2 := hide (HS.out w1 t1.i)
      have T1 := hide t1
      clear b1 t1 HT HS HIS
      go_wp2_with fail
      refine HS2.out.mono ?_
      rintro e w2 ⟨rfl, b2⟩
      have t2 := T1.out.below b2
      have t3 := t2.put (HI1.out _ t2.i)
      obtain ⟨x0, x1, x2, x3, x4, f0, f1, f2, f3, f4⟩ := dk_cells t2.a
      simp only [] at x0 x1 x2 x3 x4
      have T3 := hide t3
      simp only [] at T3
      clear t2 t3 T1 HI1 HS2 b2
      obtain ⟨ca, cc, w3, hr3, ho3, hb3⟩ := copy_pieces (set5 w2 w.heap.size (.slice sa k1 sc) (.slice la k2 lc) (.int .i64 left1) (.bool fuse1) (.bool off1)) (.slice la k2 lc) l1 T3.out.i.l (by omega)
      have hsz2 : w.heap.size + 2 ≤ w2.heap.size := by have := T3.out.s; rw [set5_size] at this; exact this
      rw [set5_size] at hr3 ho3
      have T4 := hide (T3.out.below hb3)
      have hB3 : w2.heap.size ≤ w3.heap.size := by have := hb3.size; rw [set5_size] at this; exact this
      have HO : Hid (w3.ownsRow w2.heap.size 77 2 (.slice ca (l1 ++ (piecesL nn b).take 0).length cc) (l1 ++ (piecesL nn b).take 0).length (pieceCells (l1 ++ (piecesL nn b).take 0))) := hide (by rw [List.take_zero, List.append_nil]; exact ho3)
      have x1s := (dk_cells T3.out.a).2.1
      have x1a := ((below_alloc _ (.cells #[] 77)).cell (cell_lt x1s)).trans x1s
      simp only [] at x1a
      clear ho3 hb3 T3 x1s
      have hbl2 : b.length ≤ 1000000 := h3
      obtain ⟨bb, bo, rfl, hbcap, HBC⟩ : ∃ bb bo, ba = some ⟨bb, bo, none⟩ ∧ 256 ≤ bc ∧ Hid (∀ x, Below w.heap.size w x → ∀ j (hj : j < b.length), x.cell? ⟨bb, bo + j, none⟩ = some (.int .u8 (b[j].toNat : Int))) := by
        rcases HY.out w (Below.refl _ _) with ⟨h0, _⟩ | ⟨bb, bo, cap, e, hc1, hc2⟩
        · rw [h0] at hb256; simp at hb256
        · injection e with e e2 e3
          exact ⟨bb, bo, e, by omega, hide (fun x hx j hj => (hx.cell (cell_lt (hc2 j hj))).trans (hc2 j hj))⟩
      have hbc1 : (256 : Int) ≤ bc := by omega
      clear HY hbl2
      have HB256 := hide hb256
      have HSZ2 := hide hsz2
      have HB3 := hide hB3
      have HCAP := hide hbcap
      have HR3 := hide hr3
      clear hb256 hsz2 hB3 hbcap hr3 hbc1
      go_wp2_with (at_builtin; refine Lib.wpList_append_run _ rfl (.tmp 29) (.tmp 31) _ _ rfl _ _ rfl rfl _ _ HR3.out ?_)
      clear HR3 x1a x0 x1 x2 x3 x4 f0 f1 f2 f3 f4
      have hlen0 : (l1 ++ (piecesL nn b).take 0).length = l1.length := by simp
      go_loopw [9, 10] (fun vl vi wr => ∃ (i : Nat) (a : Option Addr) (c : Nat), vi = .int .i64 (i : Int) ∧ i ≤ 4 ∧ vl = .slice a (l1 ++ (piecesL nn b).take i).length c ∧ Hid (wr.ownsRow w2.heap.size 77 2 (.slice a (l1 ++ (piecesL nn b).take i).length c) (l1 ++ (piecesL nn b).take i).length (pieceCells (l1 ++ (piecesL nn b).take i))) ∧ Hid (TwoB w ⟨⟨safe1, l1, left1, fuse1, off1⟩, .slice sa k1 sc, .slice la k2 lc⟩ wr) ∧ Hid (w2.heap.size ≤ wr.heap.size)) (fun _ vi _ => 4 - (intOf vi).toNat)
      case atStart => exact ⟨0, ca, cc, rfl, Nat.zero_le _, by rw [hlen0], HO, T4, HB3⟩
      case round =>
        clear HO T4 hlen0 HB3
        obtain ⟨i, a, c, rfl, hi, rfl, HO, HT4, HS4⟩ := hrel
        by_cases hlt : i < 4
        · have hpl := pieces_len nn b
          have hll : (l1 ++ (piecesL nn b).take i).length ≤ 100010 := by rw [List.length_append, List.length_take]; omega
          have hcv := cut_bytes (cap := bc) HB256.out (by rw [HB256.out]; exact HCAP.out) (HBC.out wr HT4.out.l) i hlt
          obtain ⟨a', c', w', hr, ho, hb⟩ := append_piece wr w2.heap.size _ (l1 ++ (piecesL nn b).take i) (nn * 4 + i) (cutB b i) HO.out (by omega) HS4.out
          rw [List.append_assoc, ← take_pieces nn b i hlt] at hr ho
          have HO2 := hide ho
          have HT5 : Hid (TwoB w ⟨⟨safe1, l1, left1, fuse1, off1⟩, .slice sa k1 sc, .slice la k2 lc⟩ w') := hide (TwoB.onB HT4.out (fun W hW => HI0.out W hW) HSZ2.out HS4.out hb)
          have HS5 := hide (Nat.le_trans HS4.out hb.size)
          clear ho hb HO HT4 HS4 hpl hll
          generalize (⟨(cutB b i).toArray⟩ : ByteArray) = X at *
          generalize hL1 : (l1 ++ (piecesL nn b).take i).length = L1 at *
          generalize hL2 : (l1 ++ (piecesL nn b).take (i + 1)).length = L2 at *
          have hw1 : wrap64 ((nn : Int) * 4) = (nn : Int) * 4 := by unfold wrap64; omega
          have hw0 : (nn : Int) ≤ 100000 := by omega
          have hbc1 : (256 : Int) ≤ bc := by have := HCAP.out; omega
          clear hL1
          rcases (by omega : i = 0 ∨ i = 1 ∨ i = 2 ∨ i = 3) with rfl | rfl | rfl | rfl
          · have hkx : (nn : Int) * 4 = ((nn * 4 + 0 : Nat) : Int) := by omega
            generalize nn * 4 + 0 = kk at *
            have hkk : (kk : Int) ≤ 1000000 := by omega
            simp only [Nat.zero_mul, Nat.one_mul, Nat.add_zero, Nat.reduceMul, Nat.sub_zero] at hcv
            go_wp2_with (at_builtin; refine Lib.wpList_append_run _ rfl (.tmp 37) (.tmp 51) _ _ rfl _ _ rfl rfl _ _ hr ?_)
            go_roundw
            case rel => exact ⟨0 + 1, a', c', by go_num, by omega, by rw [hL2], by rw [hL2]; exact HO2, HT5, HS5⟩
            case measure => simp [intOf]
          · have hkx : (nn : Int) * 4 + 1 = ((nn * 4 + 1 : Nat) : Int) := by omega
            generalize nn * 4 + 1 = kk at *
            have hkk : (kk : Int) ≤ 1000000 := by omega
            simp only [Nat.zero_mul, Nat.one_mul, Nat.add_zero, Nat.reduceMul, Nat.sub_zero] at hcv
            go_wp2_with (at_builtin; refine Lib.wpList_append_run _ rfl (.tmp 37) (.tmp 51) _ _ rfl _ _ rfl rfl _ _ hr ?_)
            go_roundw
            case rel => exact ⟨1 + 1, a', c', by go_num, by omega, by rw [hL2], by rw [hL2]; exact HO2, HT5, HS5⟩
            case measure => simp [intOf]
          · have hkx : (nn : Int) * 4 + 2 = ((nn * 4 + 2 : Nat) : Int) := by omega
            generalize nn * 4 + 2 = kk at *
            have hkk : (kk : Int) ≤ 1000000 := by omega
            simp only [Nat.zero_mul, Nat.one_mul, Nat.add_zero, Nat.reduceMul, Nat.sub_zero] at hcv
            go_wp2_with (at_builtin; refine Lib.wpList_append_run _ rfl (.tmp 37) (.tmp 51) _ _ rfl _ _ rfl rfl _ _ hr ?_)
            go_roundw
            case rel => exact ⟨2 + 1, a', c', by go_num, by omega, by rw [hL2], by rw [hL2]; exact HO2, HT5, HS5⟩
            case measure => simp [intOf]
          · have hkx : (nn : Int) * 4 + 3 = ((nn * 4 + 3 : Nat) : Int) := by omega
            generalize nn * 4 + 3 = kk at *
            have hkk : (kk : Int) ≤ 1000000 := by omega
            simp only [Nat.zero_mul, Nat.one_mul, Nat.add_zero, Nat.reduceMul, Nat.sub_zero] at hcv
            go_wp2_with (at_builtin; refine Lib.wpList_append_run _ rfl (.tmp 37) (.tmp 51) _ _ rfl _ _ rfl rfl _ _ hr ?_)
            go_roundw
            case rel => exact ⟨3 + 1, a', c', by go_num, by omega, by rw [hL2], by rw [hL2]; exact HO2, HT5, HS5⟩
            case measure => simp [intOf]
        · have hlt2 : ¬ (i : Int) < 4 := by omega
          obtain rfl : i = 4 := by omega
          have ht : (piecesL nn b).take 4 = piecesL nn b := List.take_of_length_le (by rw [pieces_len]; omega)
          rw [ht] at HO
          rw [ht]
          have t5 := HT4.out.cell1 _ _ (owns_isP HO.out)
          obtain ⟨x0, x1, x2, x3, x4, f0, f1, f2, f3, f4⟩ := dk_cells HT4.out.a
          obtain ⟨y0, y1, y2, y3, y4, g0, g1, g2, g3, g4⟩ := dk_cells HT4.out.b
          simp only [zeroDV] at x0 x1 x2 x3 x4 y0 y1 y2 y3 y4
          have ZZ := hide (t5.done (⟨safe1, l1 ++ piecesL nn b, left1, fuse1, off1⟩, 0) rfl)
          simp only [] at ZZ
          clear t5 HO HT4 HS4
          generalize (l1 ++ piecesL nn b).length = LL at *
          go_wp2
          refine bodyPost_ret (v := .tuple #[.agg #[.slice sa k1 sc, .slice a LL c, .int .i64 left1, .bool fuse1, .bool off1], .int .i64 0]) ?_ rfl (ZZ.out _ _ _ _ _)
          simp [results, Try.results29, go_sem, y0, y1, y2, y3, y4]
  · have hf : (IN && decide (b.length = 256)) = false := by
      cases IN
      · rfl
      · rw [Bool.true_and, decide_eq_false (fun h => hgo ⟨rfl, h⟩)]
    rw [hf, if_neg (by simp)]
    cases IN
    · clear hin hgo hf
      go_enter Try.func29, Try.ntmps29
      go_wp2_with fail
      refine HIS.out.mono ?_
      rintro e w1 ⟨rfl, b1⟩
      have t1 := HT.out w1 b1
      obtain ⟨x0, x1, x2, x3, x4, f0, f1, f2, f3, f4⟩ := dk_cells t1.a
      obtain ⟨y0, y1, y2, y3, y4, g0, g1, g2, g3, g4⟩ := dk_cells t1.b
      simp only [zeroDV] at x0 x1 x2 x3 x4 y0 y1 y2 y3 y4
      have ZZ := hide (t1.done (⟨safe, l, left, fuse, off⟩, 1) rfl)
      simp only [] at ZZ
      clear t1 HT HI1 HS HIS b1
      go_wp2
      refine bodyPost_ret (v := .tuple #[.agg #[.slice sa k1 sc, .slice la k2 lc, .int .i64 left, .bool fuse, .bool off], .int .i64 1]) ?_ rfl (ZZ.out _ _ _ _ _)
      simp [results, Try.results29, go_sem, y0, y1, y2, y3, y4]
    · have hbn : ((b.length : Int) != 256) = true := by
        rw [bne_iff_ne]
        intro h
        exact hgo ⟨rfl, by omega⟩
      clear hin hgo hf
      go_enter Try.func29, Try.ntmps29
      go_wp2_with fail
      refine HIS.out.mono ?_
      rintro e w1 ⟨rfl, b1⟩
      have t1 := HT.out w1 b1
      obtain ⟨x0, x1, x2, x3, x4, f0, f1, f2, f3, f4⟩ := dk_cells t1.a
      obtain ⟨y0, y1, y2, y3, y4, g0, g1, g2, g3, g4⟩ := dk_cells t1.b
      simp only [zeroDV] at x0 x1 x2 x3 x4 y0 y1 y2 y3 y4
      have ZZ := hide (t1.done (⟨safe, l, left, fuse, off⟩, 1) rfl)
      simp only [] at ZZ
      clear t1 HT HI1 HS HIS b1
      generalize b.length = bl at *
      go_wp2
      refine bodyPost_ret (v := .tuple #[.agg #[.slice sa k1 sc, .slice la k2 lc, .int .i64 left, .bool fuse, .bool off], .int .i64 1]) ?_ rfl (ZZ.out _ _ _ _ _)
      simp [results, Try.results29, go_sem, y0, y1, y2, y3, y4]
end Go.Proofs.Yteacldkfdhhphaa
