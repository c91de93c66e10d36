/- What the statements' own model answers. -/
import Derived.Test.YteacldkfdhhphaaMo14
import Derived.Deep.RegionLaw
set_option linter.unusedVariables false
set_option linter.unusedSimpArgs false
set_option maxRecDepth 40000
namespace Go.Proofs.Yteacldkfdhhphaa
open Go.RowKit

def modelD (d : DM) (a : AV) : DM × Int := if a.kind = 1 then writeD d a.n (acB a) else if a.kind = 2 then flushD d else if a.kind = 3 then (armD d a.n, 0) else if a.kind = 4 then (crashD d a.keep, 0) else if a.kind = 5 then (d, (readD d a.n).2) else (d, 0)
abbrev mdW (w : World) (d : DV) (a : AV) : World := ((dkW w d).alloc (.cells (acC a) 37)).alloc (.cells (dkC zeroDV) 31)
structure Three (w : World) (d : DV) (a : AV) (x : World) : Prop where
  d : x.heap[w.heap.size]? = some (.cells (dkC d) 31 (0, 0))
  a : x.heap[w.heap.size + 1]? = some (.cells (acC a) 37 (0, 0))
  z : x.heap[w.heap.size + 2]? = some (.cells (dkC zeroDV) 31 (0, 0))
  b : Below w.heap.size w x
theorem three_of {w x : World} {d : DV} {a : AV} (h : Below (mdW w d a).heap.size (mdW w d a) x) : Three w d a x := by
  have h1 := below_alloc (dkW w d) (.cells (acC a) 37)
  have h2 := below_alloc ((dkW w d).alloc (.cells (acC a) 37)) (.cells (dkC zeroDV) 31)
  have s1 : (dkW w d).heap.size = w.heap.size + 1 := by simp
  have s2 : ((dkW w d).alloc (.cells (acC a) 37)).heap.size = w.heap.size + 2 := by simp
  have s3 : (mdW w d a).heap.size = w.heap.size + 3 := by simp
  have h3 := h2.trans (h.mono h2.size)
  have h4 := h1.trans (h3.mono h1.size)
  obtain ⟨k1, k2⟩ := dk_box w d h4
  refine ⟨k1, ?_, ?_, k2⟩
  · rw [← s1]
    exact (h3.block _ (by omega)).trans (alloc_new _ _)
  · rw [← s2]
    exact (h.block _ (by omega)).trans (alloc_new _ _)
theorem ac_cells {w : World} {A : Nat} {a : AV} (h : w.heap[A]? = some (.cells (acC a) 37 (0, 0))) : w.cell? ⟨A, 0, none⟩ = some (.int .i64 a.kind) ∧ w.cell? ⟨A, 1, none⟩ = some (.int .i64 a.n) ∧ w.cell? ⟨A, 2, none⟩ = some a.bv ∧ w.cell? ⟨A, 3, none⟩ = some (.bool a.short) ∧ w.cell? ⟨A, 4, none⟩ = some a.kv := by
  refine ⟨?_, ?_, ?_, ?_, ?_⟩ <;> simp [World.cell?, h]
/-- What is behind a call that answers a disk, as values. -/
def ModD (w : World) (R : DM × Int) (T : Value → Ending) (e : Ending) (x : World) : Prop := ∃ (A0 A1 : Option Addr) (N0 N1 D0 D1 : Nat) (lf : Int) (fu of : Bool), e = T (.agg #[.slice A0 N0 D0, .slice A1 N1 D1, .int .i64 lf, .bool fu, .bool of]) ∧ Hid (∀ v0 v1 v2 v3 v4, DiskR w R (.returned (.tuple #[.agg #[.slice A0 N0 D0, .slice A1 N1 D1, .int .i64 lf, .bool fu, .bool of], .int .i64 R.2])) (set5 x (w.heap.size + 2) v0 v1 v2 v3 v4)) ∧ x.heap[w.heap.size + 2]? = some (.cells (dkC zeroDV) 31 (0, 0))
theorem mod_of {w x : World} {d d' : DV} {a : AV} (hx : Three w d a x) (R : DM × Int) (hR : d'.m = R.1) (hI : IsD x d') (T : Value → Ending) : ModD w R T (T (dkA d')) x := by
  obtain ⟨A0, D0, e0⟩ := hI.s.form
  obtain ⟨A1, D1, e1⟩ := hI.l.form
  obtain ⟨m, sv, lv⟩ := d'
  simp only [] at e0 e1
  subst e0 e1
  refine ⟨A0, A1, m.safe.length, m.l.length, D0, D1, m.left, m.fuse, m.off, rfl, hide (fun v0 v1 v2 v3 v4 => ⟨⟨m, .slice A0 m.safe.length D0, .slice A1 m.l.length D1⟩, rfl, hR, hI.but (noStr_dk (isD_zero w) hx.z) (set5_other x _ v0 v1 v2 v3 v4), below_set5 (by omega) hx.b _ _ _ _ _⟩), hx.z⟩
set_option maxHeartbeats 8000000 in
theorem model_any (d : DV) (a : AV) (w : World) (hI : IsD w d) (hok : OkD d.m) (hY : IsY w a.bv a.b) (hF : IsF w a.kv a.keep) (h1 : d.m.safe.length ≤ 100000) (h2 : d.m.l.length ≤ 100000) (h3 : a.b.length ≤ 300) (h4 : a.keep.length ≤ 300) (hl : -9223372036854775808 < d.m.left ∧ d.m.left ≤ 9223372036854775807) :
    Calls Try.prog 14 #[dkA d, acA a] w fun e w' => DiskR w (modelD d.m a) e w' := by
  have hbw := (three_of (w := w) (d := d) (a := a) (Below.refl _ (mdW w d a))).b
  have HT : Hid (∀ x, Below (mdW w d a).heap.size (mdW w d a) x → Three w d a x) := hide (fun x h => three_of h)
  have hal : (acB a).length ≤ 300 := by
    unfold acB
    split
    · exact h3
    · rw [block_len]; omega
  have HBY : Hid (Calls Try.prog 28 #[acA a] (mdW w d a).drew fun e w1 => ∃ (p : Option Addr) (n c : Nat), e = .returned (.slice p n c) ∧ Hid (IsY w1 (.slice p n c) (acB a)) ∧ Hid (Below (mdW w d a).heap.size (mdW w d a) w1)) := hide ((abytes_any a (mdW w d a).drew (hY.below hbw.drew) (by omega) (by obtain ⟨x, y, z⟩ := hF.form; exact ⟨_, _, _, z⟩)).mono fun e w1 hh => by
    obtain ⟨v, rfl, ho, hb⟩ := hh
    obtain ⟨p, c, rfl⟩ := owns_formG ho
    exact ⟨p, _, c, rfl, hide (owns_isY ho), hide ((Below.refl _ _).drew.trans hb)⟩)
  have HWR : Hid (∀ w1 v, Below (mdW w d a).heap.size (mdW w d a) w1 → IsY w1 v (acB a) → Calls Try.prog 29 #[dkA d, .int .i64 a.n, v] w1 fun e w2 => ModD w (writeD d.m a.n (acB a)) (fun u => .returned (.tuple #[u, .int .i64 (writeD d.m a.n (acB a)).2])) e w2) := hide (fun w1 v hb hy => (rwrite_any d a.n v (acB a) w1 (hI.below (three_of hb).b) hy hok h1 h2 (by omega) hl).mono fun e w2 hh => by
    obtain ⟨d', rfl, hm, hi, hb2⟩ := hh
    exact mod_of (three_of (hb.trans (hb2.mono hb.size))) _ hm hi _)
  have HFL : Hid (Calls Try.prog 30 #[dkA d] (mdW w d a) fun e w2 => ModD w (flushD d.m) (fun u => .returned (.tuple #[u, .int .i64 (flushD d.m).2])) e w2) := hide ((rflush_any d (mdW w d a) (hI.below hbw) hok h1 h2 hl).mono fun e w2 hh => by
    obtain ⟨d', rfl, hm, hi, hb2⟩ := hh
    exact mod_of (three_of hb2) _ hm hi _)
  have HAM : Hid (Calls Try.prog 31 #[dkA d, .int .i64 a.n] (mdW w d a) fun e w2 => ModD w (armD d.m a.n, 0) (fun u => .returned u) e w2) := hide ((rarm_any d a.n (mdW w d a) (hI.below hbw)).mono fun e w2 hh => by
    obtain ⟨rfl, hb2⟩ := hh
    obtain ⟨e1, e2⟩ := arm_lists d.m a.n
    have hi := (hI.below hbw).below hb2
    exact mod_of (d' := ⟨armD d.m a.n, d.sv, d.lv⟩) (three_of hb2) (armD d.m a.n, 0) rfl ⟨by show IsW w2 d.sv (armD d.m a.n).safe; rw [e1]; exact hi.s, by show IsP w2 d.lv (armD d.m a.n).l; rw [e2]; exact hi.l⟩ _)
  have HCR : Hid (Calls Try.prog 32 #[dkA d, a.kv] (mdW w d a) fun e w2 => ModD w (crashD d.m a.keep, 0) (fun u => .returned u) e w2) := hide ((rcrash_any d a.kv a.keep (mdW w d a) (hI.below hbw) (hF.below hbw) hok h1 h2 (by omega)).mono fun e w2 hh => by
    obtain ⟨v, rfl, hi, hb2⟩ := hh
    exact mod_of (three_of hb2) (crashD d.m a.keep, 0) rfl hi _)
  have HRD : Hid (Calls Try.prog 16 #[dkA d, .int .i64 a.n] (mdW w d a) fun e w2 => ∃ (p : Option Addr) (n c : Nat), e = .returned (.tuple #[.slice p n c, .int .i64 (readD d.m a.n).2]) ∧ Hid (Below (mdW w d a).heap.size (mdW w d a) w2)) := hide ((rread_any d a.n (mdW w d a) (hI.below hbw) hok h1 h2).mono fun e w2 hh => by
    obtain ⟨v, rfl, ho, hb2⟩ := hh
    obtain ⟨p, c, rfl⟩ := owns_formG ho
    exact ⟨p, _, c, rfl, hide hb2⟩)
  have HSM : Hid (∀ x (z : Int), Below (mdW w d a).heap.size (mdW w d a) x → ∀ v0 v1 v2 v3 v4, DiskR w (d.m, z) (.returned (.tuple #[dkA d, .int .i64 z])) (set5 x (w.heap.size + 2) v0 v1 v2 v3 v4)) := hide (fun x z hb v0 v1 v2 v3 v4 => by
    have t := three_of hb
    exact ⟨d, rfl, rfl, (hI.below t.b).but (noStr_dk (isD_zero w) t.z) (set5_other x _ v0 v1 v2 v3 v4), below_set5 (by omega) t.b _ _ _ _ _⟩)
  have HI6 := hide (fun x (b : Below w.heap.size w x) => hI.below b)
  have HB0 := hide (Below.refl (mdW w d a).heap.size (mdW w d a))
  unfold modelD
  generalize writeD d.m a.n (acB a) = RW at *
  generalize flushD d.m = RF at *
  generalize armD d.m a.n = RA at *
  generalize crashD d.m a.keep = RC at *
  generalize (readD d.m a.n).2 = RR at *
  obtain ⟨sa, sc, es⟩ := hI.s.form
  obtain ⟨la, lc, el⟩ := hI.l.form
  obtain ⟨⟨safe, l, left, fuse, off⟩, sv, lv⟩ := d
  simp only [] at es el
  subst es el
  obtain ⟨kind, n, b, short, keep, bv, kv⟩ := a
  obtain ⟨ba, bc, eb⟩ := hY.form
  obtain ⟨ka, kc, ek⟩ := hF.form
  simp only [] at eb ek
  subst eb ek
  simp only [] at *
  clear hI hok hY hF h1 h2 h3 h4 hl hal hbw
  generalize hs1 : safe.length = k1 at *
  generalize hs2 : l.length = k2 at *
  generalize b.length = bl at *
  generalize keep.length = kl at *
  clear hs1 hs2
  by_cases hk : kind = 1
  · subst hk
    rw [if_pos rfl]
    have t0 := HT.out _ HB0.out
    obtain ⟨x0, x1, x2, x3, x4, _⟩ := dk_cells t0.d
    obtain ⟨z0, z1, z2, z3, z4⟩ := ac_cells t0.a
    simp only [] at x0 x1 x2 x3 x4 z0 z1 z2 z3 z4
    have HTD : Hid (∀ x, Below (mdW w ⟨⟨safe, l, left, fuse, off⟩, .slice sa k1 sc, .slice la k2 lc⟩ ⟨1, n, b, short, keep, .slice ba bl bc, .slice ka kl kc⟩).heap.size (mdW w ⟨⟨safe, l, left, fuse, off⟩, .slice sa k1 sc, .slice la k2 lc⟩ ⟨1, n, b, short, keep, .slice ba bl bc, .slice ka kl kc⟩) x → x.cell? ⟨w.heap.size, 0, none⟩ = some (.slice sa k1 sc) ∧ x.cell? ⟨w.heap.size, 1, none⟩ = some (.slice la k2 lc) ∧ x.cell? ⟨w.heap.size, 2, none⟩ = some (.int .i64 left) ∧ x.cell? ⟨w.heap.size, 3, none⟩ = some (.bool fuse) ∧ x.cell? ⟨w.heap.size, 4, none⟩ = some (.bool off)) := hide (fun x hb => by obtain ⟨c0, c1, c2, c3, c4, _⟩ := dk_cells (HT.out x hb).d; exact ⟨c0, c1, c2, c3, c4⟩)
    have HTA : Hid (∀ x, Below (mdW w ⟨⟨safe, l, left, fuse, off⟩, .slice sa k1 sc, .slice la k2 lc⟩ ⟨1, n, b, short, keep, .slice ba bl bc, .slice ka kl kc⟩).heap.size (mdW w ⟨⟨safe, l, left, fuse, off⟩, .slice sa k1 sc, .slice la k2 lc⟩ ⟨1, n, b, short, keep, .slice ba bl bc, .slice ka kl kc⟩) x → x.cell? ⟨w.heap.size + 1, 0, none⟩ = some (.int .i64 1) ∧ x.cell? ⟨w.heap.size + 1, 1, none⟩ = some (.int .i64 n)) := hide (fun x hb => by obtain ⟨c0, c1, _⟩ := ac_cells (HT.out x hb).a; exact ⟨c0, c1⟩)
    have HTZ : Hid (∀ x : World, x.heap[w.heap.size + 2]? = some (.cells (dkC zeroDV) 31 (0, 0)) → x.cell? ⟨w.heap.size + 2, 0, none⟩ = some (.slice none 0 0) ∧ x.cell? ⟨w.heap.size + 2, 1, none⟩ = some (.slice none 0 0) ∧ x.cell? ⟨w.heap.size + 2, 2, none⟩ = some (.int .i64 0) ∧ x.cell? ⟨w.heap.size + 2, 3, none⟩ = some (.bool false) ∧ x.cell? ⟨w.heap.size + 2, 4, none⟩ = some (.bool false) ∧ x.frozen? ⟨w.heap.size + 2, 0, none⟩ = false ∧ x.frozen? ⟨w.heap.size + 2, 1, none⟩ = false ∧ x.frozen? ⟨w.heap.size + 2, 2, none⟩ = false ∧ x.frozen? ⟨w.heap.size + 2, 3, none⟩ = false ∧ x.frozen? ⟨w.heap.size + 2, 4, none⟩ = false) := hide (fun x hb => dk_cells hb)
    clear t0 HFL HAM HCR HRD HSM
    go_enter Try.func14, Try.ntmps14
    go_wp2_with fail
    go_region_law (first | (refine step_call_enter rfl 28 #[.agg #[.int .i64 1, .int .i64 n, .slice ba bl bc, .bool short, .slice ka kl kc]] ?_ HBY.out ?_; go_simp; intro e w1 hh; obtain ⟨p, pn, pc, rfl, hy, b1⟩ := hh; refine ⟨_, rfl, ?_⟩; have LW := hide (HWR.out _ _ b1.out hy.out); have CD := HTD.out _ b1.out; have CA := HTA.out _ b1.out; obtain ⟨q0, q1, q2, q3, q4⟩ := CD; obtain ⟨u0, u1⟩ := CA) | (refine step_call_enter rfl 29 #[.agg #[.slice sa k1 sc, .slice la k2 lc, .int .i64 left, .bool fuse, .bool off], .int .i64 n, .slice p pn pc] ?_ LW.out ?_; go_simp; intro e w2 hh; obtain ⟨A0, A1, N0, N1, D0, D1, lf, fu, of, rfl, HH, hz⟩ := hh; refine ⟨_, rfl, ?_⟩; have CZ := HTZ.out _ hz; obtain ⟨y0, y1, y2, y3, y4, g0, g1, g2, g3, g4⟩ := CZ))
    all_goals go_wp2
    all_goals refine bodyPost_ret (v := .tuple #[.agg #[.slice A0 N0 D0, .slice A1 N1 D1, .int .i64 lf, .bool fu, .bool of], .int .i64 RW.2]) ?_ rfl (HH.out _ _ _ _ _)
    all_goals simp [results, Try.results14, go_sem, y0, y1, y2, y3, y4]
  · rw [if_neg hk]
    have hb1 : (kind == 1) = false := by simp [hk]
    by_cases hk : kind = 2
    · subst hk
      rw [if_pos rfl]
      clear HBY HWR HSM HAM HCR HRD
      go_enter Try.func14, Try.ntmps14
      go_wp2_with fail
      refine HFL.out.mono ?_
      rintro e w2 ⟨A0, A1, N0, N1, D0, D1, lf, fu, of, rfl, HH, hz⟩
      obtain ⟨y0, y1, y2, y3, y4, g0, g1, g2, g3, g4⟩ := dk_cells hz
      simp only [zeroDV] at y0 y1 y2 y3 y4
      clear hz
      go_wp2
      refine bodyPost_ret (v := .tuple #[.agg #[.slice A0 N0 D0, .slice A1 N1 D1, .int .i64 lf, .bool fu, .bool of], .int .i64 RF.2]) ?_ rfl (HH.out _ _ _ _ _)
      simp [results, Try.results14, go_sem, y0, y1, y2, y3, y4]
    · rw [if_neg hk]
      have hb2 : (kind == 2) = false := by simp [hk]
      by_cases hk : kind = 3
      · subst hk
        rw [if_pos rfl]
        clear HBY HWR HSM HFL HCR HRD
        go_enter Try.func14, Try.ntmps14
        go_wp2_with fail
        refine HAM.out.mono ?_
        rintro e w2 ⟨A0, A1, N0, N1, D0, D1, lf, fu, of, rfl, HH, hz⟩
        obtain ⟨y0, y1, y2, y3, y4, g0, g1, g2, g3, g4⟩ := dk_cells hz
        simp only [zeroDV] at y0 y1 y2 y3 y4
        clear hz
        go_wp2
        refine bodyPost_ret (v := .tuple #[.agg #[.slice A0 N0 D0, .slice A1 N1 D1, .int .i64 lf, .bool fu, .bool of], .int .i64 0]) ?_ rfl (HH.out _ _ _ _ _)
        simp [results, Try.results14, go_sem, y0, y1, y2, y3, y4]
      · rw [if_neg hk]
        have hb3 : (kind == 3) = false := by simp [hk]
        by_cases hk : kind = 4
        · subst hk
          rw [if_pos rfl]
          clear HBY HWR HSM HFL HAM HRD
          go_enter Try.func14, Try.ntmps14
          go_wp2_with fail
          refine HCR.out.mono ?_
          rintro e w2 ⟨A0, A1, N0, N1, D0, D1, lf, fu, of, rfl, HH, hz⟩
          obtain ⟨y0, y1, y2, y3, y4, g0, g1, g2, g3, g4⟩ := dk_cells hz
          simp only [zeroDV] at y0 y1 y2 y3 y4
          clear hz
          go_wp2
          refine bodyPost_ret (v := .tuple #[.agg #[.slice A0 N0 D0, .slice A1 N1 D1, .int .i64 lf, .bool fu, .bool of], .int .i64 0]) ?_ rfl (HH.out _ _ _ _ _)
          simp [results, Try.results14, go_sem, y0, y1, y2, y3, y4]
        · rw [if_neg hk]
          have hb4 : (kind == 4) = false := by simp [hk]
          by_cases hk : kind = 5
          · subst hk
            rw [if_pos rfl]
            clear HBY HWR HFL HAM HCR
            go_enter Try.func14, Try.ntmps14
            go_wp2_with fail
            refine HRD.out.mono ?_
            rintro e w2 ⟨p, pn, pc, rfl, b2⟩
            have t1 := HT.out _ b2.out
            have ZZ := hide (HSM.out w2 RR b2.out)
            obtain ⟨x0, x1, x2, x3, x4, _⟩ := dk_cells t1.d
            obtain ⟨y0, y1, y2, y3, y4, g0, g1, g2, g3, g4⟩ := dk_cells t1.z
            simp only [zeroDV] at x0 x1 x2 x3 x4 y0 y1 y2 y3 y4
            clear t1 b2 HSM HT
            go_wp2
            refine bodyPost_ret (v := .tuple #[.agg #[.slice sa k1 sc, .slice la k2 lc, .int .i64 left, .bool fuse, .bool off], .int .i64 RR]) ?_ rfl (ZZ.out _ _ _ _ _)
            simp [results, Try.results14, go_sem, y0, y1, y2, y3, y4]
          · rw [if_neg hk]
            have hb5 : (kind == 5) = false := by simp [hk]
            clear HBY HWR HFL HAM HCR HRD hk
            have ZZ : Hid (∀ o1 o2 o3, Below w.heap.size w (((w.alloc o1).alloc o2).alloc o3)) := hide (fun o1 o2 o3 => (below_two w o1 o2).trans ((below_alloc ((w.alloc o1).alloc o2) o3).mono (below_two w o1 o2).size))
            have HI6 := HI6
            go_enter Try.func14, Try.ntmps14
            go_wp2
            refine bodyPost_ret (v := .tuple #[.agg #[.slice sa k1 sc, .slice la k2 lc, .int .i64 left, .bool fuse, .bool off], .int .i64 0]) ?_ rfl ⟨⟨⟨safe, l, left, fuse, off⟩, .slice sa k1 sc, .slice la k2 lc⟩, rfl, rfl, HI6.out _ (ZZ.out _ _ _), ZZ.out _ _ _⟩
            simp [results, Try.results14, go_sem]
end Go.Proofs.Yteacldkfdhhphaa
