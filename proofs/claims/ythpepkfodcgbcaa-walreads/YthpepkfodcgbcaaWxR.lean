import Derived.Test.YthpepkfodcgbcaaWxS
import Derived.Deep.RegionHeld2
/- WalReads's walk. -/
set_option linter.unusedVariables false
set_option linter.unusedSimpArgs false
set_option maxRecDepth 40000
namespace Go.Proofs.Ythpepkfodcgbcaa
open Go.RowKit

set_option maxHeartbeats 4000000 in
theorem walReads_walk (bl fi si : Int) (ep : Nat) (lv : Value) (l : List (CL × Value)) (w : World) (h1 : -9223372036854775808 ≤ fi ∧ fi ≤ 9223372036854775807) (h2 : -9223372036854775808 ≤ si ∧ si ≤ 9223372036854775807) (he : ep < 18446744073709551616) (hL : IsL w lv l) (hl : l.length ≤ 9223372036854775807) :
    Calls Try.prog 4 #[.agg #[.int .i64 bl, .int .i64 fi, .int .i64 si, .int .u64 (ep : Int)], lv] w fun e w' => e = .returned (.bool true) ∧ Below w.heap.size w w' := by
  obtain ⟨q, hq⟩ : ∃ q : Nat, pickN bl 12 = q := ⟨(pickN bl 12).toNat, by have := (pick_bound bl 12 (by omega)).1; unfold pickN; omega⟩
  have hq2 : q < 12 := by have := (pick_bound bl 12 (by omega)).2; unfold pickN at hq; omega
  have HPK : Hid (∀ x, Calls Try.prog 8 #[.int .i64 bl, .int .i64 12] x fun e w' => e = .returned (.int .i64 (q : Int)) ∧ w' = x) := hide (fun x => (pick17_any bl 12 (by omega) (by omega) x).mono fun e w' h => by rw [hq] at h; exact h)
  have HB0 := hide (below_alloc w (.cells #[.int .i64 bl, .int .i64 fi, .int .i64 si, .int .u64 (ep : Int)] 68))
  have HC0 := hide (alloc_new w (.cells #[.int .i64 bl, .int .i64 fi, .int .i64 si, .int .u64 (ep : Int)] 68))
  have HL0 := hide (hL.below HB0.out)
  generalize hw0 : w.alloc (.cells #[.int .i64 bl, .int .i64 fi, .int .i64 si, .int .u64 (ep : Int)] 68) = w0 at *
  have HOF : Hid (∀ x, Below w0.heap.size w0 x → x.cell? ⟨w.heap.size, 0, none⟩ = some (.int .i64 bl) ∧ x.cell? ⟨w.heap.size, 1, none⟩ = some (.int .i64 fi) ∧ x.cell? ⟨w.heap.size, 2, none⟩ = some (.int .i64 si) ∧ x.cell? ⟨w.heap.size, 3, none⟩ = some (.int .u64 (ep : Int))) := hide (fun x hb => by
    have hx := (hb.block _ (blk_ltW HC0.out)).trans HC0.out
    refine ⟨?_, ?_, ?_, ?_⟩ <;> simp [World.cell?, hx])
  have HN : Hid (Calls Try.prog 9 #[.int .i64 (1 + (q : Int))] w0 fun e y => ∃ a, e = .returned (.tuple #[.pointer (some a), .int .i64 0]) ∧ Hid (Liv w0 (.pointer (some a)) (newD (1 + q)) y)) := hide ((live_new (1 + (q : Int)) w0 w0 (Below.refl _ _) (by omega)).mono fun e y hh => by
    rw [show ((1 : Int) + q).toNat = 1 + q by omega] at hh
    exact hh)
  have HRN : Hid (∀ v x, Liv w0 v (newD (1 + q)) x → Calls Try.prog 10 #[.int .i64 (1 + (q : Int))] x fun e y => ∃ r : DV, e = .returned (.tuple #[dkA r, .int .i64 0]) ∧ r.m = newD (1 + q) ∧ Hid (IsD y r) ∧ Hid (Liv w0 v (newD (1 + q)) y)) := hide (fun v x hl => (rnew_any (1 + q : Int) x).mono fun e y hh => by
    obtain ⟨r, e1, e2, e3, e4⟩ := hh
    rw [show newR ((1 : Int) + q) = (newD (1 + q), 0) by unfold newR; rw [if_pos (by omega), show ((1 : Int) + q).toNat = 1 + q by omega]] at e1 e2
    exact ⟨r, e1, e2, hide e3, hide (hl.below e4)⟩)
  have HSE : Hid (∀ (i : Nat) x, i < 12 → Below w0.heap.size w0 x → Calls Try.prog 33 #[lv, .int .i64 ((i * 4 : Nat) : Int)] x fun e y => ∃ g c, e = .returned (.slice (some ⟨g, 0, none⟩) 256 c) ∧ Hid (IsY y (.slice (some ⟨g, 0, none⟩) 256 c) (secsB (l.map Prod.fst) (i * 4) 4)) ∧ x.heap.size ≤ g ∧ Hid (Below x.heap.size x y)) := hide (fun i x hi hb => (sectors_any lv l (i * 4) x (HL0.out.below hb) (by omega) hl).mono fun e y hh => by
    obtain ⟨g, c, rfl, ho, hb2⟩ := hh
    refine ⟨g, c, rfl, hide ?_, owns_blkY ho g rfl, hide hb2⟩
    have h256 : (secsB (l.map Prod.fst) (i * 4) 4).length = 256 := secsB_len _ _ 4
    have ho2 := ho
    rw [← h256] at ho2
    have h3 := owns_isYB ho2
    rw [h256] at h3
    exact h3)
  have HB256 : Hid (∀ i, (secsB (l.map Prod.fst) (i * 4) 4).length = 256) := hide (fun i => secsB_len _ _ 4)
  have HST := hide (Wrt.start hq2)
  have hw1 : wrap64 (1 + (q : Int)) = 1 + (q : Int) := by unfold wrap64; omega
  generalize l.map Prod.fst = cs at *
  clear hq hL hl HC0 HL0
  go_enter Try.func4, Try.ntmps4
  obtain ⟨k0, k1, k2, k3⟩ := HOF.out w0 (Below.refl _ _)
  go_wp2_with fail
  clear hw0 k0 k1 k2 k3
  refine (HPK.out _).mono ?_
  rintro e x1 ⟨rfl, rfl⟩
  clear HPK
  go_wp2_with fail
  refine HN.out.mono ?_
  rintro e x2 ⟨p, rfl, L2⟩
  have H2 := hide (HRN.out _ x2 L2.out)
  clear HN HRN L2
  go_wp2_with fail
  refine H2.out.mono ?_
  rintro e x3 ⟨r, rfl, m3, i3, L3⟩
  have W3 := hide (WD.start L3.out i3.out)
  obtain ⟨sa, sc, es⟩ := i3.out.s.form
  obtain ⟨la, lc, el⟩ := i3.out.l.form
  obtain ⟨⟨safe, dl, left, fuse, off⟩, sv, lv2⟩ := r
  simp only [] at es el m3
  subst es el
  have M3 := hide m3
  clear H2 L3 i3 m3
  replace W3 : Hid (WD x1 (.pointer (some p)) (newD (1 + q)) x3.heap.size ⟨⟨safe, dl, left, fuse, off⟩, .slice sa safe.length sc, .slice la dl.length lc⟩ (x3.alloc (.cells #[.slice sa safe.length sc, .slice la dl.length lc, .int .i64 left, .bool fuse, .bool off] 31))) := W3
  go_wp2
  generalize x3.alloc (.cells #[.slice sa safe.length sc, .slice la dl.length lc, .int .i64 left, .bool fuse, .bool off] 31) = x4 at *
  generalize x3.heap.size = R at *
  go_loopw [10] (fun vi wr => ∃ (i : Nat), vi = .int .i64 (i : Int) ∧ Hid (i ≤ 1 + q) ∧ ∃ r : DV, Hid (Wrt q i r.m) ∧ Hid (WD x1 (.pointer (some p)) r.m R r wr)) (fun vi _ => 13 - (intOf vi).toNat)
  case atStart =>
    rw [← M3.out] at W3 HST
    exact ⟨0, rfl, hide (Nat.zero_le _), ⟨⟨safe, dl, left, fuse, off⟩, .slice sa safe.length sc, .slice la dl.length lc⟩, HST, W3⟩
  case round =>
    clear W3 HST M3
    obtain ⟨i, rfl, HI, r, HW, W⟩ := hrel
    by_cases hlt : i < 1 + q
    · have hltZ : (i : Int) < 1 + (q : Int) := by omega
      have HS1 := hide (HSE.out i wr (by omega) W.out.b)
      have hi4 : wrap64 ((i : Int) * 4) = ((i * 4 : Nat) : Int) := by unfold wrap64; omega
      have HFT := HW.out.f
      have HSTEP := hide (HW.out.step (b := secsB cs (i * 4) 4) hq2 hlt (HB256.out i))
      go_wp2_with fail
      refine HS1.out.mono ?_
      rintro e y1 ⟨g, c, rfl, HY, hg, b1⟩
      have W1 := hide (W.out.below b1.out)
      obtain ⟨s0, s1, s2, s3, s4, f0, f1, f2, f3, f4⟩ := dk_cells W1.out.c
      have HR := hide (wd_rwrite (n := (i : Int)) HW.out.f W1.out HY.out (by rw [HB256.out]; decide))
      rw [HSTEP.out.1] at HR
      have HOFF : Hid (∀ y, (∀ k, k ≠ R → k < y1.heap.size → y.heap[k]? = y1.heap[k]?) → ∃ A, IsK A y (.pointer (some p)) r.m ∧ (∀ k, A k → x1.heap.size ≤ k) ∧ ¬ A R ∧ Off A (.slice (some ⟨g, 0, none⟩) 256 c)) := hide (fun y hy => W.out.off (fun k h1 h2 => (hy k h1 (Nat.lt_of_lt_of_le h2 b1.out.size)).trans (b1.out.block k h2)) (fun k hk => by cases hk; exact hg))
      have hgR : g ≠ R := by
        have := blk_ltW W.out.c
        omega
      clear HS1 W b1
      obtain ⟨ra, rc, es⟩ := W1.out.i.s.form
      obtain ⟨rla, rlc, el⟩ := W1.out.i.l.form
      obtain ⟨⟨rs, rl, rleft, rfu, rof⟩, rsv, rlv⟩ := r
      simp only [] at es el s0 s1 s2 s3 s4
      subst es el
      simp only [] at *
      generalize rs.length = rsl at *
      generalize rl.length = rll at *
      go_wp2_with fail
      refine HR.out.mono ?_
      rintro e y2 ⟨r', rfl, M2, I2, W2, b2⟩
      obtain ⟨s0, s1, s2, s3, s4, f0, f1, f2, f3, f4⟩ := dk_cells W2.out.c
      obtain ⟨ta, tc, es⟩ := I2.out.s.form
      obtain ⟨tla, tlc, el⟩ := I2.out.l.form
      have W3 := hide (W2.out.put I2.out)
      have H3 := hide (fun hFit => wd_write (n := (i : Int)) hFit W3.out ((HY.out.below b2.out).keep (fun k hk => by cases hk; exact set5_other _ _ _ _ _ _ _ _ hgR)) (HOFF.out _ (fun k h1 h2 => (set5_other _ _ _ _ _ _ _ _ h1).trans (b2.out.block k h2))) (by rw [HB256.out]; decide))
      have H4 := hide (H3 HFT)
      rw [HSTEP.out.1, ← M2] at H4
      rw [← M2] at HSTEP
      have HW2 := hide HSTEP.out.2
      clear H3 HFT HR W1 W2 W3 I2 HY HOFF HSTEP HW b2 hgR
      obtain ⟨⟨ts, tl, tleft, tfu, tof⟩, tsv, tlv⟩ := r'
      simp only [] at es el
      subst es el
      simp only [] at *
      clear M2
      generalize hts : ts.length = tsl at *
      generalize htl : tl.length = tll at *
      go_wp2_with fail
      refine H4.out.mono ?_
      rintro e y5 ⟨rfl, W5⟩
      clear H4
      go_wp2
      go_roundw
      case rel => exact ⟨i + 1, by go_num, hide (by omega), ⟨⟨ts, tl, tleft, tfu, tof⟩, .slice ta tsl tc, .slice tla tll tlc⟩, HW2, W5⟩
      case measure => simp [intOf]; omega
    · have hltZ : ¬ (i : Int) < 1 + (q : Int) := by omega
      have hiq : i ≤ 12 := by have := HI.out; omega
      have HS48 : r.m.safe.length ≤ 800 := by rw [HW.out.s]; omega
      have HFT := HW.out.f
      obtain ⟨k0, k1, k2, k3⟩ := HOF.out wr W.out.b
      have HAL := hide alive17_any
      rcases open_or r.m fi si ep with ⟨m, hm⟩ | ⟨E, hE, hm⟩
      · have HO := hide (wd_open_some W.out HFT HS48 h1 h2 he hm)
        have HRO : Hid (∀ x, WD x1 (.pointer (some p)) r.m R r x → Calls Try.prog 12 #[dkA r, .int .i64 fi, .int .i64 si, .int .u64 (ep : Int)] x fun e y => ∃ g : LgV, e = .returned (.tuple #[lgA g, .int .i64 0]) ∧ g.m = Option.getD (some m) zeroLg.m ∧ Hid (IsG (fun _ => True) y g) ∧ Hid (Below x.heap.size x y)) := hide (fun x h => wd_ropen h HFT HS48 h1 h2 he hm)
        obtain ⟨ok, hrn, hep⟩ := open_fitZ HW.out hq2 hiq he hm
        have HOKG := hide ok
        have HRN := hide hrn
        have HEP := hide hep
        clear HS48 HFT HSE HB256 HW W hm HI ok hrn hep
        go_wp2_with fail
        refine HO.out.mono ?_
        rintro e y1 ⟨a, rfl, LW1, W1⟩
        obtain ⟨k0, k1, k2, k3⟩ := HOF.out y1 W1.out.b
        obtain ⟨s0, s1, s2, s3, s4, f0, f1, f2, f3, f4⟩ := dk_cells W1.out.c
        have HR1 := hide (HRO.out y1 W1.out)
        obtain ⟨ra, rc, es⟩ := W1.out.i.s.form
        obtain ⟨rla, rlc, el⟩ := W1.out.i.l.form
        clear HRO HO W1
        obtain ⟨⟨rs, rl, rleft, rfu, rof⟩, rsv, rlv⟩ := r
        simp only [] at es el s0 s1 s2 s3 s4
        subst es el
        simp only [] at *
        generalize rs.length = rsl at *
        generalize rl.length = rll at *
        go_wp2_with fail
        refine HR1.out.mono ?_
        rintro e y2 ⟨gl, rfl, gm2, IG, b2⟩
        obtain ⟨ga, gc, eg⟩ := IG.out.form
        obtain ⟨gm, gv⟩ := gl
        simp only [Option.getD_some] at eg gm2 IG
        subst eg gm2
        have hba := below_alloc y2 (.cells (lgC ⟨gm, .slice ga gm.recs.length gc⟩) 40)
        have LW9 := hide ((LW1.out.below b2.out).below hba)
        have IG9 : Hid (IsRs (fun _ => True) (y2.alloc (.cells (lgC ⟨gm, .slice ga gm.recs.length gc⟩) 40)) (.slice ga gm.recs.length gc) gm.recs) := hide (IG.out.below hba)
        have HGA := hide (alloc_new y2 (.cells (lgC ⟨gm, .slice ga gm.recs.length gc⟩) 40))
        clear HR1 IG b2 s0 s1 s2 s3 s4 f0 f1 f2 f3 f4 k0 k1 k2 k3 LW1 hba
        generalize hx9 : y2.alloc (.cells (lgC ⟨gm, .slice ga gm.recs.length gc⟩) 40) = x9 at LW9 IG9 HGA
        replace hx9 : y2.alloc (.cells #[.int .i64 (gm.first : Int), .int .i64 (gm.size : Int), .int .u64 (gm.ep : Int), .int .u64 (gm.li : Int), .int .i64 (gm.end_ : Int), .slice ga gm.recs.length gc, .bool gm.broken] 40) = x9 := hx9
        have HB9 := hide LW9.out.b
        have HALV : Hid (∀ W, Below x9.heap.size x9 W → Calls Try.prog 32 #[] W fun e y => e = .returned (.bool true) ∧ Hid (Below W.heap.size W y)) := hide (fun W _ => (HAL.out W).mono fun e y hh => ⟨hh.1, hide hh.2⟩)
        have HREC : Hid (∀ W, Below x9.heap.size x9 W → Calls Try.prog 24 #[.pointer (some a)] W fun e y => ∃ a3 c3, e = .returned (.slice a3 gm.recs.length c3) ∧ Hid (IsRs (fun _ => True) y (.slice a3 gm.recs.length c3) gm.recs) ∧ Hid (Below W.heap.size W y)) := hide (fun W hW => (lw_records (LW9.out.below hW) HRN.out).mono fun e y hh => by
          obtain ⟨a3, c3, rfl, n3, b3⟩ := hh
          exact ⟨a3, c3, rfl, hide n3.out.isRs, b3⟩)
        have HSAME : Hid (∀ W a3 c3, Below x9.heap.size x9 W → IsRs (fun _ => True) W (.slice a3 gm.recs.length c3) gm.recs → Calls Try.prog 25 #[.slice a3 gm.recs.length c3, .slice ga gm.recs.length gc] W fun e y => e = .returned (.bool true) ∧ Hid (Below W.heap.size W y)) := hide (fun W a3 c3 hW hR => (rsame17_any _ _ gm.recs gm.recs W hR (IG9.out.below hW) (by have := HRN.out; omega) (by have := HRN.out; omega)).mono fun e y hh => ⟨by rw [hh.1, show sameW gm.recs gm.recs = true from decide_eq_true rfl], hide hh.2⟩)
        have HROOM : Hid (∀ W, Below x9.heap.size x9 W → Calls Try.prog 26 #[.pointer (some a)] W fun e y => e = .returned (.int .i64 (roomW gm : Int)) ∧ Hid (Below W.heap.size W y)) := hide (fun W hW => lw_room (LW9.out.below hW) HOKG.out)
        have HRROOM : Hid (∀ W, Below x9.heap.size x9 W → Calls Try.prog 27 #[.agg #[.int .i64 (gm.first : Int), .int .i64 (gm.size : Int), .int .u64 (gm.ep : Int), .int .u64 (gm.li : Int), .int .i64 (gm.end_ : Int), .slice ga gm.recs.length gc, .bool gm.broken]] W fun e y => e = .returned (.int .i64 (roomW gm : Int)) ∧ Hid (Below W.heap.size W y)) := hide (fun W hW => (rroom_any ⟨gm, .slice ga gm.recs.length gc⟩ W HOKG.out).mono fun e y hh => ⟨hh.1, hide hh.2⟩)
        have HLIFE : Hid (∀ W, Below x9.heap.size x9 W → Calls Try.prog 28 #[.pointer (some a)] W fun e y => e = .returned (.int .u64 (gm.li : Int)) ∧ Hid (Below W.heap.size W y)) := hide (fun W hW => lw_life (LW9.out.below hW))
        have HEPOCH : Hid (∀ W, Below x9.heap.size x9 W → Calls Try.prog 29 #[.pointer (some a)] W fun e y => e = .returned (.int .u64 (ep : Int)) ∧ Hid (Below W.heap.size W y)) := hide (fun W hW => by
          have h := lw_epoch (LW9.out.below hW)
          rw [HEP.out] at h
          exact h)
        have HG : Hid (∀ W, Below x9.heap.size x9 W → W.heap[y2.heap.size]? = some (.cells (lgC ⟨gm, .slice ga gm.recs.length gc⟩) 40 (0, 0))) := hide (fun W hW => (hW.block _ (blk_ltW HGA.out)).trans HGA.out)
        clear HAL LW9 IG9 HGA HRN HEP HOKG
        generalize roomW gm = rm at *
        generalize gm.recs = recs at *
        generalize recs.length = nr at *
        obtain ⟨m1, m2, m3, m4, m5, m6, m7⟩ := gm
        simp only [] at *
        clear hiq
        go_wp2_with fail
        refine wp_region_held_drew (S := fun W' => Below x9.heap.size x9 W') (by kernel_rfl) (Below.refl _ x9).drew (fun hHeld => ?_)
        clear hx9
        generalize y2.heap.size = G at *
        have HB5 := hide (HALV.out _ hHeld)
        refine wpAnyH_ready (rs := [0]) (by kernel_rfl) (by simp) ?_
        refine AllReadyH.cons rfl (fun K hK => ?_) AllReadyH.nil
        go_simp
        go_wp2_with (first | (go_at_call 32; refine HB5.out.mono ?_; rintro e y0 ⟨rfl, b0⟩))
        refine hK.out _ _ ?_ (fun hHeld => ?_)
        · exact Below.trans hHeld (b0.out.mono hHeld.size)
        clear hK K HB5
        try simp only [Act.put, List.getElem_toArray, List.getElem_cons_zero, List.getElem_cons_succ, List.setIfInBounds_toArray, List.set_cons_zero, List.set_cons_succ]
        refine wpAnyH_take (i := 1) (v := ?_) rfl (by kernel_rfl) (by kernel_rfl) (by kernel_rfl) (fun _ _ _ h => h) (Or.inl ⟨by kernel_rfl, ?_⟩) hHeld ?_
        rotate_left
        · intro W hSw
          clear hSw
          go_simp <;> with_reducible rfl
        simp only [Act.put, List.getElem_toArray, List.getElem_cons_zero, List.getElem_cons_succ, List.setIfInBounds_toArray, List.set_cons_zero, List.set_cons_succ]
        refine wpAnyH_take (i := 2) (v := ?_) rfl (by kernel_rfl) (by kernel_rfl) (by kernel_rfl) (fun _ _ _ h => h) (Or.inl ⟨by kernel_rfl, ?_⟩) hHeld ?_
        rotate_left
        · intro W hSw
          clear hSw
          go_simp <;> with_reducible rfl
        simp only [Act.put, List.getElem_toArray, List.getElem_cons_zero, List.getElem_cons_succ, List.setIfInBounds_toArray, List.set_cons_zero, List.set_cons_succ]
        refine wpAnyH_take (i := 4) (v := ?_) rfl (by kernel_rfl) (by kernel_rfl) (by kernel_rfl) (fun _ _ _ h => h) (Or.inl ⟨by kernel_rfl, ?_⟩) hHeld ?_
        rotate_left
        · intro W hSw
          clear hSw
          go_simp <;> with_reducible rfl
        simp only [Act.put, List.getElem_toArray, List.getElem_cons_zero, List.getElem_cons_succ, List.setIfInBounds_toArray, List.set_cons_zero, List.set_cons_succ]
        refine wpAnyH_take (i := 5) (v := ?_) rfl (by kernel_rfl) (by kernel_rfl) (by kernel_rfl) (fun _ _ _ h => h) (Or.inl ⟨by kernel_rfl, ?_⟩) hHeld ?_
        rotate_left
        · intro W hSw
          obtain ⟨s0, s1, s2, s3, s4, s5, s6, _⟩ := lg_cells (HG.out _ hSw)
          try simp only [] at s5
          clear hSw
          go_simp <;> with_reducible rfl
        simp only [Act.put, List.getElem_toArray, List.getElem_cons_zero, List.getElem_cons_succ, List.setIfInBounds_toArray, List.set_cons_zero, List.set_cons_succ]
        have HB5 := hide (HREC.out _ hHeld)
        refine wpAnyH_ready (rs := [3]) (by kernel_rfl) (by simp) ?_
        refine AllReadyH.cons rfl (fun K hK => ?_) AllReadyH.nil
        go_simp
        go_wp2_with (first | (go_at_call 24; refine HB5.out.mono ?_; rintro e y3 ⟨a3, c3, rfl, n3, b3⟩))
        refine hK.out _ _ ?_ (fun hHeld => ?_)
        · exact Below.trans hHeld (b3.out.mono hHeld.size)
        clear hK K HB5
        try simp only [Act.put, List.getElem_toArray, List.getElem_cons_zero, List.getElem_cons_succ, List.setIfInBounds_toArray, List.set_cons_zero, List.set_cons_succ]
        have HB5 := hide (HSAME.out _ _ _ hHeld (n3.out))
        refine wpAnyH_ready (rs := [6]) (by kernel_rfl) (by simp) ?_
        refine AllReadyH.cons rfl (fun K hK => ?_) AllReadyH.nil
        go_simp
        go_wp2_with (first | (go_at_call 25; refine HB5.out.mono ?_; rintro e y6 ⟨rfl, b6⟩))
        refine hK.out _ _ ?_ (fun hHeld => ?_)
        · exact Below.trans hHeld (b6.out.mono hHeld.size)
        clear hK K HB5
        try simp only [Act.put, List.getElem_toArray, List.getElem_cons_zero, List.getElem_cons_succ, List.setIfInBounds_toArray, List.set_cons_zero, List.set_cons_succ]
        refine wpAnyH_take (i := 7) (v := ?_) rfl (by kernel_rfl) (by kernel_rfl) (by kernel_rfl) (fun _ _ _ h => h) (Or.inl ⟨by kernel_rfl, ?_⟩) hHeld ?_
        rotate_left
        · intro W hSw
          clear hSw
          go_simp <;> with_reducible rfl
        simp only [Act.put, List.getElem_toArray, List.getElem_cons_zero, List.getElem_cons_succ, List.setIfInBounds_toArray, List.set_cons_zero, List.set_cons_succ]
        refine wpAnyH_take (i := 8) (v := ?_) rfl (by kernel_rfl) (by kernel_rfl) (by kernel_rfl) (fun _ _ _ h => h) (Or.inl ⟨by kernel_rfl, ?_⟩) hHeld ?_
        rotate_left
        · intro W hSw
          clear hSw
          go_simp <;> with_reducible rfl
        simp only [Act.put, List.getElem_toArray, List.getElem_cons_zero, List.getElem_cons_succ, List.setIfInBounds_toArray, List.set_cons_zero, List.set_cons_succ]
        refine wpAnyH_take (i := 9) (v := ?_) rfl (by kernel_rfl) (by kernel_rfl) (by kernel_rfl) (fun _ _ _ h => h) (Or.inl ⟨by kernel_rfl, ?_⟩) hHeld ?_
        rotate_left
        · intro W hSw
          clear hSw
          go_simp <;> with_reducible rfl
        simp only [Act.put, List.getElem_toArray, List.getElem_cons_zero, List.getElem_cons_succ, List.setIfInBounds_toArray, List.set_cons_zero, List.set_cons_succ]
        refine wpAnyH_take (i := 11) (v := ?_) rfl (by kernel_rfl) (by kernel_rfl) (by kernel_rfl) (fun _ _ _ h => h) (Or.inl ⟨by kernel_rfl, ?_⟩) hHeld ?_
        rotate_left
        · intro W hSw
          obtain ⟨s0, s1, s2, s3, s4, s5, s6, _⟩ := lg_cells (HG.out _ hSw)
          try simp only [] at s0 s1 s2 s3 s4 s5 s6
          clear hSw
          go_simp <;> with_reducible rfl
        simp only [Act.put, List.getElem_toArray, List.getElem_cons_zero, List.getElem_cons_succ, List.setIfInBounds_toArray, List.set_cons_zero, List.set_cons_succ]
        have HB5 := hide (HROOM.out _ hHeld)
        refine wpAnyH_ready (rs := [10]) (by kernel_rfl) (by simp) ?_
        refine AllReadyH.cons rfl (fun K hK => ?_) AllReadyH.nil
        go_simp
        go_wp2_with (first | (go_at_call 26; refine HB5.out.mono ?_; rintro e y10 ⟨rfl, b10⟩))
        refine hK.out _ _ ?_ (fun hHeld => ?_)
        · exact Below.trans hHeld (b10.out.mono hHeld.size)
        clear hK K HB5
        try simp only [Act.put, List.getElem_toArray, List.getElem_cons_zero, List.getElem_cons_succ, List.setIfInBounds_toArray, List.set_cons_zero, List.set_cons_succ]
        have HB5 := hide (HRROOM.out _ hHeld)
        refine wpAnyH_ready (rs := [12]) (by kernel_rfl) (by simp) ?_
        refine AllReadyH.cons rfl (fun K hK => ?_) AllReadyH.nil
        go_simp
        go_wp2_with (first | (go_at_call 27; refine HB5.out.mono ?_; rintro e y12 ⟨rfl, b12⟩))
        refine hK.out _ _ ?_ (fun hHeld => ?_)
        · exact Below.trans hHeld (b12.out.mono hHeld.size)
        clear hK K HB5
        try simp only [Act.put, List.getElem_toArray, List.getElem_cons_zero, List.getElem_cons_succ, List.setIfInBounds_toArray, List.set_cons_zero, List.set_cons_succ]
        refine wpAnyH_take (i := 13) (v := ?_) rfl (by kernel_rfl) (by kernel_rfl) (by kernel_rfl) (fun _ _ _ h => h) (Or.inl ⟨by kernel_rfl, ?_⟩) hHeld ?_
        rotate_left
        · intro W hSw
          clear hSw
          go_simp <;> with_reducible rfl
        simp only [Act.put, List.getElem_toArray, List.getElem_cons_zero, List.getElem_cons_succ, List.setIfInBounds_toArray, List.set_cons_zero, List.set_cons_succ]
        refine wpAnyH_take (i := 14) (v := ?_) rfl (by kernel_rfl) (by kernel_rfl) (by kernel_rfl) (fun _ _ _ h => h) (Or.inl ⟨by kernel_rfl, ?_⟩) hHeld ?_
        rotate_left
        · intro W hSw
          clear hSw
          go_simp <;> with_reducible rfl
        simp only [Act.put, List.getElem_toArray, List.getElem_cons_zero, List.getElem_cons_succ, List.setIfInBounds_toArray, List.set_cons_zero, List.set_cons_succ]
        refine wpAnyH_take (i := 15) (v := ?_) rfl (by kernel_rfl) (by kernel_rfl) (by kernel_rfl) (fun _ _ _ h => h) (Or.inl ⟨by kernel_rfl, ?_⟩) hHeld ?_
        rotate_left
        · intro W hSw
          clear hSw
          go_simp <;> with_reducible rfl
        simp only [Act.put, List.getElem_toArray, List.getElem_cons_zero, List.getElem_cons_succ, List.setIfInBounds_toArray, List.set_cons_zero, List.set_cons_succ]
        refine wpAnyH_take (i := 16) (v := ?_) rfl (by kernel_rfl) (by kernel_rfl) (by kernel_rfl) (fun _ _ _ h => h) (Or.inl ⟨by kernel_rfl, ?_⟩) hHeld ?_
        rotate_left
        · intro W hSw
          clear hSw
          go_simp <;> with_reducible rfl
        simp only [Act.put, List.getElem_toArray, List.getElem_cons_zero, List.getElem_cons_succ, List.setIfInBounds_toArray, List.set_cons_zero, List.set_cons_succ]
        refine wpAnyH_take (i := 18) (v := ?_) rfl (by kernel_rfl) (by kernel_rfl) (by kernel_rfl) (fun _ _ _ h => h) (Or.inl ⟨by kernel_rfl, ?_⟩) hHeld ?_
        rotate_left
        · intro W hSw
          clear hSw
          go_simp <;> with_reducible rfl
        simp only [Act.put, List.getElem_toArray, List.getElem_cons_zero, List.getElem_cons_succ, List.setIfInBounds_toArray, List.set_cons_zero, List.set_cons_succ]
        refine wpAnyH_take (i := 19) (v := ?_) rfl (by kernel_rfl) (by kernel_rfl) (by kernel_rfl) (fun _ _ _ h => h) (Or.inl ⟨by kernel_rfl, ?_⟩) hHeld ?_
        rotate_left
        · intro W hSw
          obtain ⟨s0, s1, s2, s3, s4, s5, s6, _⟩ := lg_cells (HG.out _ hSw)
          try simp only [] at s3
          clear hSw
          go_simp <;> with_reducible rfl
        simp only [Act.put, List.getElem_toArray, List.getElem_cons_zero, List.getElem_cons_succ, List.setIfInBounds_toArray, List.set_cons_zero, List.set_cons_succ]
        have HB5 := hide (HLIFE.out _ hHeld)
        refine wpAnyH_ready (rs := [17]) (by kernel_rfl) (by simp) ?_
        refine AllReadyH.cons rfl (fun K hK => ?_) AllReadyH.nil
        go_simp
        go_wp2_with (first | (go_at_call 28; refine HB5.out.mono ?_; rintro e y17 ⟨rfl, b17⟩))
        refine hK.out _ _ ?_ (fun hHeld => ?_)
        · exact Below.trans hHeld (b17.out.mono hHeld.size)
        clear hK K HB5
        try simp only [Act.put, List.getElem_toArray, List.getElem_cons_zero, List.getElem_cons_succ, List.setIfInBounds_toArray, List.set_cons_zero, List.set_cons_succ]
        refine wpAnyH_take (i := 20) (v := ?_) rfl (by kernel_rfl) (by kernel_rfl) (by kernel_rfl) (fun _ _ _ h => h) (Or.inl ⟨by kernel_rfl, ?_⟩) hHeld ?_
        rotate_left
        · intro W hSw
          clear hSw
          go_simp <;> with_reducible rfl
        simp only [Act.put, List.getElem_toArray, List.getElem_cons_zero, List.getElem_cons_succ, List.setIfInBounds_toArray, List.set_cons_zero, List.set_cons_succ]
        refine wpAnyH_take (i := 21) (v := ?_) rfl (by kernel_rfl) (by kernel_rfl) (by kernel_rfl) (fun _ _ _ h => h) (Or.inl ⟨by kernel_rfl, ?_⟩) hHeld ?_
        rotate_left
        · intro W hSw
          clear hSw
          go_simp <;> with_reducible rfl
        simp only [Act.put, List.getElem_toArray, List.getElem_cons_zero, List.getElem_cons_succ, List.setIfInBounds_toArray, List.set_cons_zero, List.set_cons_succ]
        refine wpAnyH_take (i := 22) (v := ?_) rfl (by kernel_rfl) (by kernel_rfl) (by kernel_rfl) (fun _ _ _ h => h) (Or.inl ⟨by kernel_rfl, ?_⟩) hHeld ?_
        rotate_left
        · intro W hSw
          clear hSw
          go_simp <;> with_reducible rfl
        simp only [Act.put, List.getElem_toArray, List.getElem_cons_zero, List.getElem_cons_succ, List.setIfInBounds_toArray, List.set_cons_zero, List.set_cons_succ]
        refine wpAnyH_take (i := 23) (v := ?_) rfl (by kernel_rfl) (by kernel_rfl) (by kernel_rfl) (fun _ _ _ h => h) (Or.inl ⟨by kernel_rfl, ?_⟩) hHeld ?_
        rotate_left
        · intro W hSw
          clear hSw
          go_simp <;> with_reducible rfl
        simp only [Act.put, List.getElem_toArray, List.getElem_cons_zero, List.getElem_cons_succ, List.setIfInBounds_toArray, List.set_cons_zero, List.set_cons_succ]
        refine wpAnyH_take (i := 25) (v := ?_) rfl (by kernel_rfl) (by kernel_rfl) (by kernel_rfl) (fun _ _ _ h => h) (Or.inl ⟨by kernel_rfl, ?_⟩) hHeld ?_
        rotate_left
        · intro W hSw
          clear hSw
          go_simp <;> with_reducible rfl
        simp only [Act.put, List.getElem_toArray, List.getElem_cons_zero, List.getElem_cons_succ, List.setIfInBounds_toArray, List.set_cons_zero, List.set_cons_succ]
        refine wpAnyH_take (i := 26) (v := ?_) rfl (by kernel_rfl) (by kernel_rfl) (by kernel_rfl) (fun _ _ _ h => h) (Or.inl ⟨by kernel_rfl, ?_⟩) hHeld ?_
        rotate_left
        · intro W hSw
          obtain ⟨k0, k1, k2, k3⟩ := HOF.out _ (HB9.out.trans (hSw.mono HB9.out.size))
          clear hSw
          go_simp <;> with_reducible rfl
        simp only [Act.put, List.getElem_toArray, List.getElem_cons_zero, List.getElem_cons_succ, List.setIfInBounds_toArray, List.set_cons_zero, List.set_cons_succ]
        have HB5 := hide (HEPOCH.out _ hHeld)
        refine wpAnyH_ready (rs := [24]) (by kernel_rfl) (by simp) ?_
        refine AllReadyH.cons rfl (fun K hK => ?_) AllReadyH.nil
        go_simp
        go_wp2_with (first | (go_at_call 29; refine HB5.out.mono ?_; rintro e y24 ⟨rfl, b24⟩))
        refine hK.out _ _ ?_ (fun hHeld => ?_)
        · exact Below.trans hHeld (b24.out.mono hHeld.size)
        clear hK K HB5
        try simp only [Act.put, List.getElem_toArray, List.getElem_cons_zero, List.getElem_cons_succ, List.setIfInBounds_toArray, List.set_cons_zero, List.set_cons_succ]
        refine wpAnyH_take (i := 27) (v := ?_) rfl (by kernel_rfl) (by kernel_rfl) (by kernel_rfl) (fun _ _ _ h => h) (Or.inl ⟨by kernel_rfl, ?_⟩) hHeld ?_
        rotate_left
        · intro W hSw
          clear hSw
          go_simp <;> with_reducible rfl
        simp only [Act.put, List.getElem_toArray, List.getElem_cons_zero, List.getElem_cons_succ, List.setIfInBounds_toArray, List.set_cons_zero, List.set_cons_succ]
        refine wpAnyH_take (i := 28) (v := ?_) rfl (by kernel_rfl) (by kernel_rfl) (by kernel_rfl) (fun _ _ _ h => h) (Or.inl ⟨by kernel_rfl, ?_⟩) hHeld ?_
        rotate_left
        · intro W hSw
          clear hSw
          go_simp <;> with_reducible rfl
        simp only [Act.put, List.getElem_toArray, List.getElem_cons_zero, List.getElem_cons_succ, List.setIfInBounds_toArray, List.set_cons_zero, List.set_cons_succ]
        refine wpAnyH_take (i := 29) (v := ?_) rfl (by kernel_rfl) (by kernel_rfl) (by kernel_rfl) (fun _ _ _ h => h) (Or.inl ⟨by kernel_rfl, ?_⟩) hHeld ?_
        rotate_left
        · intro W hSw
          clear hSw
          go_simp <;> with_reducible rfl
        simp only [Act.put, List.getElem_toArray, List.getElem_cons_zero, List.getElem_cons_succ, List.setIfInBounds_toArray, List.set_cons_zero, List.set_cons_succ]
        refine wpAnyH_done (by kernel_rfl) ?_ _
        have HFIN := hide (HB0.out.trans ((HB9.out.trans (hHeld.mono HB9.out.size)).mono HB0.out.size))
        clear hHeld
        go_wp2
        go_ret
        exact ⟨rfl, HFIN.out⟩
      · have HO := hide (wd_open_none W.out HFT HS48 h1 h2 he hm)
        have HRO : Hid (∀ x, WD x1 (.pointer (some p)) r.m R r x → Calls Try.prog 12 #[dkA r, .int .i64 fi, .int .i64 si, .int .u64 (ep : Int)] x fun e y => ∃ g : LgV, e = .returned (.tuple #[lgA g, .int .i64 E]) ∧ g.m = Option.getD none zeroLg.m ∧ Hid (IsG (fun _ => True) y g) ∧ Hid (Below x.heap.size x y)) := hide (fun x h => wd_ropen h HFT HS48 h1 h2 he hm)
        clear HS48 HFT HSE HB256 HW W hm HI
        go_wp2_with fail
        refine HO.out.mono ?_
        rintro e y1 ⟨rfl, W1⟩
        obtain ⟨k0, k1, k2, k3⟩ := HOF.out y1 W1.out.b
        obtain ⟨s0, s1, s2, s3, s4, f0, f1, f2, f3, f4⟩ := dk_cells W1.out.c
        have HR1 := hide (HRO.out y1 W1.out)
        have HB1 := hide W1.out.b
        obtain ⟨ra, rc, es⟩ := W1.out.i.s.form
        obtain ⟨rla, rlc, el⟩ := W1.out.i.l.form
        clear HRO HO W1
        obtain ⟨⟨rs, rl, rleft, rfu, rof⟩, rsv, rlv⟩ := r
        simp only [] at es el s0 s1 s2 s3 s4
        subst es el
        simp only [] at *
        generalize rs.length = rsl at *
        generalize rl.length = rll at *
        go_wp2_with fail
        refine HR1.out.mono ?_
        rintro e y2 ⟨gl, rfl, _, IG, b2⟩
        obtain ⟨ga, gc, eg⟩ := IG.out.form
        obtain ⟨gm, gv⟩ := gl
        simp only [] at eg
        subst eg
        have HB2 := hide (HB1.out.trans (b2.out.mono HB1.out.size))
        clear HR1 IG b2 s0 s1 s2 s3 s4 f0 f1 f2 f3 f4 k0 k1 k2 k3 HB1
        go_wp2_with fail
        clear hE
        refine (HAL.out _).mono ?_
        rintro e y3 ⟨rfl, b3⟩
        have HB3 := hide (HB0.out.trans ((HB2.out.trans ((below_alloc y2 _).mono HB2.out.size |>.trans (b3.mono (Nat.le_trans HB2.out.size (below_alloc y2 _).size)))).mono HB0.out.size))
        clear HAL HB2 b3
        go_wp2
        go_ret
        exact ⟨rfl, HB3.out⟩
end Go.Proofs.Ythpepkfodcgbcaa
