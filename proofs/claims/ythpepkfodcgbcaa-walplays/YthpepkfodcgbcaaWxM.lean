import Derived.Test.YthpepkfodcgbcaaWq12
/- What the document's Append answers where a record is appended. -/
set_option linter.unusedVariables false
set_option linter.unusedSimpArgs false
set_option maxRecDepth 40000
namespace Go.Proofs.Ythpepkfodcgbcaa
open Go.RowKit

theorem meas4 (i : Nat) (h : i + 1 ≤ 4) : 4 - (intOf (Value.int .i64 ((i : Int) + 1))).toNat < 4 - (intOf (Value.int .i64 (i : Int))).toNat := by
  simp [intOf]
  omega
theorem succI (i : Nat) : Value.int IntKind.i64 ((i : Int) + 1) = Value.int IntKind.i64 ((i + 1 : Nat) : Int) := rfl
set_option maxHeartbeats 32000000 in
theorem rappend_go (g : LgV) (d : DV) (bv : Value) (b : Bs) (w : World) (P : Nat → Prop) (hP : ∀ k, w.heap.size ≤ k → P k) (hG : IsG P w g) (hI : IsD w d) (hY : IsY w bv b) (hO : OkG g.m) (hok : OkD d.m) (hs : d.m.safe.length ≤ 100000) (hll : d.m.l.length ≤ 90000) (hleft : 0 ≤ d.m.left ∧ d.m.left ≤ 9223372036854775807) (hfit : (g.m.first + g.m.size) * 4 ≤ d.m.safe.length) (hrn : g.m.recs.length ≤ 100000) (hw : whyW g.m b = 0) :
    Calls Try.prog 15 #[lgA g, dkA d, bv] w (LogDR P w (appendW g.m d.m b).1 (appendW g.m d.m b).2.1 (appendW g.m d.m b).2.2) := by
  have hF := four_start hP hG hI
  obtain ⟨ra, rc, er⟩ := hG.form
  obtain ⟨sa, sc, es⟩ := hI.s.form
  obtain ⟨la, lc, el⟩ := hI.l.form
  obtain ⟨ba, bc, rfl⟩ := hY.form
  have hwhy : b.length ≠ 0 ∧ b.length ≤ 6000 ∧ g.m.broken = false ∧ b.length ≤ roomW g.m := by
    unfold whyW at hw
    split at hw
    · cases hw
    · next q1 =>
      split at hw
      · cases hw
      · next q2 =>
        split at hw
        · cases hw
        · next q3 =>
          split at hw
          · cases hw
          · next q4 => exact ⟨q1, by omega, by simpa using q3, by omega⟩
  obtain ⟨w1, w2, w3, w4⟩ := hwhy
  obtain ⟨r1, r2, r3⟩ := room_fits w3 w4 (by omega) hO.le
  have HAP : Hid (appendW g.m d.m b = (if (putW g.m d.m b).2 = 0 then { g.m with recs := g.m.recs ++ [b], end_ := g.m.end_ + (secsC b g.m.ep g.m.li).length } else { g.m with broken := true }, (putW g.m d.m b).1, (putW g.m d.m b).2)) := hide (by unfold appendW; rw [if_pos hw])
  have hput : putW g.m d.m b = writesW (laidW (nowD d.m) (fromW g.m) (secsC b g.m.ep g.m.li)) d.m ((fromW g.m + (secsC b g.m.ep g.m.li).length - 1) / 4 + 1 - fromW g.m / 4) (fromW g.m / 4) := rfl
  have HPUT := hide hput
  have hfrom : fromW g.m = g.m.first * 4 + g.m.end_ := rfl
  have hnl := now_len d.m
  have HRM : Hid (Calls Try.prog 27 #[lgA g] (ldW w g d) fun e w' => e = .returned (.int .i64 (roomW g.m : Int)) ∧ Hid (FourB P w g d w')) := hide ((rroom_any g _ hO).mono fun e w' hh => ⟨hh.1, hide (hF.below hh.2)⟩)
  have HCUT : Hid (∀ x, Below w.heap.size w x → Calls Try.prog 48 #[.slice ba b.length bc, .int .u64 (g.m.ep : Int), .int .u64 (g.m.li : Int)] x (CutA x (cutC b g.m.ep g.m.li))) := hide (fun x hx => rcutA _ b _ _ x (hY.below hx) (by omega) hO.ep hO.li)
  have HNOW : Hid (∀ x, Below w.heap.size w x → Calls Try.prog 49 #[dkA d] x fun e w' => ∃ a c, e = .returned (.slice a d.m.safe.length c) ∧ Hid (IsW w' (.slice a d.m.safe.length c) (nowD d.m)) ∧ Hid (Below x.heap.size x w')) := hide (fun x hx => (rnow_any d x (hI.below hx) hok hs (by omega)).mono fun e w' hh => by
    obtain ⟨v, rfl, ho, hb⟩ := hh
    obtain ⟨a, c, rfl⟩ := owns_formG ho
    rw [hnl] at ho ⊢
    have ho2 : w'.ownsRow x.heap.size 9 1 (.slice a d.m.safe.length c) d.m.safe.length (textsV (nowD d.m)) := ho
    exact ⟨a, c, rfl, hide (owns_isW ho2).1, hide hb⟩)
  have hsec : (secsC b g.m.ep g.m.li).length = (cutC b g.m.ep g.m.li).length := by rw [secsC, List.length_map]
  have hmay : ∀ c ∈ cutC b g.m.ep g.m.li, mayC c := fun c hc => (cut_may b _ _ c hc).1
  have hsx : ∀ (i : Nat) c, (cutC b g.m.ep g.m.li)[i]? = some c → (secsC b g.m.ep g.m.li)[i]? = some (encC c) := fun i c hc => by
    unfold secsC
    rw [List.getElem?_map, hc]
    rfl
  have hin : fromW g.m + (secsC b g.m.ep g.m.li).length ≤ (nowD d.m).length := by rw [hnl, hfrom]; have : g.m.end_ + (secsC b g.m.ep g.m.li).length ≤ g.m.size * 4 := r2; omega
  have HLS : Hid (∀ (i : Nat) x, (secsC b g.m.ep g.m.li)[i]? = some x → laidW (nowD d.m) (fromW g.m) ((secsC b g.m.ep g.m.li).take (i + 1)) = (laidW (nowD d.m) (fromW g.m) ((secsC b g.m.ep g.m.li).take i)).set (fromW g.m + i) x) := hide (fun i x hx => by
    obtain ⟨hi, rfl⟩ := List.getElem?_eq_some_iff.1 hx
    exact laid_set _ _ _ hin i hi)
  generalize hRMV : roomW g.m = RMV at HRM w4
  have hroom := w4
  clear hRMV
  have hS64' : ∀ x ∈ laidW (nowD d.m) (fromW g.m) (secsC b g.m.ep g.m.li), x.length = 64 := by
    have hn64 : ∀ y ∈ nowD d.m, y.length = 64 := fun y hy => by
      obtain ⟨i, hi, rfl⟩ := List.mem_iff_getElem.1 hy
      exact poss_64 hok (now_poss (List.getElem?_eq_getElem hi))
    intro x hx
    unfold laidW at hx
    rcases List.mem_append.1 hx with hx | hx
    · exact hn64 x (List.mem_of_mem_take hx)
    · rcases List.mem_append.1 hx with hx | hx
      · obtain ⟨_, _, _, _, e⟩ := secs_mem (b := b) hO.ep hO.li hx
        exact e
      · exact hn64 x (List.mem_of_mem_drop hx)
  have hll' := hll
  have hxl : (secsC b g.m.ep g.m.li).length ≤ 200 := by rw [secs_len _ _ (by omega)]; omega
  have HG := hide hG
  have HYB := hide hY
  obtain ⟨m, sv, lv⟩ := d
  obtain ⟨⟨first, size, ep, li, en, recs, broken⟩, rv⟩ := g
  simp only at er es el w3 hfrom
  subst er es el w3
  clear hG hI hY hF hO hput hw w4 hP
  simp only at HAP HPUT HRM HCUT HNOW HLS hsec hmay hsx hin r2 r3 hfit hrn hs hll hll' hleft hS64' hok hxl
  have HFIN : Hid (∀ r : DM × Int, writesW (laidW (nowD m) (first * 4 + en) (secsC b ep li)) m ((first * 4 + en + (secsC b ep li).length - 1) / 4 + 1 - (first * 4 + en) / 4) ((first * 4 + en) / 4) = r → appendW ⟨first, size, ep, li, en, recs, false⟩ m b = (if r.2 = 0 then ⟨first, size, ep, li, en + (secsC b ep li).length, recs ++ [b], false⟩ else ⟨first, size, ep, li, en, recs, true⟩, r.1, r.2)) := hide (fun r hr => by
    rw [HAP.out, HPUT.out, hfrom, hr])
  rw [hfrom] at HLS hin hS64'
  clear HAP HPUT hfrom
  generalize appendW ⟨first, size, ep, li, en, recs, false⟩ m b = RR at *
  generalize secsC b ep li = XS at *
  generalize cutC b ep li = CS at *
  generalize hNW : nowD m = NW at *
  clear hNW
  generalize hfr : first * 4 + en = fr at *
  generalize hk1 : m.safe.length = k1 at *
  generalize hk2 : m.l.length = k2 at *
  generalize hrl : recs.length = rl at *
  generalize hbl : b.length = bl at *
  generalize hn : CS.length = n at *
  have e1 : ((bl : Int) == 0) = false := by rw [beq_eq_false_iff_ne]; omega
  have e2 : ¬ (6000 : Int) < bl := by omega
  have e3 : ¬ (RMV : Int) < bl := by omega
  go_enter Try.func15, Try.ntmps15
  go_wp2_with fail
  refine HRM.out.mono ?_
  rintro e W1 ⟨rfl, HF1⟩
  obtain ⟨⟨x0, x1, x2, x3, x4, x5, x6⟩, f0, f1, f2, f3, f4, f5, f6⟩ := lg_cells HF1.out.a
  simp only at x0 x1 x2 x3 x4 x5 x6
  have HC1 := hide (HCUT.out W1 HF1.out.l)
  clear HRM HCUT
  go_wp2_with fail
  refine HC1.out.mono ?_
  rintro e W2 ⟨ca, cc, vs, rfl, HL, HVS, hb2⟩
  have HF2 := hide (HF1.out.below hb2.out)
  clear HC1 HF1 hb2 x0 x1 x2 x3 x4 x5 x6 f0 f1 f2 f3 f4 f5 f6 e1 e2 e3
  obtain ⟨⟨x0, x1, x2, x3, x4, x5, x6⟩, f0, f1, f2, f3, f4, f5, f6⟩ := lg_cells HF2.out.a
  obtain ⟨y0, y1, y2, y3, y4, g0, g1, g2, g3, g4⟩ := dk_cells HF2.out.b
  simp only at x0 x1 x2 x3 x4 x5 x6 y0 y1 y2 y3 y4
  have hal := below_alloc W2 (.cells #[] 9)
  have HN1 := hide (HNOW.out (W2.alloc (.cells #[] 9)) (HF2.out.l.trans (hal.mono HF2.out.l.size)))
  have z0 := (hal.cell (cell_lt y0)).trans y0
  have z1 := (hal.cell (cell_lt y1)).trans y1
  have z2 := (hal.cell (cell_lt y2)).trans y2
  have z3 := (hal.cell (cell_lt y3)).trans y3
  have z4 := (hal.cell (cell_lt y4)).trans y4
  clear HNOW
  go_wp2_with fail
  refine HN1.out.mono ?_
  rintro e W3 ⟨na, nc, rfl, HIW, hb3⟩
  clear HN1 z0 z1 z2 z3 z4
  have hown3 : W3.ownsRow W2.heap.size 9 1 (.slice (some ⟨W2.heap.size, 0, none⟩) 0 0) 0 (textsV []) := owns_below (own_none W2 W2.heap.size (Nat.le_refl _)) hb3.out
  obtain ⟨gb, cap1, W4, hrun, hown4, hb4⟩ : ∃ gb cap1 W4, (Builtin.append_ #[28, 28] 28 #[.slice (some ⟨W2.heap.size, 0, none⟩) 0 0, .slice na k1 nc]).run Try.prog W3 = .ok (.slice (some ⟨gb, 0, none⟩) k1 cap1) W4 ∧ W4.ownsRow W2.heap.size 9 1 (.slice (some ⟨gb, 0, none⟩) k1 cap1) k1 (textsV NW) ∧ Below W2.heap.size W2 W4 := by
    obtain ⟨v', w', q1, q2, q3⟩ := append_isW W3 W2.heap.size 0 _ (textsV []) (.slice na k1 nc) NW hown3 (by simp) HIW.out (by omega) (by omega) (hal.trans (hb3.out.mono hal.size)).size
    have q4 : w'.ownsRow W2.heap.size 9 1 v' NW.length (textsV NW) := by
      have h := q2
      rw [Nat.zero_add] at h
      exact h
    rw [hnl] at q4
    obtain ⟨g, cap, rfl, _⟩ := own_form q4 (not_nil q4 (by omega))
    exact ⟨g, cap, w', q1, q4, hal.trans ((hb3.out.mono hal.size).trans q3)⟩
  have HCELL : Hid (∀ i, i < n → ∃ c b o xa xn xc, ca = some ⟨b, o, none⟩ ∧ CS[i]? = some c ∧ mayC c ∧ ∀ x, Below W2.heap.size W2 x → (x.cell? ⟨b, o + i * 5, none⟩ = some (.int .u64 (c.ep : Int)) ∧ x.cell? ⟨b, o + i * 5 + 1, none⟩ = some (.int .u64 (c.li : Int)) ∧ x.cell? ⟨b, o + i * 5 + 2, none⟩ = some (.int .i64 c.part) ∧ x.cell? ⟨b, o + i * 5 + 3, none⟩ = some (.int .i64 c.of) ∧ x.cell? ⟨b, o + i * 5 + 4, none⟩ = some (.slice xa xn xc)) ∧ IsC x c (.slice xa xn xc)) := hide (fun i hi => by
    have hvl : vs.length = n := by have := congrArg List.length HVS.out; rw [List.length_map] at this; omega
    obtain ⟨b, o, q1, q2, q3⟩ := HL.out.at_ i (by omega)
    have q5 : CS[i]? = some (vs[i]'(by omega)).1 := by rw [← HVS.out, List.getElem?_map, List.getElem?_eq_getElem (by omega)]; rfl
    generalize vs[i]'(by omega) = y at q2 q3 q5
    obtain ⟨yc, yv⟩ := y
    obtain ⟨xa, xc, q4⟩ := q3.d.form
    simp only at q2 q3 q4 q5
    subst q4
    exact ⟨yc, b, o, xa, yc.data.length, xc, q1, q5, hmay _ (List.mem_of_getElem? q5), fun x hx => ⟨q2 x hx, q3.below hx⟩⟩)
  have HO4 : Hid (W4.ownsRow W2.heap.size 9 1 (.slice (some ⟨gb, 0, none⟩) k1 cap1) k1 (textsV (laidW NW fr (XS.take 0)))) := hide (by rw [List.take_zero, laid_zero]; exact hown4)
  have HB4 := hide hb4
  have HRUN := hide hrun
  clear hal hb3 hown3 hrun hown4 hb4 HIW HL HVS hmay y0 y1 y2 y3 y4 g0 g1 g2 g3 g4
  have u0 := (HB4.out.cell (cell_lt x0)).trans x0
  have u4 := (HB4.out.cell (cell_lt x4)).trans x4
  clear x0 x1 x2 x3 x4 x5 x6
  go_wp2_with (at_builtin; refine Lib.wpList_append_run _ rfl (.tmp 50) (.tmp 52) _ _ rfl _ _ rfl rfl _ _ HRUN.out ?_)
  clear HRUN u0 u4
  have hfr2 : (first : Int) * 4 + en = fr := by omega
  rw [hfr2]
  clear hfr2
  go_loopw [12] (fun vi wr => ∃ i : Nat, vi = .int .i64 (i : Int) ∧ i ≤ n ∧ Hid (wr.ownsRow W2.heap.size 9 1 (.slice (some ⟨gb, 0, none⟩) k1 cap1) k1 (textsV (laidW NW fr (XS.take i)))) ∧ Hid (Below W2.heap.size W2 wr)) (fun vi _ => n - (intOf vi).toNat)
  case atStart => exact ⟨0, rfl, Nat.zero_le _, HO4, HB4⟩
  case round =>
    obtain ⟨i, rfl, hi, HO, HB⟩ := hrel
    by_cases hlt : i < n
    · have hlt2 : (i : Int) < n := by omega
      obtain ⟨c, cb, co, xa, xn, xc, rfl, hcs, hm, hc⟩ := HCELL.out i hlt
      obtain ⟨⟨q0, q1, q2, q3, q4⟩, q5⟩ := hc wr HB.out
      have hxs := hsx i c hcs
      have HENC := hide (rencA c _ wr q5 hm)
      have HLS2 := hide (HLS.out i _ hxs)
      have hj : fr + i < k1 := by omega
      clear hc hcs hm q5 hxs
      go_wp2_with fail
      refine HENC.out.mono ?_
      rintro e w1 ⟨ea, ek, rfl, hcv, hbe⟩
      have HO2 := owns_below HO.out hbe.out
      have HB2 := HB.out.trans (hbe.out.mono HB.out.size)
      obtain ⟨⟨old, hold⟩, hfz, HO3, HB3⟩ := row_store HO2 HB2 (by rw [laidW_len _ _ _ (by rw [List.length_take]; omega)]; omega) (fr + i) hj (encC c)
      rw [← HLS2.out] at HO3
      have HO5 := hide HO3
      have HB5 := hide HB3
      have hj2 : (fr : Int) + i < k1 := by omega
      clear HO2 HB2 HO3 HB3 HENC HLS2 hbe q0 q1 q2 q3 q4
      go_wp2
      go_roundw
      case rel => exact ⟨i + 1, by go_num, by omega, HO5, HB5⟩
      case measure => simp [intOf]; omega
    · have hlt2 : ¬ (i : Int) < n := by omega
      obtain rfl : i = n := by omega
      have hO := HO.out
      rw [show XS.take i = XS from by rw [← hsec, List.take_length]] at hO
      have FB := HF2.out.below HB.out
      have hSl : (laidW NW fr XS).length = k1 := by rw [laidW_len _ _ _ hin]; exact hnl
      have hS64 : ∀ x ∈ laidW NW fr XS, x.length = 64 := hS64'
      have HROW : Hid (∀ x : World, x.heap[gb]? = wr.heap[gb]? → ∀ k s, (laidW NW fr XS)[k]? = some s → x.cell? ⟨gb, k, none⟩ = some (.string ⟨s.toArray⟩)) := hide (fun x hx k s hs => by
        have := (owns_rowT hO).1 k s hs
        rw [Nat.zero_add] at this
        exact (cell_blk hx k).trans this)
      have hgb := hO.lt gb rfl
      have hgs := HF2.out.s
      have hfk : fr + i ≤ k1 := by omega
      have HFN := hide (HFIN.out _ rfl)
      clear HFIN HCELL HLS HO4 HB4 hO HO HB hsx HF2 hnl f0 f1 f2 f3 f4 f5 f6
      rw [hsec] at HFN
      generalize laidW NW fr XS = S at *
      generalize hY : wr.heap[gb]? = YB at *
      have HFB := hide FB
      have hq1 : ((fr : Int) + i - 1) / 4 = (((fr + i - 1) / 4 : Nat) : Int) := by omega
      have hq2 : (fr : Int) / 4 = ((fr / 4 : Nat) : Int) := by omega
      have hcnt : (fr + i - 1) / 4 + 1 - fr / 4 + fr / 4 = (fr + i - 1) / 4 + 1 := by omega
      have hnb9 : (((fr / 4 : Nat)) : Int) ≤ 100000 ∧ (((fr + i - 1) / 4 : Nat) : Int) ≤ 100000 := by omega
      have hct9 : (fr + i - 1) / 4 + 1 - fr / 4 ≤ 100 := by omega
      have hqk : ((fr + i - 1) / 4 + 1) * 4 ≤ k1 := by have := hok.four; omega
      generalize (fr + i - 1) / 4 = qq at *
      generalize fr / 4 = nb at *
      generalize hct : qq + 1 - nb = cnt at *
      have HST : Hid (writesW S m cnt nb = writesW S m (cnt - 0) (nb + 0)) := hide rfl
      have HDM : Hid (OkD m ∧ m.safe.length = k1 ∧ m.l.length ≤ 90000 + 4 * 0 ∧ 0 ≤ m.left ∧ m.left ≤ 9223372036854775807) := hide ⟨hok, hk1, by rw [hk2]; omega, hleft.1, hleft.2⟩
      have HFB' : Hid (FourB P w ⟨⟨first, size, ep, li, en, recs, false⟩, .slice ra rl rc⟩ ⟨m, .slice sa k1 sc, .slice la k2 lc⟩ wr) := HFB
      have hcs2 : nb + cnt = qq + 1 := by omega
      have HYS : Hid (wr.heap[gb]? = YB ∧ gb < wr.heap.size) := hide ⟨hY, hgb.2⟩
      clear hS64' hcnt HFB FB hk1 hk2 hll hll' hleft hok hct hY
      generalize wr = Y at *
      have hgbn : w.heap.size + 4 ≤ gb := by omega
      clear hgb hgs
      go_wp2
      go_loopw [16] (fun vn wr => ∃ (j : Nat) (mj : DM) (s1 : Option Addr) (s2 s3 : Nat) (l1 : Option Addr) (l2 l3 : Nat), vn = .int .i64 ((nb : Int) + j) ∧ j ≤ cnt ∧ Hid (FourB P w ⟨⟨first, size, ep, li, en, recs, false⟩, .slice ra rl rc⟩ ⟨mj, .slice s1 s2 s3, .slice l1 l2 l3⟩ wr) ∧ Hid (wr.heap[gb]? = YB ∧ gb < wr.heap.size) ∧ Hid (writesW S m cnt nb = writesW S mj (cnt - j) (nb + j)) ∧ Hid (OkD mj ∧ mj.safe.length = k1 ∧ mj.l.length ≤ 90000 + 4 * j ∧ 0 ≤ mj.left ∧ mj.left ≤ 9223372036854775807)) (fun vn _ => nb + cnt - (intOf vn).toNat)
      case atStart => exact ⟨0, m, sa, k1, sc, la, k2, lc, by go_num, Nat.zero_le _, HFB', HYS, HST, HDM⟩
      case round =>
        obtain ⟨j, mj, s1, s2, s3, l1, l2, l3, rfl, hj, HFJ, HYJ, HSJ, HDJ⟩ := hrel
        generalize wr = V at *
        by_cases hjc : j < cnt
        · have hjq : ((nb : Int) + j) ≤ qq := by omega
          obtain ⟨nn, hnn⟩ : ∃ nn, nn = nb + j := ⟨_, rfl⟩
          have hnn2 : (nb : Int) + j = (nn : Int) := by omega
          have hn4 : nn * 4 + 4 ≤ S.length := by omega
          obtain ⟨kk, hkk⟩ : ∃ kk, cnt - j = kk + 1 := ⟨cnt - j - 1, by omega⟩
          have hb256 := blkW_len (n := nn) hS64 hn4
          have HSJ2 : Hid (writesW S m cnt nb = if (writeD mj (nn : Int) (blkW S nn)).2 = 0 then writesW S (writeD mj (nn : Int) (blkW S nn)).1 (cnt - (j + 1)) (nb + (j + 1)) else writeD mj (nn : Int) (blkW S nn)) := hide (by
            rw [HSJ.out, hkk, writes_succ, ← hnn, show cnt - (j + 1) = kk by omega, show nb + (j + 1) = nn + 1 by omega])
          have HWR : Hid (∀ x u, Below V.heap.size V x → IsY x u (blkW S nn) → Calls Try.prog 34 #[dkA ⟨mj, .slice s1 s2 s3, .slice l1 l2 l3⟩, .int .i64 (nn : Int), u] x fun e w' => ∃ p1 p2 p3 r1 r2 r3, ∃ m' : DM, ∃ E : Int, e = .returned (.tuple #[dkA ⟨m', .slice p1 p2 p3, .slice r1 r2 r3⟩, .int .i64 E]) ∧ Hid (m' = (writeD mj (nn : Int) (blkW S nn)).1 ∧ E = (writeD mj (nn : Int) (blkW S nn)).2) ∧ Hid (FourB P w ⟨⟨first, size, ep, li, en, recs, false⟩, .slice ra rl rc⟩ ⟨mj, .slice s1 s2 s3, .slice l1 l2 l3⟩ w') ∧ Hid (FourB P w ⟨⟨first, size, ep, li, en, recs, false⟩, .slice ra rl rc⟩ ⟨m', .slice p1 p2 p3, .slice r1 r2 r3⟩ (((((w'.setCell ⟨w.heap.size + 1, 0, none⟩ (.slice p1 p2 p3)).setCell ⟨w.heap.size + 1, 1, none⟩ (.slice r1 r2 r3)).setCell ⟨w.heap.size + 1, 2, none⟩ (.int .i64 m'.left)).setCell ⟨w.heap.size + 1, 3, none⟩ (.bool m'.fuse)).setCell ⟨w.heap.size + 1, 4, none⟩ (.bool m'.off)) ∧ (((((w'.setCell ⟨w.heap.size + 1, 0, none⟩ (.slice p1 p2 p3)).setCell ⟨w.heap.size + 1, 1, none⟩ (.slice r1 r2 r3)).setCell ⟨w.heap.size + 1, 2, none⟩ (.int .i64 m'.left)).setCell ⟨w.heap.size + 1, 3, none⟩ (.bool m'.fuse)).setCell ⟨w.heap.size + 1, 4, none⟩ (.bool m'.off)).heap[gb]? = YB ∧ gb < (((((w'.setCell ⟨w.heap.size + 1, 0, none⟩ (.slice p1 p2 p3)).setCell ⟨w.heap.size + 1, 1, none⟩ (.slice r1 r2 r3)).setCell ⟨w.heap.size + 1, 2, none⟩ (.int .i64 m'.left)).setCell ⟨w.heap.size + 1, 3, none⟩ (.bool m'.fuse)).setCell ⟨w.heap.size + 1, 4, none⟩ (.bool m'.off)).heap.size)) := hide (fun x u hx hu => by
            have FX := HFJ.out.below hx
            obtain ⟨o1, o2, o3, o4⟩ := HDJ.out
            refine (rwrite_any ⟨mj, .slice s1 s2 s3, .slice l1 l2 l3⟩ (nn : Int) u (blkW S nn) x FX.i hu o1 (by show mj.safe.length ≤ _; omega) (by show mj.l.length ≤ _; omega) (by omega) ⟨by show _ < mj.left; omega, o4.2⟩).mono ?_
            rintro e w' ⟨d', rfl, q1, q2, q3⟩
            obtain ⟨p1, p3, q4⟩ := q2.s.form
            obtain ⟨r1, r3, q5⟩ := q2.l.form
            obtain ⟨m', sv, lv⟩ := d'
            simp only at q1 q4 q5
            subst q4 q5
            have F2 := FX.below q3
            have hyx : w'.heap[gb]? = YB := ((hx.trans (q3.mono hx.size)).block gb HYJ.out.2).trans HYJ.out.1
            have ho := set5_other w' (w.heap.size + 1) (.slice p1 m'.safe.length p3) (.slice r1 m'.l.length r3) (.int .i64 m'.left) (.bool m'.fuse) (.bool m'.off) gb (by omega)
            have hz := set5_size w' (w.heap.size + 1) (.slice p1 m'.safe.length p3) (.slice r1 m'.l.length r3) (.int .i64 m'.left) (.bool m'.fuse) (.bool m'.off)
            refine ⟨p1, _, p3, r1, _, r3, m', _, rfl, hide ⟨q1, rfl⟩, hide F2, hide ⟨F2.putD q2, ho.trans hyx, ?_⟩⟩
            have := HYJ.out.2
            have h1 := hx.size
            have h2 := q3.size
            show gb < (set5 w' (w.heap.size + 1) (.slice p1 m'.safe.length p3) (.slice r1 m'.l.length r3) (.int .i64 m'.left) (.bool m'.fuse) (.bool m'.off)).heap.size
            omega)
          have HO := hide (own_bytes V V.heap.size (Nat.le_refl _))
          have BA := hide (below_alloc V (.cells #[] 5))
          have hFL : ((S.drop (nn * 4)).take 4).flatten = blkW S nn := rfl
          have HFL := hide hFL
          generalize blkW S nn = FL at *
          rw [hnn2] at hjq ⊢
          have HNN := hide hnn
          clear hFL hcs2 hj HFB' HYS HSJ hnn hnn2 hkk
          go_wp2
          have HJC := hide hjc
          have HCT : Hid (cnt ≤ 100) := hide hct9
          have hn99 : (nn : Int) ≤ 100000 := by omega
          have hSk : S.length = k1 := hSl
          clear hq1 hq2 hnb9 hct9 hqk hin hfit hfr r2 r3 hxl hrl hrn hbl hjq hjc hSl w1 w2 r1 hgbn
          go_loopw [17, 18] (fun vo vi wr => ∃ (i2 : Nat) (a : Option Addr) (c : Nat), vi = .int .i64 (i2 : Int) ∧ i2 ≤ 4 ∧ vo = .slice a ((S.drop (nn * 4)).take i2).flatten.length c ∧ Hid (wr.ownsRow V.heap.size 5 1 (.slice a ((S.drop (nn * 4)).take i2).flatten.length c) ((S.drop (nn * 4)).take i2).flatten.length (bytesV ((S.drop (nn * 4)).take i2).flatten)) ∧ Hid (Below V.heap.size V wr)) (fun _ vi _ => 4 - (intOf vi).toNat)
          case atStart => exact ⟨0, some ⟨V.heap.size, 0, none⟩, 0, rfl, Nat.zero_le _, rfl, HO, BA⟩
          case round =>
            clear HO BA
            obtain ⟨i2, a, c, rfl, hi2, rfl, HO, HB⟩ := hrel
            by_cases hlt : i2 < 4
            · have hlt2 : (i2 : Int) < 4 := by omega
              have hki : nn * 4 + i2 < S.length := by omega
              have hc := HROW.out wr ((HB.out.block gb HYJ.out.2).trans HYJ.out.1) (nn * 4 + i2) S[nn * 4 + i2] (List.getElem?_eq_getElem hki)
              have hli := read_64 hS64 (nn * 4) i2
              have hx := hS64 S[nn * 4 + i2] (List.getElem_mem hki)
              obtain ⟨a', c', w', hr, ho, hb⟩ := append_bytes wr V.heap.size _ ((S.drop (nn * 4)).take i2).flatten S[nn * 4 + i2] HO.out (by omega) (by omega) HB.out.size
              rw [← read_take S (nn * 4) i2 hki] at hr ho
              have HO2 := hide ho
              have HB2 := hide (HB.out.trans hb)
              have HRR := hide hr
              have hkx : (nn : Int) * 4 + (i2 : Int) = ((nn * 4 + i2 : Nat) : Int) := by omega
              have hw1 : wrap64 ((nn : Int) * 4) = (nn : Int) * 4 := by unfold wrap64; omega
              have HI4 : Hid (i2 + 1 ≤ 4) := hide hlt
              have hwi : wrap64 ((i2 : Int) + 1) = (i2 : Int) + 1 := by unfold wrap64; omega
              clear ho hb hli hx HO hr HB
              generalize (⟨S[nn * 4 + i2].toArray⟩ : ByteArray) = X at *
              generalize hL1 : ((S.drop (nn * 4)).take i2).flatten.length = L1 at *
              generalize hL2 : ((S.drop (nn * 4)).take (i2 + 1)).flatten.length = L2 at *
              generalize nn * 4 + i2 = k9 at *
              have hkl2 : (k9 : Int) < k1 := by omega
              have hw2 : wrap64 (k9 : Int) = k9 := by unfold wrap64; omega
              clear hL1
              go_wp2_with (first | (at_builtin; refine Lib.wpList_append_run _ rfl (.tmp 98) (.tmp 105) _ _ rfl (.slice a L1 c) (.string X) rfl rfl _ _ HRR.out ?_) | fail)
              go_roundw
              case rel => exact ⟨i2 + 1, a', c', (by first | exact succI i2 | (rw [hwi]; exact succI i2)), HI4.out, by rw [hL2], by rw [hL2]; exact HO2, HB2⟩
              case measure =>
                have h4 := HI4.out
                first | exact meas4 i2 h4 | (rw [hwi]; exact meas4 i2 h4)
            · have hlt2 : ¬ (i2 : Int) < 4 := by omega
              obtain rfl : i2 = 4 := by omega
              have ho := HO.out
              rw [HFL.out] at ho
              rw [HFL.out]
              have HW2 := hide (HWR.out wr _ HB.out (owns_isY ho))
              have FV := HFJ.out.below HB.out
              obtain ⟨y0, y1, y2, y3, y4, g0, g1, g2, g3, g4⟩ := dk_cells FV.b
              simp only at y0 y1 y2 y3 y4
              clear ho HO HWR FV HFJ HFL HROW HB
              clear hSk
              generalize FL.length = fl at *
              subst hb256
              go_wp2_with fail
              refine HW2.out.mono ?_
              rintro e W9 ⟨p1, p2, p3, r1, r2, r3, m', E, rfl, HM, HA9, HB9⟩
              clear HW2 y0 y1 y2 y3 y4 g0 g1 g2 g3 g4
              obtain ⟨y0, y1, y2, y3, y4, g0, g1, g2, g3, g4⟩ := dk_cells HA9.out.b
              simp only at y0 y1 y2 y3 y4
              obtain ⟨hm1, hm2⟩ := HM.out
              by_cases hE : E = 0
              · have HSJ3 : Hid (writesW S m cnt nb = writesW S m' (cnt - (j + 1)) (nb + (j + 1))) := hide (by rw [HSJ2.out, if_pos (by rw [← hm2]; exact hE), hm1])
                have HDJ3 : Hid (OkD m' ∧ m'.safe.length = k1 ∧ m'.l.length ≤ 90000 + 4 * (j + 1) ∧ 0 ≤ m'.left ∧ m'.left ≤ 9223372036854775807) := hide (by
                  obtain ⟨o1, o2, o3, o4⟩ := HDJ.out
                  have hj1 := HJC.out
                  have hj2 := HCT.out
                  have hF : Fit mj := ⟨o1, by omega, by omega, o4⟩
                  have hF2 := hF.write (by omega) (nn : Int) FL
                  have hz := write_size mj (nn : Int) FL
                  rw [hm1]
                  exact ⟨hF2.ok, by rw [hz.1]; exact o2, by omega, hF2.left⟩)
                have HFJ3 := hide HB9.out.1
                have HYJ3 := hide HB9.out.2
                have hj3 : j + 1 ≤ cnt := HJC.out
                have hnn3 : (nn : Int) + 1 = (nb : Int) + ((j + 1 : Nat) : Int) := by have := HNN.out; omega
                have HN3 := hide hnn3
                subst hE
                clear hm1 hm2 HM HA9 HB9 HSJ2 HDJ HYJ HJC HCT hnn3
                go_wp2
                go_roundw
                case rel => exact ⟨j + 1, m', p1, p2, p3, r1, r2, r3, congrArg (Value.int IntKind.i64) (by have := HN3.out; omega), hj3, HFJ3, HYJ3, HSJ3, HDJ3⟩
                case measure =>
                  have h1 := HNN.out
                  simp [intOf]
                  omega
              · have hRR : RR = (⟨first, size, ep, li, en, recs, true⟩, m', E) := by
                  have hwr : writesW S m cnt nb = writeD mj (nn : Int) FL := by rw [HSJ2.out, if_neg (by rw [← hm2]; exact hE)]
                  rw [HFN.out, hwr, if_neg (by rw [← hm2]; exact hE), ← hm1, ← hm2]
                subst hRR
                obtain ⟨⟨x0, x1, x2, x3, x4, x5, x6⟩, f0, f1, f2, f3, f4, f5, f6⟩ := lg_cells HA9.out.a
                simp only at x0 x1 x2 x3 x4 x5 x6
                have hne : (E != 0) = true := by simpa using hE
                clear hm1 hm2 HM HA9 HSJ2 HDJ HYJ HJC HCT HNN HFN HDM HST
                go_wp2
                clear hne hE
                have FB := HB9.out.1.brk
                generalize ((((((W9.setCell ⟨w.heap.size + 1, 0, none⟩ (.slice p1 p2 p3)).setCell ⟨w.heap.size + 1, 1, none⟩ (.slice r1 r2 r3)).setCell ⟨w.heap.size + 1, 2, none⟩ (.int .i64 m'.left)).setCell ⟨w.heap.size + 1, 3, none⟩ (.bool m'.fuse)).setCell ⟨w.heap.size + 1, 4, none⟩ (.bool m'.off)).setCell ⟨w.heap.size, 6, none⟩ (.bool true)) = W at FB ⊢
                clear x0 x1 x2 x3 x4 x5 x6 f0 f1 f2 f3 f4 f5 f6 y0 y1 y2 y3 y4 g0 g1 g2 g3 g4 HB9
                obtain ⟨⟨x0, x1, x2, x3, x4, x5, x6⟩, f0, f1, f2, f3, f4, f5, f6⟩ := lg_cells FB.a
                obtain ⟨y0, y1, y2, y3, y4, g0, g1, g2, g3, g4⟩ := dk_cells FB.b
                obtain ⟨⟨t0, t1, t2, t3, t4, t5, t6⟩, q0, q1, q2, q3, q4, q5, q6⟩ := lg_cells FB.c
                obtain ⟨v0, v1, v2, v3, v4, z0, z1, z2, z3, z4⟩ := dk_cells FB.e
                have HFE := hide (FB.done E)
                clear FB
                simp only at x0 x1 x2 x3 x4 x5 x6 y0 y1 y2 y3 y4 HFE
                go_region
                go_wp2
                refine bodyPost_ret (v := .tuple #[lgA ⟨⟨first, size, ep, li, en, recs, true⟩, .slice ra rl rc⟩, dkA ⟨m', .slice p1 p2 p3, .slice r1 r2 r3⟩, .int .i64 E]) ?_ rfl ?_
                · simp [results, Try.results15, go_sem, t0, t1, t2, t3, t4, t5, t6, v0, v1, v2, v3, v4]
                · exact (HFE.out _ _ _ _ _ _ _ _ _ _ _ _).1.drew
        · have hjq : ¬ ((nb : Int) + j) ≤ qq := by omega
          obtain rfl : j = cnt := by omega
          have hwr : writesW S m j nb = (mj, 0) := by rw [HSJ.out, Nat.sub_self]; rfl
          have hRR : RR = (⟨first, size, ep, li, en + i, recs ++ [b], false⟩, mj, 0) := by
            rw [HFN.out, hwr, if_pos rfl]
          obtain ⟨a1, c1, W1, a2, c2, W2, a3, c3, W3, k1r, k2r, k3r, F3, h4, F4⟩ := four_append HFJ.out HG.out (b := b) (by rw [hbl]; exact HYB.out) (by omega) (by show recs.length ≤ _; omega) (en + i)
          simp only [hrl, hbl] at k1r k2r k3r h4 F4
          have hci : ((en + i : Nat) : Int) = (en : Int) + i := by omega
          rw [hci] at F4
          have hen : (en : Int) + i ≤ 1000000 := by omega
          obtain ⟨⟨x0, x1, x2, x3, x4, x5, x6⟩, f0, f1, f2, f3, f4, f5, f6⟩ := lg_cells HFJ.out.a
          simp only at x0 x1 x2 x3 x4 x5 x6
          have u5 := ((below_alloc V (.cells #[] 43)).cell (cell_lt x5)).trans x5
          obtain ⟨⟨y0, y1, y2, y3, y4, y5, y6⟩, g0, g1, g2, g3, g4, g5, g6⟩ := lg_cells F3.a
          simp only at y0 y1 y2 y3 y4 y5 y6
          have h44 := h4 (.slice a3 (rl + 1) c3)
          have HK1 := hide k1r
          have HK2 := hide k2r
          have HK3 := hide k3r
          have HF4 := hide F4
          subst hRR
          clear k1r k2r k3r F3 h4 F4 hwr hci HSJ HDJ HYJ HFJ HFN HDM HST HROW HG HYB hrl hbl hcs2 HYS HFB' hfr hin hfit hqk hct9 hnb9 hSl hS64 r2 r3 hxl x0 x1 x2 x3 x4 x6 f0 f1 f2 f3 f4 f5 f6 y0 y1 y2 y3 y6 g0 g1 g2 g3 g6
          go_wp2_with (first | (at_builtin; refine Lib.wpList_append_run _ rfl (.tmp 120) (.tmp 122) _ _ rfl _ _ rfl rfl _ _ HK1.out ?_) | (at_builtin; refine Lib.wpList_append_run _ rfl (.tmp 124) (.tmp 125) _ _ rfl _ _ rfl rfl _ _ HK2.out ?_) | (at_builtin; refine Lib.wpList_append_run _ rfl (.tmp 123) (.tmp 127) _ _ rfl _ _ rfl rfl _ _ HK3.out ?_) | fail)
          have FB := HF4.out
          generalize ((W3.setCell ⟨w.heap.size, 5, none⟩ (.slice a3 (rl + 1) c3)).setCell ⟨w.heap.size, 4, none⟩ (.int .i64 ((en : Int) + i))) = W at FB ⊢
          clear x5 u5 y4 y5 g4 g5 HF4 h44 HK1 HK2 HK3 hq1 hq2 hjq hen hjc
          obtain ⟨⟨x0, x1, x2, x3, x4, x5, x6⟩, f0, f1, f2, f3, f4, f5, f6⟩ := lg_cells FB.a
          obtain ⟨y0, y1, y2, y3, y4, g0, g1, g2, g3, g4⟩ := dk_cells FB.b
          obtain ⟨⟨t0, t1, t2, t3, t4, t5, t6⟩, q0, q1, q2, q3, q4, q5, q6⟩ := lg_cells FB.c
          obtain ⟨v0, v1, v2, v3, v4, z0, z1, z2, z3, z4⟩ := dk_cells FB.e
          have HFE := hide (FB.done 0)
          clear FB
          simp only at x0 x1 x2 x3 x4 x5 x6 y0 y1 y2 y3 y4 HFE
          generalize hen2 : ((en + i : Nat) : Int) = en2 at x4
          go_region
          go_wp2
          refine bodyPost_ret (v := .tuple #[lgA ⟨⟨first, size, ep, li, en + i, recs ++ [b], false⟩, .slice a3 (rl + 1) c3⟩, dkA ⟨mj, .slice s1 s2 s3, .slice l1 l2 l3⟩, .int .i64 0]) ?_ rfl ?_
          · simp [results, Try.results15, go_sem, t0, t1, t2, t3, t4, t5, t6, v0, v1, v2, v3, v4, ← hen2]
          · exact (HFE.out _ _ _ _ _ _ _ _ _ _ _ _).1.drew
end Go.Proofs.Ythpepkfodcgbcaa
