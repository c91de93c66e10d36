import Derived.Test.YthpepkfodcgbcaaWq28
import Derived.Test.YthpepkfodcgbcaaWq29
/- What the program's Append answers. -/
set_option linter.unusedVariables false
set_option linter.unusedSimpArgs false
set_option maxRecDepth 40000
namespace Go.Proofs.Ythpepkfodcgbcaa
open Go.RowKit

theorem DL.belowP {A : Nat → Prop} {w x : World} {dv lv : Value} {d : DM} {m : LM} (h : DL A w dv lv d m) (hb : Below w.heap.size w x) : DL A x dv lv d m := by
  obtain ⟨B, C, hK, hL, h1, h2⟩ := h
  exact ⟨B, C, hK.below hb, hL.keep fun k hk => hb.block k (hL.lt k hk), h1, h2⟩
theorem isY_lt {w : World} {v : Value} {l : Bs} (h : IsY w v l) (hl : l ≠ []) : ∀ k, v.ownBlock = some k → k < w.heap.size := by
  rcases h with ⟨e, _⟩ | ⟨g, o, cap, rfl, _, hh⟩
  · exact absurd e hl
  · intro k hk
    cases hk
    exact cell_lt (hh 0 (List.length_pos_iff.2 hl))
def TakeX (A : Nat → Prop) (w : World) (dv lv : Value) (R : LM × DM × Int) (e : Ending) (x4 : World) : Prop := e = .returned (.tuple #[]) ∧ Hid (PActR A w dv lv R.1 R.2.1 R.2.2 (.returned (.int .i64 0)) x4)
def WriteX (A : Nat → Prop) (w : World) (a : Nat) (dv bv : Value) (n : Nat) (R : LM × DM × Int) (e : Ending) (x3 : World) : Prop := ∃ E : Int, e = .returned (.int .i64 E) ∧ ((E = 0 ∧ Hid (Calls Try.prog 47 #[.pointer (some ⟨a, 0, none⟩), bv, .int .i64 (n : Int)] x3 (TakeX A w dv (.pointer (some ⟨a, 0, none⟩)) R))) ∨
  ((E == 0) = false ∧ (∃ old, x3.cell? ⟨a, 8, none⟩ = some old) ∧ x3.frozen? ⟨a, 8, none⟩ = false ∧ Hid (PActR A w dv (.pointer (some ⟨a, 0, none⟩)) R.1 R.2.1 R.2.2 (.returned (.int .i64 E)) (x3.setCell ⟨a, 8, none⟩ (.bool true)))))
def CutX (A : Nat → Prop) (w : World) (a ep li : Nat) (dv bv : Value) (n : Nat) (R : LM × DM × Int) (e : Ending) (x2 : World) : Prop := ∃ ca cc, e = .returned (.slice ca n cc) ∧ (x2.cell? ⟨a, 3, none⟩ = some (.int .u64 (ep : Int)) ∧ x2.cell? ⟨a, 4, none⟩ = some (.int .u64 (li : Int))) ∧ Hid (Calls Try.prog 46 #[.pointer (some ⟨a, 0, none⟩), .slice ca n cc] x2 (WriteX A w a dv bv n R))
theorem append_main {B : Nat → Prop} {w : World} {a : Nat} {dp : Addr} {tv ev : Value} {d : DM} {m : LM} {A : Nat → Prop} (hK : IsK B w (.pointer (some dp)) d) (hL : IsLP w a (.pointer (some dp)) tv ev m) (hCB : ∀ k, lpA a tv ev k → ¬ B k) (hA : ∀ k, A k ↔ (B k ∨ lpA a tv ev k)) (hF : Fit d) (hll : d.l.length ≤ 90000) (hs : d.safe.length ≤ 800) (hfit : (m.first + m.size) * 4 ≤ d.safe.length) (hO : OkG m)
    {bv : Value} {b : Bs} (hY : IsY w bv b) (ho : b ≠ [] → Off A bv) (hb0 : b ≠ []) (hb1 : b.length ≤ 6000) (hend : m.end_ + (secsC b m.ep m.li).length ≤ m.size * 4) (hap : appendW m d b = (if (putW m d b).2 = 0 then { m with recs := m.recs ++ [b], end_ := m.end_ + (secsC b m.ep m.li).length } else { m with broken := true }, (putW m d b).1, (putW m d b).2)) {x1 : World} (hx : Below w.heap.size w x1) :
    Calls Try.prog 45 #[bv, .int .u64 (m.ep : Int), .int .u64 (m.li : Int)] x1.drew (CutX A w a m.ep m.li (.pointer (some dp)) bv (cutC b m.ep m.li).length (appendW m d b)) := by
  have hxd : Below w.heap.size w x1.drew := hx.drew
  have hc := pcut_cap bv b m.ep m.li x1.drew (hY.below hxd) (by omega) hO.ep hO.li
  refine hc.mono ?_
  rintro e x2 ⟨v, vs, rfl, hI, hcap, hmap, hbx, hkp⟩
  have hb2 : Below w.heap.size w x2 := hxd.trans (hbx.mono hxd.size)
  obtain ⟨ca, cc, rfl⟩ := hI.form
  have hvl : vs.length = (cutC b m.ep m.li).length := by rw [← hmap, List.length_map]
  have hsl : (secsC b m.ep m.li).length = (cutC b m.ep m.li).length := by rw [secsC, List.length_map]
  have hcl : (cutC b m.ep m.li).length = (b.length + 38) / 39 := cutC_len _ _ (by omega)
  have hbp : 0 < b.length := List.length_pos_iff.2 hb0
  have hL2 := hL.below hb2
  obtain ⟨y0, y1, _, y3, y4, y5, _⟩ := lp_cells hL2.box
  have hxs : (vs.map fun y => encC y.1) = secsC b m.ep m.li := by
    rw [secsC, ← hmap, List.map_map]
    rfl
  have hBw : ∀ k, B k → k < w.heap.size := hK.lt
  have hfs : m.first ≤ 10000 := hO.first
  have hpw := pwrite_all B a dp d m.first m.end_ (.slice ca vs.length cc) vs x2 y0 y1 y5 (hCB a (.inl rfl)) (hK.below hb2) hF hll hI hcap (fun x hx3 => hkp x fun k hk1 hk2 => hx3.block k hk2 fun hB => by
    have := hBw k hB
    have := hxd.size
    omega) (fun y hy => by
    have hy2 : y.1 ∈ cutC b m.ep m.li := by rw [← hmap]; exact List.mem_map_of_mem hy
    exact (cut_may b _ _ _ hy2).1) (by rw [hvl, hcl]; omega) (by rw [hvl, ← hsl]; omega) (by rw [hvl, hcl]; omega) hfs (by omega)
  rw [hxs] at hpw
  have hput : writesW (laidW (nowD d) (m.first * 4 + m.end_) (secsC b m.ep m.li)) d ((m.first * 4 + m.end_ + (secsC b m.ep m.li).length - 1) / 4 + 1 - (m.first * 4 + m.end_) / 4) ((m.first * 4 + m.end_) / 4) = putW m d b := rfl
  rw [hput, hvl] at hpw
  refine ⟨ca, cc, by rw [hvl], ⟨y3, y4⟩, hide (hpw.mono ?_)⟩
  rintro e x3 ⟨rfl, B', q1, q2, q3⟩
  have hb3 : ButA B w x3 := (ButA.of hb2).trans q3 fun _ _ h => h
  have hg3 : Grew B B' w.heap.size := fun k hk => (q2 k hk).imp id fun h => Nat.le_trans hb2.size h
  have hL3 := hL.disk hCB hb3
  rw [hap]
  refine ⟨(putW m d b).2, rfl, ?_⟩
  by_cases he : (putW m d b).2 = 0
  · refine .inl ⟨he, hide ?_⟩
    have hY3 : IsY x3 bv b := isY_keepC hY fun k hk => hb3.block k (isY_lt hY hb0 k hk) fun hB => ho hb0 k hk ((hA k).2 (.inl hB))
    have ht := ptake_any a (.pointer (some dp)) tv ev bv m b (cutC b m.ep m.li).length x3 hL3 hY3 hb0 (by rw [hcl]; omega) (by rw [← hsl]; omega) (by rw [hcl]; omega)
    refine ht.mono ?_
    rintro e x4 ⟨rfl, tv', ev', t1, t2, t3⟩
    refine ⟨rfl, hide ⟨?_, ?_⟩⟩
    · show Ending.returned (.int .i64 0) = .returned (.int .i64 (putW m d b).2)
      rw [he]
    · rw [if_pos he, hsl]
      exact act_end hL hCB hA q1 hg3 hb3 t1 t3 t2
  · refine .inr ⟨beq_eq_false_iff_ne.2 he, ?_⟩
    obtain ⟨_, _, _, _, _, _, _, _, z8, zf⟩ := lp_cells hL3.box
    obtain ⟨p1, p2⟩ := hL3.setBroken true
    refine ⟨⟨_, z8⟩, zf 8, hide ⟨rfl, ?_⟩⟩
    rw [if_neg he]
    exact act_end hL hCB hA q1 hg3 hb3 p1 p2 (Grew.refl _ _)
set_option maxHeartbeats 16000000 in
theorem pappend_any (A : Nat → Prop) (dv lv : Value) (d : DM) (m : LM) (bv : Value) (b : Bs) (w : World) (h : DL A w dv lv d m) (hF : Fit d) (hll : d.l.length ≤ 90000) (hs : d.safe.length ≤ 800) (hfit : (m.first + m.size) * 4 ≤ d.safe.length) (hO : OkG m) (hr : m.recs.length ≤ 100000) (hY : IsY w bv b) (ho : b ≠ [] → Off A bv) (hb : b.length ≤ 1000000) :
    Calls Try.prog 14 #[lv, bv] w (PActR A w dv lv (appendW m d b).1 (appendW m d b).2.1 (appendW m d b).2.2) := by
  have HSAME : Hid (∀ x E, Below w.heap.size w x → PActR A w dv lv m d E (.returned (.int .i64 E)) x) := hide (fun x E hx => ⟨rfl, A, h.belowP hx, Grew.refl _ _, ButA.of hx⟩)
  have HRF := hide (Below.refl w.heap.size w)
  obtain ⟨B, C, hK, hLG, hCB, hA⟩ := h
  have HRM := hide (proom_any C dv lv m w hLG hO)
  obtain ⟨a, tv, ev, rfl, rfl, hL⟩ := hLG
  obtain ⟨x0, x1, x2, x3, x4, x5, x6, x7, x8, xf⟩ := lp_cells hL.box
  obtain ⟨dp, rfl⟩ := hL.dp
  have hyf := hY
  obtain ⟨ba, bc, rfl⟩ := hyf.form
  clear hyf x0 x1 x2 x5 x6 x7
  by_cases c1 : b.length = 0
  · have e : appendW m d b = (m, d, 1) := by unfold appendW whyW; rw [if_pos c1]; rfl
    rw [e]
    rw [c1]
    clear hK hCB hA hL hY ho HRM x3 x4 x8
    go_enter Try.func14, Try.ntmps14
    go_wp2
    go_ret
    exact HSAME.out _ _ HRF.out
  · have c1' : ((b.length : Int) == 0) = false := by rw [beq_eq_false_iff_ne]; omega
    by_cases c2 : 6000 < b.length
    · have e : appendW m d b = (m, d, 4) := by unfold appendW whyW; rw [if_neg c1, if_pos c2]; rfl
      rw [e]
      have c2' : (6000 : Int) < (b.length : Int) := by omega
      clear hK hCB hA hL hY ho HRM x3 x4 x8
      generalize b.length = bl at *
      go_enter Try.func14, Try.ntmps14
      go_wp2
      go_ret
      exact HSAME.out _ _ HRF.out
    · have c2' : ¬ (6000 : Int) < (b.length : Int) := by omega
      cases hbr : m.broken
      · rw [hbr] at x8
        by_cases c4 : roomW m < b.length
        · have hw : whyW m b = 3 := by unfold whyW; rw [if_neg c1, if_neg c2, hbr, if_neg (by simp), if_pos c4]
          have e : appendW m d b = (m, d, 3) := by unfold appendW; rw [hw]; rfl
          rw [e]
          have c4' : (roomW m : Int) < (b.length : Int) := by omega
          clear hK hCB hA hL hY ho x3 x4 hO hw e
          generalize b.length = bl at *
          generalize roomW m = R at *
          go_enter Try.func14, Try.ntmps14
          go_wp2_with fail
          refine HRM.out.mono ?_
          rintro e y1 ⟨rfl, hb1⟩
          have HF := hide (HSAME.out y1 3 hb1)
          clear HRM HSAME hb1
          go_wp2
          go_ret
          exact HF.out
        · have c4' : ¬ (roomW m : Int) < (b.length : Int) := by omega
          have hw : whyW m b = 0 := by unfold whyW; rw [if_neg c1, if_neg c2, hbr, if_neg (by simp), if_neg c4]
          have hap : appendW m d b = (if (putW m d b).2 = 0 then { m with recs := m.recs ++ [b], end_ := m.end_ + (secsC b m.ep m.li).length } else { m with broken := true }, (putW m d b).1, (putW m d b).2) := by unfold appendW; rw [if_pos hw]
          have hb0 : b ≠ [] := fun e => c1 (by rw [e]; rfl)
          obtain ⟨r1, r2, r3⟩ := room_fits hbr (by omega : b.length ≤ roomW m) (by omega) hO.le
          have HLB := hide (fun x (hx : Below w.heap.size w x) => lp_cells (hL.below hx).box)
          have HMAIN := hide (fun x (hx : Below w.heap.size w x) => append_main (x1 := x) hK hL hCB hA hF hll hs hfit hO hY ho hb0 (by omega) r2 hap hx)
          clear hK hCB hA hL hY ho x3 x4 hap hw r1 r2 r3 hfit hF hO hs hb0 hb hll HSAME c1 c2 c4
          generalize appendW m d b = RS at *
          generalize (cutC b m.ep m.li).length = n at *
          generalize b.length = bl at *
          generalize roomW m = R at *
          generalize hep : m.ep = ep at *
          generalize hli : m.li = li at *
          clear hep hli
          go_enter Try.func14, Try.ntmps14
          go_wp2_with fail
          refine HRM.out.mono ?_
          rintro e y1 ⟨rfl, hb1⟩
          obtain ⟨_, _, _, y3, y4, _, _, _, _, _⟩ := HLB.out y1 hb1
          have HCUT := hide (HMAIN.out y1 hb1)
          clear HRM HMAIN HLB hb1
          go_wp2_with fail
          refine wp_region_held_drew (S := fun W' => (fun W : World => W.cell? ⟨a, 3, none⟩ = some (.int .u64 (ep : Int)) ∧ W.cell? ⟨a, 4, none⟩ = some (.int .u64 (li : Int))) W') (by kernel_rfl) ⟨y3, y4⟩ (fun hHeld => ?_)
          refine wpAnyH_take (i := 0) (v := ?_) rfl (by kernel_rfl) (by kernel_rfl) (by kernel_rfl) (fun _ _ _ h => h) (Or.inl ⟨by kernel_rfl, ?_⟩) hHeld ?_
          rotate_left
          · intro W hSw
            clear hSw
            go_simp <;> with_reducible rfl
          simp only [Act.put, List.getElem_toArray, List.getElem_cons_zero, List.getElem_cons_succ, List.setIfInBounds_toArray, List.set_cons_zero, List.set_cons_succ]
          refine wpAnyH_take (i := 1) (v := ?_) rfl (by kernel_rfl) (by kernel_rfl) (by kernel_rfl) (fun _ _ _ h => h) (Or.inl ⟨by kernel_rfl, ?_⟩) hHeld ?_
          rotate_left
          · intro W hSw
            clear hSw
            go_simp <;> with_reducible rfl
          simp only [Act.put, List.getElem_toArray, List.getElem_cons_zero, List.getElem_cons_succ, List.setIfInBounds_toArray, List.set_cons_zero, List.set_cons_succ]
          refine wpAnyH_take (i := 2) (v := ?_) rfl (by kernel_rfl) (by kernel_rfl) (by kernel_rfl) (fun _ _ _ h => h) (Or.inl ⟨by kernel_rfl, ?_⟩) hHeld ?_
          rotate_left
          · intro W hSw
            clear hSw
            go_simp <;> with_reducible rfl
          simp only [Act.put, List.getElem_toArray, List.getElem_cons_zero, List.getElem_cons_succ, List.setIfInBounds_toArray, List.set_cons_zero, List.set_cons_succ]
          refine wpAnyH_take (i := 3) (v := ?_) rfl (by kernel_rfl) (by kernel_rfl) (by kernel_rfl) (fun _ _ _ h => h) (Or.inl ⟨by kernel_rfl, ?_⟩) hHeld ?_
          rotate_left
          · intro W hSw
            clear hSw
            go_simp <;> with_reducible rfl
          simp only [Act.put, List.getElem_toArray, List.getElem_cons_zero, List.getElem_cons_succ, List.setIfInBounds_toArray, List.set_cons_zero, List.set_cons_succ]
          refine wpAnyH_take (i := 4) (v := ?_) rfl (by kernel_rfl) (by kernel_rfl) (by kernel_rfl) (fun _ _ _ h => h) (Or.inl ⟨by kernel_rfl, ?_⟩) hHeld ?_
          rotate_left
          · intro W hSw
            have hc := hSw.1
            clear hSw
            go_simp <;> with_reducible rfl
          simp only [Act.put, List.getElem_toArray, List.getElem_cons_zero, List.getElem_cons_succ, List.setIfInBounds_toArray, List.set_cons_zero, List.set_cons_succ]
          refine wpAnyH_take (i := 5) (v := ?_) rfl (by kernel_rfl) (by kernel_rfl) (by kernel_rfl) (fun _ _ _ h => h) (Or.inl ⟨by kernel_rfl, ?_⟩) hHeld ?_
          rotate_left
          · intro W hSw
            clear hSw
            go_simp <;> with_reducible rfl
          simp only [Act.put, List.getElem_toArray, List.getElem_cons_zero, List.getElem_cons_succ, List.setIfInBounds_toArray, List.set_cons_zero, List.set_cons_succ]
          refine wpAnyH_take (i := 6) (v := ?_) rfl (by kernel_rfl) (by kernel_rfl) (by kernel_rfl) (fun _ _ _ h => h) (Or.inl ⟨by kernel_rfl, ?_⟩) hHeld ?_
          rotate_left
          · intro W hSw
            clear hSw
            go_simp <;> with_reducible rfl
          simp only [Act.put, List.getElem_toArray, List.getElem_cons_zero, List.getElem_cons_succ, List.setIfInBounds_toArray, List.set_cons_zero, List.set_cons_succ]
          refine wpAnyH_take (i := 7) (v := ?_) rfl (by kernel_rfl) (by kernel_rfl) (by kernel_rfl) (fun _ _ _ h => h) (Or.inl ⟨by kernel_rfl, ?_⟩) hHeld ?_
          rotate_left
          · intro W hSw
            clear hSw
            go_simp <;> with_reducible rfl
          simp only [Act.put, List.getElem_toArray, List.getElem_cons_zero, List.getElem_cons_succ, List.setIfInBounds_toArray, List.set_cons_zero, List.set_cons_succ]
          refine wpAnyH_take (i := 8) (v := ?_) rfl (by kernel_rfl) (by kernel_rfl) (by kernel_rfl) (fun _ _ _ h => h) (Or.inl ⟨by kernel_rfl, ?_⟩) hHeld ?_
          rotate_left
          · intro W hSw
            have hc := hSw.2
            clear hSw
            go_simp <;> with_reducible rfl
          simp only [Act.put, List.getElem_toArray, List.getElem_cons_zero, List.getElem_cons_succ, List.setIfInBounds_toArray, List.set_cons_zero, List.set_cons_succ]
          refine wpAnyH_ready (rs := [9]) (by kernel_rfl) (by simp) ?_
          refine AllReadyH.cons rfl (fun K hK => ?_) AllReadyH.nil
          go_simp
          refine HCUT.out.mono ?_
          rintro e x2 ⟨ca, cc, rfl, z34, HWR⟩
          refine hK.out _ _ ?_ (fun hHeld => ?_)
          · exact z34
          clear hK K
          try simp only [Act.put, List.getElem_toArray, List.getElem_cons_zero, List.getElem_cons_succ, List.setIfInBounds_toArray, List.set_cons_zero, List.set_cons_succ]
          refine wpAnyH_take (i := 10) (v := ?_) rfl (by kernel_rfl) (by kernel_rfl) (by kernel_rfl) (fun _ _ _ h => h) (Or.inl ⟨by kernel_rfl, ?_⟩) hHeld ?_
          rotate_left
          · intro W hSw
            clear hSw
            go_simp <;> with_reducible rfl
          simp only [Act.put, List.getElem_toArray, List.getElem_cons_zero, List.getElem_cons_succ, List.setIfInBounds_toArray, List.set_cons_zero, List.set_cons_succ]
          refine wpAnyH_done (by kernel_rfl) ?_ _
          clear HCUT z34 y3 y4
          go_wp2_with fail
          refine HWR.out.mono ?_
          rintro e x3 ⟨E, rfl, ⟨rfl, HT⟩ | ⟨he, ⟨old, hold⟩, hfro, HP⟩⟩
          · clear HWR
            go_wp2_with fail
            refine HT.out.mono ?_
            rintro e x4 ⟨rfl, HP⟩
            clear HT
            go_wp2
            go_ret
            exact HP.out
          · clear HWR
            go_wp2
            go_ret
            exact HP.out
      · have e : appendW m d b = (m, d, 9) := by unfold appendW whyW; rw [if_neg c1, if_neg c2, hbr]; rfl
        rw [e]
        rw [hbr] at x8
        clear hK hCB hA hL hY ho HRM x3 x4
        generalize b.length = bl at *
        go_enter Try.func14, Try.ntmps14
        go_wp2
        go_ret
        exact HSAME.out _ _ HRF.out
end Go.Proofs.Ythpepkfodcgbcaa
