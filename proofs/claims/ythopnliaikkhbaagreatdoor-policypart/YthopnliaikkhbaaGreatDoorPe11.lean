/- What the program's own tooMany, mayBe and Check answer; nothing that was there is written. -/
import Derived.Test.YthopnliaikkhbaaGreatDoorPd11
set_option linter.unusedVariables false
set_option linter.unusedSimpArgs false
set_option maxRecDepth 4000
namespace Go.Proofs.YthopnliaikkhbaaGreatDoor
open Go.RowKit

def longV (v : Value) : Bool := match v with
  | .slice _ n _ => decide (20 < n)
  | _ => false
theorem long_any (a : Option Addr) (n c : Nat) (w : World) :
    Calls Tryz.prog 40 #[.slice a n c] w fun e w' => e = .returned (.bool (longV (.slice a n c))) ∧ Below w.heap.size w w' := by
  unfold longV
  simp only []
  by_cases h : 20 < n
  · have hi : (20 : Int) < n := by omega
    rw [decide_eq_true h]
    clear h
    go_enter Tryz.func40, Tryz.ntmps40
    go_wp2
    go_ret
    exact ⟨rfl, Below.refl _ w⟩
  · have hi : ¬ (20 : Int) < n := by omega
    rw [decide_eq_false h]
    clear h
    go_enter Tryz.func40, Tryz.ntmps40
    go_wp2
    go_ret
    exact ⟨rfl, Below.refl _ w⟩
theorem long_form {w : World} {v : Value} {l : List Bs} (h : IsW w v l) : longV v = decide (20 < l.length) := by
  obtain ⟨a, c, rfl⟩ := h.form
  rfl
theorem lists_form {w : World} {p : PV} (hI : IsPo w p) : ∀ v ∈ listsV p, ∃ a n c, v = .slice a n c := by
  intro v hv
  unfold listsV at hv
  simp only [List.mem_cons, List.mem_map] at hv
  rcases hv with rfl | rfl | rfl | ⟨r, hr, rfl⟩
  · obtain ⟨a, c, h⟩ := hI.l.form; exact ⟨a, _, c, h⟩
  · obtain ⟨a, c, h⟩ := hI.s.form; exact ⟨a, _, c, h⟩
  · obtain ⟨a, c, h⟩ := hI.d.form; exact ⟨a, _, c, h⟩
  · obtain ⟨a, c, h⟩ := (hI.r.2 r hr).form; exact ⟨a, _, c, h⟩
theorem any_long {w : World} : ∀ (rs : List RV), (∀ r ∈ rs, IsW w r.av r.at_) → (rs.map fun r => r.av).any longV = (rs.map fun r => r.at_).any fun l => decide (20 < l.length)
  | [], _ => rfl
  | r :: rs, h => by
    simp only [List.map_cons, List.any_cons]
    rw [long_form (h r (by simp)), any_long rs fun x hx => h x (by simp [hx])]
theorem lists_long {w : World} {p : PV} (hI : IsPo w p) : (listsV p).any longV = (listsP p.po).any fun l => decide (20 < l.length) := by
  unfold listsV listsP PV.po
  simp only [List.any_cons]
  rw [long_form hI.l, long_form hI.s, long_form hI.d, any_long p.rs hI.r.2]
  simp only [List.map_map]
  rfl
theorem listsV_len (p : PV) : (listsV p).length = 3 + p.rs.length := by unfold listsV; simp; omega
theorem lists_at {w : World} {p : PV} (hI : IsPo w p) (hp : CapP p) (k : Nat) (v : Value) (h : (listsV p)[k]? = some v) : ∃ l, (listsP p.po)[k]? = some l ∧ IsW w v l ∧ (∀ a n c, v = .slice a n c → n ≤ c) ∧ l.length ≤ 1000 ∧ ∀ x ∈ l, x.length ≤ 1000000 := by
  unfold listsV at h
  unfold listsP PV.po
  match k, h with
  | 0, h => obtain rfl : p.lv = v := by simpa using h
            exact ⟨p.li, rfl, hI.l, hp.l, hp.s.l, hp.s.ll⟩
  | 1, h => obtain rfl : p.sv = v := by simpa using h
            exact ⟨p.sc, rfl, hI.s, hp.c, hp.s.s, hp.s.ls⟩
  | 2, h => obtain rfl : p.dv = v := by simpa using h
            exact ⟨p.dr, rfl, hI.d, hp.d, hp.s.d, hp.s.ld⟩
  | k + 3, h =>
    have h2 : (p.rs.map fun r => r.av)[k]? = some v := by simpa using h
    rw [List.getElem?_map] at h2
    cases hr : p.rs[k]? with
    | none => rw [hr] at h2; cases h2
    | some r =>
      rw [hr] at h2
      obtain rfl : r.av = v := by simpa using h2
      have hm := List.mem_of_getElem? hr
      refine ⟨r.at_, ?_, hI.r.2 r hm, hp.a r hm, (hp.s.a r hm).1, (hp.s.a r hm).2.2⟩
      show ((p.rs.map RV.ru).map fun r => r.at_)[k]? = some r.at_
      rw [List.map_map, List.getElem?_map, hr]
      rfl
set_option maxHeartbeats 1000000 in
theorem tooMany_any (p : PV) (hp : CapP p) (w : World) (hI : IsPo w p) :
    Calls Tryz.prog 24 #[poA p] w fun e w' => e = .returned (.bool (tooP p.po)) ∧ Below w.heap.size w w' := by
  have hmf : ∀ (fn : Fn) (first cap : Array Value) (w : World), (Instr.makeFunc fn first cap).run Tryz.prog w = .ok (.func fn first cap) w := fun _ _ _ _ => rfl
  have hen : ∀ (args : Array Value) (w : World), (callFunc 40 args).run Tryz.prog w = .ok (.enter 40 args) w := by intro args w; simp [go_sem]
  have hrl : p.rs.length ≤ 1000 := hp.s.r
  have H1 := hide (fun x (b : Below w.heap.size w x) => lists_any p (by omega) x (hI.below b))
  have HFm := hide (lists_form hI)
  have hT : tooP p.po = (decide (40 < p.rs.length) || (listsV p).any longV) := by
    unfold tooP
    rw [lists_long hI]
    show (decide (40 < (p.rs.map RV.ru).length) || _) = _
    rw [List.length_map]
  rw [hT]
  have H2 := hide (fun x v (hv : IsV x v (listsV p)) => containsL_any 40 [] longV (listsV p) (by rw [listsV_len]; omega) v x hv hen (fun y hy W hb => by
    obtain ⟨a, n, c, rfl⟩ := HFm.out y hy
    exact long_any a n c W))
  clear hT HFm
  generalize (listsV p).any longV = T at *
  generalize listsV p = LV at *
  have HB := hide (fun x (b : Below (poW w p).heap.size (poW w p) x) => po_box w p b)
  obtain ⟨rs, li, sc, dr, de, rv, lv, sv, dv⟩ := p
  simp only [] at *
  have gr : IsR w rv rs := hI.r
  have gl : IsW w lv li := hI.l
  have gs : IsW w sv sc := hI.s
  have gd : IsW w dv dr := hI.d
  obtain ⟨ra, rc, rfl⟩ := gr.form
  obtain ⟨la, lc, rfl⟩ := gl.form
  obtain ⟨sa, sc', rfl⟩ := gs.form
  obtain ⟨da, dc, rfl⟩ := gd.form
  clear gl gs gd
  have B0 := hide (Below.refl (poW w ⟨rs, li, sc, dr, de, .slice ra rs.length rc, .slice la li.length lc, .slice sa sc.length sc', .slice da dr.length dc⟩).heap.size (poW w ⟨rs, li, sc, dr, de, .slice ra rs.length rc, .slice la li.length lc, .slice sa sc.length sc', .slice da dr.length dc⟩))
  obtain ⟨c0, c1, c2, c3, c4, bb⟩ := HB.out _ B0.out
  have BB := hide bb
  clear hI bb gr hp
  by_cases h40 : 40 < rs.length
  · have h40i : (40 : Int) < rs.length := by omega
    rw [decide_eq_true h40]
    clear h40
    go_enter Tryz.func24, Tryz.ntmps24
    go_wp2
    go_ret
    exact ⟨by simp, BB.out⟩
  · have h40i : ¬ (40 : Int) < rs.length := by omega
    rw [decide_eq_false h40, Bool.false_or]
    clear h40
    go_enter Tryz.func24, Tryz.ntmps24
    go_wp2_with fail
    refine (H1.out _ BB.out).mono ?_
    rintro e w1 ⟨v, rfl, hv, b1⟩
    have HQ := hide (H2.out _ _ hv)
    have BC := hide (BB.out.trans (b1.mono BB.out.size))
    clear hv b1
    go_wp2_with fail
    refine HQ.out.mono ?_
    rintro e w2 ⟨rfl, b2⟩
    have BD := hide (BC.out.trans (b2.mono BC.out.size))
    clear b2
    go_wp2
    go_ret
    exact ⟨rfl, BD.out⟩
theorem may_po (p : PV) : mayP p.po = ((decide (1 ≤ p.de) && decide (p.de ≤ 60) && namesL (nsL p.rs)) && ((listsP p.po).drop 0).all namesL && !(p.rs.drop 0).any (fun r => badR p.dr r.ru) && !p.sc.any neverS) := by
  unfold mayP
  show ((decide (1 ≤ p.de) && decide (p.de ≤ 60) && namesL ((p.rs.map RV.ru).map fun r => r.nm)) && (listsP p.po).all namesL && !((p.rs.map RV.ru).any (badR p.dr)) && !p.sc.any neverS) = _
  rw [List.map_map, List.any_map, List.drop_zero, List.drop_zero]
  rfl
theorem enA : ∀ (args : Array Value) (w : World), (callFunc 47 args).run Tryz.prog w = .ok (.enter 47 args) w := by intro args w; simp [go_sem]
theorem enS : ∀ (args : Array Value) (w : World), (callFunc 49 args).run Tryz.prog w = .ok (.enter 49 args) w := by intro args w; simp [go_sem]
theorem neverAs_any (l : List Bs) (hl : l.length ≤ 1000000) (v : Value) (w : World) (hW : IsW w v l) :
    Calls Tryz.prog 46 #[v, .func (.func 47) #[] #[]] w fun e w' => e = .returned (.bool (l.any badA)) ∧ Below w.heap.size w w' :=
  containsS_any 47 [] badA l hl v w hW enA fun x hx W hb => (neverA_any ⟨x.toArray⟩ W).mono fun e w' ⟨h1, h2⟩ => ⟨by rw [h1, str_data], by rw [h2]; exact Below.refl _ W⟩
theorem neverSs_any (l : List Bs) (hl : l.length ≤ 1000000) (v : Value) (w : World) (hW : IsW w v l) :
    Calls Tryz.prog 46 #[v, .func (.func 49) #[] #[]] w fun e w' => e = .returned (.bool (l.any neverS)) ∧ Below w.heap.size w w' :=
  containsS_any 49 [] neverS l hl v w hW enS fun x hx W hb => (neverS_any ⟨x.toArray⟩ W).mono fun e w' ⟨h1, h2⟩ => ⟨by rw [h1, str_data], by rw [h2]; exact Below.refl _ W⟩
theorem IsV.at_ {w : World} {v : Value} {xs : List Value} (h : IsV w v xs) : ∃ g cap, v = .slice (some ⟨g, 0, none⟩) xs.length cap ∧ ∀ k x, xs[k]? = some x → ∀ W, Below w.heap.size w W → W.cell? ⟨g, k, none⟩ = some x := by
  obtain ⟨g, cap, rfl, hc⟩ := h
  refine ⟨g, cap, rfl, fun k x hk W hb => ?_⟩
  obtain ⟨hlt, rfl⟩ := List.getElem?_eq_some_iff.1 hk
  exact (hb.cell (cell_lt (hc k hlt))).trans (hc k hlt)
theorem nsL_small {p : PV} (hp : CapP p) : (nsL p.rs).length ≤ 1000000 ∧ ∀ x ∈ nsL p.rs, x.length ≤ 1000000 := by
  unfold nsL
  refine ⟨by rw [List.length_map]; have := hp.s.r; omega, fun x hx => ?_⟩
  obtain ⟨r, hr, rfl⟩ := List.mem_map.1 hx
  rw [← size_list]
  exact (hp.s.a r hr).2.1
set_option maxHeartbeats 4000000 in
theorem mayBe_any (p : PV) (hp : CapP p) (w : World) (hI : IsPo w p) :
    Calls Tryz.prog 25 #[poA p] w fun e w' => e = .returned (.bool (mayP p.po)) ∧ Below w.heap.size w w' := by
  have hrl : p.rs.length ≤ 1000 := hp.s.r
  rw [may_po]
  have H1 := hide (fun x (b : Below w.heap.size w x) => ruleNames_any p (by omega) x (hI.below b))
  have H2 := hide (fun x (b : Below w.heap.size w x) => lists_any p (by omega) x (hI.below b))
  have HN := hide (fun v x (hv : IsW x v (nsL p.rs)) (hc : ∀ a n c, v = .slice a n c → n ≤ c) => listMay_any (nsL p.rs) (nsL_small hp).1 (nsL_small hp).2 v x hv hc)
  have HLM : Hid (∀ k v, (listsV p)[k]? = some v → ∀ x, Below w.heap.size w x → ∃ l, (listsP p.po)[k]? = some l ∧ (∃ a n c, v = .slice a n c) ∧ Calls Tryz.prog 43 #[v] x fun e w' => e = .returned (.bool (namesL l)) ∧ w' = x) := hide (fun k v hk x b => by
    obtain ⟨l, h1, h2, h3, h4, h5⟩ := lists_at hI hp k v hk
    obtain ⟨a, c, hf⟩ := h2.form
    exact ⟨l, h1, ⟨a, _, c, hf⟩, listMay_any l (by omega) h5 v x (h2.below b) h3⟩)
  have HD := hide (fun n x (b : Below w.heap.size w x) => contains_any n p.dr p.dv x (by have := hp.s.d; omega) (hI.d.below b))
  have HSC := hide (fun x (b : Below w.heap.size w x) => neverSs_any p.sc (by have := hp.s.s; omega) p.sv x (hI.s.below b))
  have HA := hide (fun r (hr : r ∈ p.rs) x (b : Below w.heap.size w x) => neverAs_any r.at_ (by have := (hp.s.a r hr).1; omega) r.av x ((hI.r.2 r hr).below b))
  have hLL : (listsP p.po).length = (listsV p).length := by unfold listsP listsV PV.po; simp
  have hLV : (listsV p).length ≤ 2000 := by rw [listsV_len]; omega
  generalize listsV p = LV at *
  generalize listsP p.po = LP at *
  have HB := hide (fun x (b : Below (poW w p).heap.size (poW w p) x) => po_box w p b)
  obtain ⟨rs, li, sc, dr, de, rv, lv, sv, dv⟩ := p
  simp only [] at *
  have gr : IsR w rv rs := hI.r
  have gl : IsW w lv li := hI.l
  have gs : IsW w sv sc := hI.s
  have gd : IsW w dv dr := hI.d
  obtain ⟨ra, rc, rfl⟩ := gr.form
  obtain ⟨la, lc, rfl⟩ := gl.form
  obtain ⟨sa, sc', rfl⟩ := gs.form
  obtain ⟨da, dc, rfl⟩ := gd.form
  clear gl gs gd
  have HAT := hide (fun k r (hk : rs[k]? = some r) => gr.at_ k r hk)
  have B0 := hide (Below.refl (poW w ⟨rs, li, sc, dr, de, .slice ra rs.length rc, .slice la li.length lc, .slice sa sc.length sc', .slice da dr.length dc⟩).heap.size (poW w ⟨rs, li, sc, dr, de, .slice ra rs.length rc, .slice la li.length lc, .slice sa sc.length sc', .slice da dr.length dc⟩))
  obtain ⟨c0, c1, c2, c3, c4, bb⟩ := HB.out _ B0.out
  have BB := hide bb
  clear hI bb gr hp
  generalize namesL (nsL rs) = N at *
  generalize nsL rs = NS at *
  generalize hV3 : sc.any neverS = V3 at *
  clear hV3
  by_cases q1 : ¬ (1 : Int) ≤ de
  · have i1 : de < 1 := by omega
    rw [decide_eq_false q1]
    clear q1
    go_enter Tryz.func25, Tryz.ntmps25
    go_wp2
    go_ret
    exact ⟨by simp, BB.out⟩
  have i1 : ¬ de < 1 := by omega
  rw [decide_eq_true (show (1 : Int) ≤ de by omega), Bool.true_and]
  by_cases q2 : ¬ de ≤ 60
  · have i2 : (60 : Int) < de := by omega
    rw [decide_eq_false q2]
    clear q1 q2
    go_enter Tryz.func25, Tryz.ntmps25
    go_wp2
    go_ret
    exact ⟨by simp, BB.out⟩
  have i2 : ¬ (60 : Int) < de := by omega
  rw [decide_eq_true (show de ≤ 60 by omega), Bool.true_and]
  clear q1 q2
  cases N with
  | false =>
    go_enter Tryz.func25, Tryz.ntmps25
    go_wp2_with fail
    refine (H1.out _ BB.out).mono ?_
    rintro e w1 ⟨v, rfl, ⟨hv, hvc⟩, b1⟩
    have HQ := hide (HN.out _ _ hv hvc)
    have BC := hide (BB.out.trans (b1.mono BB.out.size))
    clear hv hvc b1
    go_wp2_with fail
    refine HQ.out.mono ?_
    rintro e w2 ⟨rfl, rfl⟩
    go_wp2
    go_ret
    exact ⟨by simp, BC.out⟩
  | true =>
    rw [Bool.true_and]
    generalize hV1 : (LP.drop 0).all namesL = V1
    generalize hV2 : ((rs.drop 0).any fun r => badR dr r.ru) = V2
    have HV1 := hide hV1
    have HV2 := hide hV2
    clear hV1 hV2
    go_enter Tryz.func25, Tryz.ntmps25
    go_wp2_with fail
    refine (H1.out _ BB.out).mono ?_
    rintro e w1 ⟨v, rfl, ⟨hv, hvc⟩, b1⟩
    have HQ := hide (HN.out _ _ hv hvc)
    have BC := hide (B0.out.trans (b1.mono B0.out.size))
    clear hv hvc b1 c0 c1 c2 c3 c4
    obtain ⟨c0, c1, c2, c3, c4, bb⟩ := HB.out _ BC.out
    have BD := hide bb
    clear bb
    go_wp2_with fail
    refine HQ.out.mono ?_
    rintro e w2 ⟨rfl, rfl⟩
    go_wp2_with fail
    refine (H2.out _ BD.out).mono ?_
    rintro e w2 ⟨v2, rfl, hv2, b2⟩
    have BE := hide (BC.out.trans (b2.mono BC.out.size))
    clear b2 c0 c1 c2 c3 c4
    obtain ⟨g, cap, rfl, hx2⟩ := hv2.at_
    have HX := hide hx2
    clear hx2 hv2 HQ BD BC
    go_wp2
    go_loopw [24] (fun i wr => ∃ k : Nat, k ≤ LV.length ∧ i = .int .i64 k ∧ Hid (Below w2.heap.size w2 wr) ∧ Hid ((LP.drop k).all namesL = V1)) (fun i _ => LV.length - (intOf i).toNat)
    case atStart => exact ⟨0, Nat.zero_le _, rfl, hide (Below.refl _ w2), HV1⟩
    case round =>
      obtain ⟨k, hk, rfl, BW, HR⟩ := hrel
      have BF := hide (BE.out.trans (BW.out.mono BE.out.size))
      obtain ⟨c0, c1, c2, c3, c4, bb⟩ := HB.out _ BF.out
      have BG := hide bb
      clear bb
      by_cases hlt : k < LV.length
      · have hlt2 : (k : Int) < LV.length := by omega
        obtain ⟨x, hx⟩ : ∃ x, LV[k]? = some x := ⟨_, List.getElem?_eq_getElem hlt⟩
        have hcell := HX.out k x hx wr BW.out
        obtain ⟨l, hl, ⟨xa, xn, xc, rfl⟩, hcall⟩ := HLM.out k x hx wr BG.out
        have hkl : k < LP.length := by rw [hLL]; exact hlt
        have hst := all_step1 namesL LP k hkl
        rw [HR.out, show LP[k] = l from (List.getElem?_eq_some_iff.1 hl).2] at hst
        have HQ := hide hcall
        clear hcall hx hl HR c0 c1 c2 c3 c4
        generalize namesL l = P at *
        cases P
        · have HR2 : Hid (V1 = false) := hide (by rw [hst]; rfl)
          clear hst
          go_wp2_with fail
          refine HQ.out.mono ?_
          rintro e w3 ⟨rfl, rfl⟩
          go_wp2
          go_ret
          exact ⟨by rw [HR2.out]; simp, BG.out⟩
        · have HR2 : Hid ((LP.drop (k + 1)).all namesL = V1) := hide (by rw [hst]; rfl)
          clear hst
          go_wp2_with fail
          refine HQ.out.mono ?_
          rintro e w3 ⟨rfl, rfl⟩
          go_wp2
          go_roundw
          case rel => exact ⟨k + 1, by omega, by go_num, BW, HR2⟩
          case measure => simp [intOf]; omega
      · have hlt2 : ¬ (k : Int) < LV.length := by omega
        have hst := all_end1 namesL LP k (by omega)
        rw [HR.out] at hst
        have HR1 := hide hst
        clear hst HR hlt
        go_wp2
        generalize wr = wa at *
        go_loopw [35] (fun i wr => ∃ k : Nat, k ≤ rs.length ∧ i = .int .i64 k ∧ Hid (Below wa.heap.size wa wr) ∧ Hid (((rs.drop k).any fun r => badR dr r.ru) = V2)) (fun i _ => rs.length - (intOf i).toNat)
        case atStart => exact ⟨0, Nat.zero_le _, rfl, hide (Below.refl _ wa), HV2⟩
        case round =>
          obtain ⟨k, hk, rfl, BW2, HR⟩ := hrel
          have BH := hide (BF.out.trans (BW2.out.mono BF.out.size))
          clear c0 c1 c2 c3 c4
          obtain ⟨c0, c1, c2, c3, c4, bb⟩ := HB.out _ BH.out
          have BI := hide bb
          clear bb
          by_cases hlt : k < rs.length
          · have hlt2 : (k : Int) < rs.length := by omega
            obtain ⟨r, hr⟩ : ∃ r, rs[k]? = some r := ⟨_, List.getElem?_eq_getElem hlt⟩
            obtain ⟨⟨b, o, rfl, q⟩, hw⟩ := HAT.out k r hr
            obtain ⟨d0, d1⟩ := q _ BI.out
            obtain ⟨xa, xc, hxf⟩ := hw.form
            have hst := any_step1 (fun r : RV => badR dr r.ru) rs k hlt
            rw [HR.out, show rs[k] = r from (List.getElem?_eq_some_iff.1 hr).2] at hst
            have HQ1 := hide (neverE_any r.nm)
            have HQ2 := hide (HA.out r (List.mem_of_getElem? hr))
            have HQ3 := hide (HD.out r.nm)
            have HBX := hide (fun x (b : Below (ruW wr r.nm r.av).heap.size (ruW wr r.nm r.av) x) => ru_box wr r.nm r.av b)
            unfold badR RV.ru at hst
            obtain ⟨rn, rat, rav⟩ := r
            simp only [] at hst HQ1 HQ2 HQ3 HBX d0 d1 hxf
            subst hxf
            have B1 := hide (Below.refl (ruW wr rn (.slice xa rat.length xc)).heap.size (ruW wr rn (.slice xa rat.length xc)))
            obtain ⟨f0, f1, ff⟩ := HBX.out _ B1.out
            have BJ := hide (BH.out.trans (ff.mono BH.out.size))
            clear ff hw hr q HR c0 c1 c2 c3 c4
            generalize neverE rn.data.toList = P1 at *
            generalize rat.any badA = P2 at *
            generalize amongL dr rn.data.toList = P3 at *
            generalize rat.length = rl at *
            cases P1 with
            | true =>
              have HR2 : Hid (V2 = true) := hide (by rw [hst]; simp)
              clear hst
              go_wp2_with fail
              refine (HQ1.out _).mono ?_
              rintro e w3 ⟨rfl, b3⟩
              have B3 := hide (B1.out.trans (b3.mono B1.out.size))
              obtain ⟨f0', f1', ff⟩ := HBX.out _ B3.out
              have BK := hide (BI.out.trans (ff.mono BI.out.size))
              clear ff b3 f0 f1
              go_wp2
              go_ret
              exact ⟨by rw [HR2.out]; simp, BK.out⟩
            | false =>
              rw [Bool.false_or] at hst
              cases P2 with
              | true =>
                have HR2 : Hid (V2 = true) := hide (by rw [hst]; simp)
                clear hst
                go_wp2_with fail
                refine (HQ1.out _).mono ?_
                rintro e w3 ⟨rfl, b3⟩
                have B3 := hide (B1.out.trans (b3.mono B1.out.size))
                obtain ⟨f0', f1', ff⟩ := HBX.out _ B3.out
                have BK := hide (BI.out.trans (ff.mono BI.out.size))
                clear ff b3 f0 f1
                go_wp2_with fail
                refine (HQ2.out _ BK.out).mono ?_
                rintro e w4 ⟨rfl, b4⟩
                have B4 := hide (B3.out.trans (b4.mono B3.out.size))
                obtain ⟨f0, f1, ff⟩ := HBX.out _ B4.out
                have BL := hide (BI.out.trans (ff.mono BI.out.size))
                clear ff b4 f0' f1'
                go_wp2
                go_ret
                exact ⟨by rw [HR2.out]; simp, BL.out⟩
              | false =>
                rw [Bool.false_or] at hst
                cases P3 with
                | true =>
                  have HR2 : Hid (V2 = true) := hide (by rw [hst]; simp)
                  clear hst
                  go_wp2_with fail
                  refine (HQ1.out _).mono ?_
                  rintro e w3 ⟨rfl, b3⟩
                  have B3 := hide (B1.out.trans (b3.mono B1.out.size))
                  obtain ⟨f0', f1', ff⟩ := HBX.out _ B3.out
                  have BK := hide (BI.out.trans (ff.mono BI.out.size))
                  clear ff b3 f0 f1
                  go_wp2_with fail
                  refine (HQ2.out _ BK.out).mono ?_
                  rintro e w4 ⟨rfl, b4⟩
                  have B4 := hide (B3.out.trans (b4.mono B3.out.size))
                  obtain ⟨f0, f1, ff⟩ := HBX.out _ B4.out
                  have BL := hide (BI.out.trans (ff.mono BI.out.size))
                  have BM := hide (BH.out.trans (ff.mono BH.out.size))
                  obtain ⟨-, -, -, c3, -, -⟩ := HB.out _ BM.out
                  clear ff b4 f0' f1'
                  go_wp2_with fail
                  refine (HQ3.out _ BL.out).mono ?_
                  rintro e w5 ⟨rfl, rfl⟩
                  go_wp2
                  go_ret
                  exact ⟨by rw [HR2.out]; simp, BL.out⟩
                | false =>
                  have HR2 : Hid (((rs.drop (k + 1)).any fun r => badR dr r.ru) = V2) := hide (by rw [hst]; rfl)
                  clear hst
                  go_wp2_with fail
                  refine (HQ1.out _).mono ?_
                  rintro e w3 ⟨rfl, b3⟩
                  have B3 := hide (B1.out.trans (b3.mono B1.out.size))
                  obtain ⟨f0', f1', ff⟩ := HBX.out _ B3.out
                  have BK := hide (BI.out.trans (ff.mono BI.out.size))
                  clear ff b3 f0 f1
                  go_wp2_with fail
                  refine (HQ2.out _ BK.out).mono ?_
                  rintro e w4 ⟨rfl, b4⟩
                  have B4 := hide (B3.out.trans (b4.mono B3.out.size))
                  obtain ⟨f0, f1, ff⟩ := HBX.out _ B4.out
                  have BL := hide (BI.out.trans (ff.mono BI.out.size))
                  have BM := hide (BH.out.trans (ff.mono BH.out.size))
                  have BN := hide (BW2.out.trans (ff.mono BW2.out.size))
                  obtain ⟨-, -, -, c3, -, -⟩ := HB.out _ BM.out
                  clear ff b4 f0' f1'
                  go_wp2_with fail
                  refine (HQ3.out _ BL.out).mono ?_
                  rintro e w5 ⟨rfl, rfl⟩
                  go_wp2
                  go_roundw
                  case rel => exact ⟨k + 1, by omega, by go_num, BN, HR2⟩
                  case measure => simp [intOf]; omega
          · have hlt2 : ¬ (k : Int) < rs.length := by omega
            have hst := any_end1 (fun r : RV => badR dr r.ru) rs k (by omega)
            rw [HR.out] at hst
            have HR2 := hide hst
            clear hst HR hlt
            go_wp2_with fail
            refine (HSC.out _ BI.out).mono ?_
            rintro e w3 ⟨rfl, b3⟩
            have BK := hide (BI.out.trans (b3.mono BI.out.size))
            clear b3
            go_wp2
            go_ret
            exact ⟨by rw [HR1.out, HR2.out]; simp, BK.out⟩
set_option maxHeartbeats 1000000 in
theorem check_any (p : PV) (hp : CapP p) (w : World) (hI : IsPo w p) :
    Calls Tryz.prog 14 #[poA p] w fun e w' => e = .returned (.int .i64 (checkP p.po)) ∧ Below w.heap.size w w' := by
  have H1 := hide (fun x (b : Below w.heap.size w x) => tooMany_any p hp x (hI.below b))
  have H2 := hide (fun x (b : Below w.heap.size w x) => mayBe_any p hp x (hI.below b))
  rw [check_is]
  generalize tooP p.po = T at *
  generalize mayP p.po = M at *
  have HB := hide (fun x (b : Below (poW w p).heap.size (poW w p) x) => po_box w p b)
  obtain ⟨rs, li, sc, dr, de, rv, lv, sv, dv⟩ := p
  simp only [] at *
  have gr : IsR w rv rs := hI.r
  have gl : IsW w lv li := hI.l
  have gs : IsW w sv sc := hI.s
  have gd : IsW w dv dr := hI.d
  obtain ⟨ra, rc, rfl⟩ := gr.form
  obtain ⟨la, lc, rfl⟩ := gl.form
  obtain ⟨sa, sc', rfl⟩ := gs.form
  obtain ⟨da, dc, rfl⟩ := gd.form
  clear gl gs gd
  have B0 := hide (Below.refl (poW w ⟨rs, li, sc, dr, de, .slice ra rs.length rc, .slice la li.length lc, .slice sa sc.length sc', .slice da dr.length dc⟩).heap.size (poW w ⟨rs, li, sc, dr, de, .slice ra rs.length rc, .slice la li.length lc, .slice sa sc.length sc', .slice da dr.length dc⟩))
  obtain ⟨c0, c1, c2, c3, c4, bb⟩ := HB.out _ B0.out
  have BB := hide bb
  clear hI bb gr hp
  cases T with
  | true =>
    go_enter Tryz.func14, Tryz.ntmps14
    go_wp2_with fail
    refine (H1.out _ BB.out).mono ?_
    rintro e w1 ⟨rfl, b1⟩
    have BC := hide (BB.out.trans (b1.mono BB.out.size))
    clear b1
    go_wp2
    go_ret
    exact ⟨by simp, BC.out⟩
  | false =>
    cases M with
    | true =>
      go_enter Tryz.func14, Tryz.ntmps14
      go_wp2_with fail
      refine (H1.out _ BB.out).mono ?_
      rintro e w1 ⟨rfl, b1⟩
      have BC := hide (BB.out.trans (b1.mono BB.out.size))
      have B1 := hide (B0.out.trans (b1.mono B0.out.size))
      clear b1 c0 c1 c2 c3 c4
      obtain ⟨c0, c1, c2, c3, c4, bb⟩ := HB.out _ B1.out
      clear bb
      go_wp2_with fail
      refine (H2.out _ BC.out).mono ?_
      rintro e w2 ⟨rfl, b2⟩
      have BD := hide (BC.out.trans (b2.mono BC.out.size))
      clear b2
      go_wp2
      go_ret
      exact ⟨by simp, BD.out⟩
    | false =>
      go_enter Tryz.func14, Tryz.ntmps14
      go_wp2_with fail
      refine (H1.out _ BB.out).mono ?_
      rintro e w1 ⟨rfl, b1⟩
      have BC := hide (BB.out.trans (b1.mono BB.out.size))
      have B1 := hide (B0.out.trans (b1.mono B0.out.size))
      clear b1 c0 c1 c2 c3 c4
      obtain ⟨c0, c1, c2, c3, c4, bb⟩ := HB.out _ B1.out
      clear bb
      go_wp2_with fail
      refine (H2.out _ BC.out).mono ?_
      rintro e w2 ⟨rfl, b2⟩
      have BD := hide (BC.out.trans (b2.mono BC.out.size))
      clear b2
      go_wp2
      go_ret
      exact ⟨by simp, BD.out⟩
end Go.Proofs.YthopnliaikkhbaaGreatDoor
