import Derived.Test.YthopnliaikkhbaaGreatDoorBunA
/- What the document's own within answers. -/
set_option linter.unusedVariables false
set_option linter.unusedSimpArgs false
set_option maxRecDepth 4000
namespace Go.Proofs.YthopnliaikkhbaaGreatDoor
open Go.RowKit

theorem allow_space (p : PO) (d : S5.ND) (n : Nat) (X : Bool) (A : Bool) (h : d.space ≠ 0) : (if d.kind = 2 then textOk d n else if d.kind = 1 then A && (tagOk p d && X) else false) = false := by
  have h1 : textOk d n = false := by
    unfold textOk
    rw [show (d.space == 0) = false from beq_eq_false_iff_ne.2 h]
    simp
  have h2 : tagOk p d = false := by
    unfold tagOk
    rw [show (d.space == 0) = false from beq_eq_false_iff_ne.2 h]
    simp
  rw [h1, h2]
  split
  · rfl
  · split
    · simp
    · rfl
theorem elem_ok {p : PO} (h : checkP p = 0) (n : Bs) : elementP p n = (findR p.ru n).isSome := by
  unfold elementP ruleOf
  rw [if_pos h]
theorem attr_ok {p : PO} (h : checkP p = 0) (n a v : Bs) : attrP p n a v = attrB p n a v := by
  unfold attrP
  rw [decide_eq_true h, Bool.true_and]
set_option maxHeartbeats 8000000 in
theorem rallow_step {k : Nat} (p : PV) (hp : CapP p) (hck : checkP p.po = 0) (hde : p.de ≤ 60) (deep : Int) (hd : 0 ≤ deep ∧ deep ≤ 100) (ts : List (S5.NT (k + 1))) (hl : ts.length ≤ 9223372036854775807) (hok : S5.OkTs ts) (hsz : sizeTs ts ≤ 1000000) (ih : deep ≤ p.de → ∀ i (h : i < ts.length), AllowOk 23 p (deep + 1) ts[i].kids) : AllowOk 23 p deep ts := by
  intro Bk va w hB hI hK
  have HK := hide hK
  have HB := hide hB
  have HI := hide hI
  unfold AllowOk at ih
  have HIH := hide ih
  have HSQ := hide (fun b => seq_at (fun x => allowT p.po deep x) (fun x => kindT x == 2) b ts)
  have HSE := hide (fun b => seq_end (fun x => allowT p.po deep x) (fun x => kindT x == 2) b ts)
  have HMK := hide (fun (t : S5.NT (k + 1)) => allowT_mk p.po deep t)
  have HSZ : Hid (∀ i (h : i < ts.length), ts[i].nd.attrs.length ≤ 9223372036854775807 ∧ ∀ a ∈ ts[i].nd.attrs, a.2.length ≤ 1000000) := hide (fun i h => ⟨(hok _ (List.getElem_mem h)).1, fun a ha => by
    have h1 := attr_size _ a ha
    have h2 := sizeTs_mem ts i h
    rw [sizeT_mk] at h2
    omega⟩)
  have HEL : Hid (∀ (n : Bs) W, IsPo W p → Calls Tryz.prog 38 #[poA p, .string ⟨n.toArray⟩] W fun e w' => e = .returned (.bool (findR p.po.ru n).isSome) ∧ Below W.heap.size W w') := hide (fun n W h => (relement_any p hp ⟨n.toArray⟩ W h).mono fun e w' h2 => by
    rw [elem_ok hck] at h2
    simpa using h2)
  have HAR : Hid (∀ (n a v : Bs) W, v.length ≤ 1000000 → IsPo W p → Calls Tryz.prog 39 #[poA p, .string ⟨n.toArray⟩, .agg #[.string ⟨a.toArray⟩, .string ⟨v.toArray⟩]] W fun e w' => e = .returned (.bool (attrB p.po n a v)) ∧ Below W.heap.size W w') := hide (fun n a v W hv h => (rattr_any p hp ⟨n.toArray⟩ ⟨a.toArray⟩ ⟨v.toArray⟩ (by show v.toArray.size ≤ _; simp; omega) W h).mono fun e w' h2 => by
    rw [attr_ok hck] at h2
    simpa using h2)
  have HPB := hide (fun x (b : Below (poW w p).heap.size (poW w p) x) => po_box w p b)
  obtain ⟨a1, c1, rfl⟩ := S5.isK_form hK
  generalize hV : allowTs p.po deep ts = V
  have HV : Hid (seqOk (fun x => allowT p.po deep x) (fun x => kindT x == 2) false (ts.drop 0) = V) := hide (by rw [List.drop_zero]; exact hV)
  obtain ⟨hd0, hd1⟩ := hd
  clear hV hK hB ih hok hsz hp hck
  generalize hpo : p.po = po at *
  have hpd : po.de = p.de := by rw [← hpo]; rfl
  clear hpo
  obtain ⟨rs, li, sc, dr, de, rv, lv, sv, dv⟩ := p
  simp only [] at *
  have gr : IsR w rv rs := hI.r
  have gl : IsW w lv li := hI.l
  have gs : IsW w sv sc := hI.s
  have gd : IsW w dv dr := hI.d
  obtain ⟨ra, rc, rfl⟩ := gr.form
  obtain ⟨la, lc, rfl⟩ := gl.form
  obtain ⟨sa, sc', rfl⟩ := gs.form
  obtain ⟨da, dc, rfl⟩ := gd.form
  clear gr gl gs gd hI
  generalize rs.length = r0 at *
  generalize li.length = r1 at *
  generalize sc.length = r2 at *
  generalize dr.length = r3 at *
  have B0 := hide (Below.refl (poW w ⟨rs, li, sc, dr, de, .slice ra r0 rc, .slice la r1 lc, .slice sa r2 sc', .slice da r3 dc⟩).heap.size (poW w ⟨rs, li, sc, dr, de, .slice ra r0 rc, .slice la r1 lc, .slice sa r2 sc', .slice da r3 dc⟩))
  go_enter Tryz.func23, Tryz.ntmps23
  go_wp2
  go_loopw [7] (fun vi wr => ∃ (i : Nat) (b : Bool), vi = .int .i64 (i : Int) ∧ i ≤ ts.length ∧ Hid (seqOk (fun x => allowT po deep x) (fun x => kindT x == 2) b (ts.drop i) = V) ∧ Hid ((i = 0 → b = false) ∧ ∀ j (h : j < ts.length), i = j + 1 → b = (ts[j].nd.kind == 2)) ∧ Hid (Below (poW w ⟨rs, li, sc, dr, de, .slice ra r0 rc, .slice la r1 lc, .slice sa r2 sc', .slice da r3 dc⟩).heap.size (poW w ⟨rs, li, sc, dr, de, .slice ra r0 rc, .slice la r1 lc, .slice sa r2 sc', .slice da r3 dc⟩) wr)) (fun vi _ => ts.length - (intOf vi).toNat)
  case atStart => exact ⟨0, false, rfl, Nat.zero_le _, HV, hide ⟨fun _ => rfl, fun j h e => by omega⟩, B0⟩
  case round =>
    clear B0 HV
    obtain ⟨i, b, rfl, hi, HQ, HPV, HBW⟩ := hrel
    by_cases hlt : i < ts.length
    · have hlt2 : (i : Int) < ts.length := by omega
      have hnow := HQ.out
      rw [HSQ.out b i hlt, HMK.out ts[i]] at hnow
      obtain ⟨_, _, _, _, _, bw⟩ := HPB.out _ HBW.out
      have k1 := isK_keepB HB.out HK.out bw
      rcases k1 with ⟨_, h0⟩ | ⟨b1, o1, cap1, e1, _, _, hn1⟩
      · rw [h0] at hlt; simp at hlt
      injection e1 with e1 _ e1c
      subst e1 e1c
      obtain ⟨qa, qc, ka, kc, u0, u1, u2, u3, u4, u5, hA, hKd⟩ := node6c hn1 i hlt
      have HPC : Hid (∀ j, j < ts.length → ∀ W, Below wr.heap.size wr W → ∃ kj : Int, W.cell? ⟨b1, o1 + j * 6, none⟩ = some (.int .i64 kj) ∧ (∀ h : j < ts.length, kj = ts[j].nd.kind)) := hide (fun j hj W hb => by
        obtain ⟨_, _, _, _, v0, _⟩ := node6c hn1 j hj
        exact ⟨ts[j].nd.kind, (hb.cell (cell_lt v0)).trans v0, fun _ => rfl⟩)
      obtain ⟨hz1, hz2⟩ := HSZ.out i hlt
      have hBr : ∀ j, Bk j → j < wr.heap.size := fun j hj => Nat.lt_of_lt_of_le (HB.out j hj) bw.size
      have ba := below_alloc wr (.cells (nodeA ts[i].nd qa qc ka ts[i].kids.length kc) 41)
      have b8 := HBW.out.trans (ba.mono HBW.out.size)
      obtain ⟨m0, m1, m2, m3, m4, bb⟩ := HPB.out _ b8
      have HEL1 := hide (HEL.out ts[i].nd.name (wr.alloc (.cells (nodeA ts[i].nd qa qc ka ts[i].kids.length kc) 41)) (HI.out.below bb))
      have HAR1 : Hid (∀ j (h : j < ts[i].nd.attrs.length) W, Below (wr.alloc (.cells (nodeA ts[i].nd qa qc ka ts[i].kids.length kc) 41)).heap.size (wr.alloc (.cells (nodeA ts[i].nd qa qc ka ts[i].kids.length kc) 41)) W → Calls Tryz.prog 39 #[poA ⟨rs, li, sc, dr, de, .slice ra r0 rc, .slice la r1 lc, .slice sa r2 sc', .slice da r3 dc⟩, .string ⟨ts[i].nd.name.toArray⟩, .agg #[.string ⟨ts[i].nd.attrs[j].1.toArray⟩, .string ⟨ts[i].nd.attrs[j].2.toArray⟩]] W fun e w' => e = .returned (.bool (attrB po ts[i].nd.name ts[i].nd.attrs[j].1 ts[i].nd.attrs[j].2)) ∧ Below W.heap.size W w') := hide (fun j h W hb => HAR.out _ _ _ W (hz2 _ (List.getElem_mem h)) ((HI.out.below bb).below hb))
      have HAA := hide (hA.below ba)
      have HAT := hide (all_at po ts[i].nd.name ts[i].nd.attrs)
      have HAD := hide (all_done po ts[i].nd.name ts[i].nd.attrs)
      have HSP := hide (fun X A => allow_space po ts[i].nd ts[i].kids.length X A)
      have HAL := hz1
      have HRC : Hid (deep ≤ de → ∀ W, Below (wr.alloc (.cells (nodeA ts[i].nd qa qc ka ts[i].kids.length kc) 41)).heap.size (wr.alloc (.cells (nodeA ts[i].nd qa qc ka ts[i].kids.length kc) 41)) W → Calls Tryz.prog 23 #[poA ⟨rs, li, sc, dr, de, .slice ra r0 rc, .slice la r1 lc, .slice sa r2 sc', .slice da r3 dc⟩, .slice ka ts[i].kids.length kc, .int .i64 (deep + 1)] W fun e w' => e = .returned (.bool (allowTs po (deep + 1) ts[i].kids)) ∧ Below W.heap.size W w') := hide (fun h W hb => HIH.out h i hlt Bk _ W (fun j hj => Nat.lt_of_lt_of_le (hBr j hj) (Nat.le_trans ba.size hb.size)) ((HI.out.below bb).below hb) (isK_keepB (fun j hj => Nat.lt_of_lt_of_le (hBr j hj) ba.size) (isK_keepB hBr hKd ba) hb))
      have HNX : Hid (∀ j (h : j < ts.length), i + 1 = j + 1 → (kindT ts[i] == 2) = (ts[j].nd.kind == 2)) := hide (fun j h e => by
        obtain rfl : i = j := by omega
        rfl)
      have hkt : kindT ts[i] = ts[i].nd.kind := rfl
      rw [hkt] at hnow HNX
      have B8 := hide b8
      have BB8 := hide bb
      have BA := hide ba
      have hprev := HPV.out
      rw [hpd] at hnow
      clear HQ HPV hA hKd hn1 bw b8 bb ba hBr hz1 hz2 HSZ HEL HAR HSQ HMK HIH
      generalize allowTs po (deep + 1) ts[i].kids = VK at *
      generalize ts[i].kids.length = kl at *
      generalize hd : ts[i].nd = d at *
      clear hd hkt
      obtain ⟨kd, sp, name, attrs, text⟩ := d
      simp only [] at *
      by_cases hs : sp = 0
      · subst hs
        by_cases hk2 : kd = 2
        · subst hk2
          rw [if_pos rfl] at hnow
          by_cases ht : text = []
          · subst ht
            rw [show textOk ⟨2, 0, name, attrs, []⟩ kl = false by simp [textOk], Bool.false_and] at hnow
            subst hnow
            go_wp2
            go_ret
            exact ⟨rfl, BB8.out⟩
          · have ht2 : text.isEmpty = false := by simp [ht]
            by_cases hn : name = []
            · subst hn
              by_cases ha : attrs.length = 0
              · obtain rfl : attrs = [] := List.eq_nil_of_length_eq_zero ha
                clear ha
                by_cases hkk : kl = 0
                · subst hkk
                  rw [show textOk ⟨2, 0, [], [], text⟩ 0 = true by simp [textOk, ht], Bool.true_and] at hnow
                  cases i with
                  | zero =>
                    obtain rfl := hprev.1 rfl
                    simp only [Nat.zero_mul, Nat.add_zero] at u0 u1 u2 u3 u4 u5
                    have HQ2 := hide hnow
                    clear hnow hprev
                    go_wp2
                    go_roundw
                    case rel => exact ⟨0 + 1, true, by go_num, by omega, HQ2, hide ⟨fun h => by omega, fun j h e => HNX.out j h (by omega)⟩, B8⟩
                    case measure => simp [intOf]; omega
                  | succ j =>
                    have hb := hprev.2 j (by omega) rfl
                    obtain ⟨kj, vr, hkj⟩ := HPC.out j (by omega) wr (Below.refl _ _)
                    have v0 : ∀ o, (wr.alloc o).cell? ⟨b1, o1 + j * 6, none⟩ = some (.int .i64 kj) := fun o => ((below_alloc wr o).cell (cell_lt vr)).trans vr
                    cases b
                    · have hkj2 : (kj == 2) = false := by
                        rw [beq_eq_false_iff_ne, hkj (by omega)]
                        intro e
                        rw [e] at hb
                        simp at hb
                      have HQ2 := hide hnow
                      clear hnow hprev hb hkj
                      go_wp2
                      go_roundw
                      case rel => exact ⟨j + 1 + 1, true, by go_num, by omega, HQ2, hide ⟨fun h => by omega, fun j h e => HNX.out j h (by omega)⟩, B8⟩
                      case measure => simp [intOf]; omega
                    · have hkj2 : (kj == 2) = true := by
                        rw [beq_iff_eq, hkj (by omega)]
                        simpa using hb.symm
                      have hnow2 : false = V := hnow
                      clear hnow hprev hb hkj
                      subst hnow2
                      go_wp2
                      go_ret
                      exact ⟨rfl, BB8.out⟩
                · have hkk2 : (0 : Int) < kl := by omega
                  rw [show textOk ⟨2, 0, [], [], text⟩ kl = false by simp [textOk, ht, hkk], Bool.false_and] at hnow
                  subst hnow
                  go_wp2
                  go_ret
                  exact ⟨rfl, BB8.out⟩
              · have ha2 : (0 : Int) < attrs.length := by omega
                rw [show textOk ⟨2, 0, [], attrs, text⟩ kl = false by simp [textOk, ht, ha], Bool.false_and] at hnow
                subst hnow
                go_wp2
                go_ret
                exact ⟨rfl, BB8.out⟩
            · have hn2 : name.isEmpty = false := by simp [hn]
              rw [show textOk ⟨2, 0, name, attrs, text⟩ kl = false by simp [textOk, ht, hn], Bool.false_and] at hnow
              subst hnow
              go_wp2
              go_ret
              exact ⟨rfl, BB8.out⟩
        · have hk2b : (kd == 2) = false := by simp [hk2]
          rw [if_neg hk2] at hnow
          by_cases hk1 : kd = 1
          · subst hk1
            rw [if_pos rfl] at hnow
            by_cases ht : text = []
            · subst ht
              generalize wr = w8 at *
              by_cases hdp : deep ≤ de
              · have hdp2 : ¬ de < deep := by omega
                rw [decide_eq_true hdp, Bool.true_and] at hnow
                have HRC1 := hide (HRC.out hdp)
                have htg : tagOk po ⟨1, 0, name, attrs, []⟩ = ((findR po.ru name).isSome && attrs.all fun a => attrB po name a.1 a.2) := by simp [tagOk]
                rw [htg] at hnow
                clear htg
                generalize (findR po.ru name).isSome = FE at *
                have HF := hide (show ((attrs.drop 0).all fun a => attrB po name a.1 a.2) = (attrs.all fun a => attrB po name a.1 a.2) by rw [List.drop_zero])
                generalize (attrs.all fun a => attrB po name a.1 a.2) = AL at *
                have HNB : Hid (∀ W, Below (w8.alloc (.cells (nodeA ⟨1, 0, name, attrs, []⟩ qa qc ka kl kc) 41)).heap.size (w8.alloc (.cells (nodeA ⟨1, 0, name, attrs, []⟩ qa qc ka kl kc) 41)) W → W.cell? ⟨w8.heap.size, 2, none⟩ = some (.string ⟨name.toArray⟩) ∧ W.cell? ⟨w8.heap.size, 3, none⟩ = some (.slice qa attrs.length qc) ∧ W.cell? ⟨w8.heap.size, 5, none⟩ = some (.slice ka kl kc) ∧ W.cell? ⟨w.heap.size, 0, none⟩ = some (.slice ra r0 rc) ∧ W.cell? ⟨w.heap.size, 1, none⟩ = some (.slice la r1 lc) ∧ W.cell? ⟨w.heap.size, 2, none⟩ = some (.slice sa r2 sc') ∧ W.cell? ⟨w.heap.size, 3, none⟩ = some (.slice da r3 dc) ∧ W.cell? ⟨w.heap.size, 4, none⟩ = some (.int .i64 de) ∧ Below w.heap.size w W) := hide (fun W hb => by
                  have hc : ∀ j, j < 6 → W.cell? ⟨w8.heap.size, j, none⟩ = (w8.alloc (.cells (nodeA ⟨1, 0, name, attrs, []⟩ qa qc ka kl kc) 41)).cell? ⟨w8.heap.size, j, none⟩ := fun j hj => hb.cell (by show w8.heap.size < _; simp)
                  obtain ⟨x0, x1, x2, x3, x4, bx⟩ := HPB.out _ (B8.out.trans (hb.mono B8.out.size))
                  refine ⟨?_, ?_, ?_, x0, x1, x2, x3, x4, bx⟩
                  · rw [hc 2 (by omega)]; simp [go_sem]
                  · rw [hc 3 (by omega)]; simp [go_sem]
                  · rw [hc 5 (by omega)]; simp [go_sem])
                cases FE
                · simp only [Bool.false_and, Bool.and_false] at hnow
                  subst hnow
                  go_wp2_with fail
                  refine HEL1.out.mono ?_
                  rintro e w2 ⟨rfl, b2⟩
                  have B2 := hide (BB8.out.trans (b2.mono BB8.out.size))
                  clear b2
                  go_wp2
                  go_ret
                  exact ⟨rfl, B2.out⟩
                · rw [Bool.true_and] at hnow
                  have HV2 := hide hnow
                  clear hnow
                  go_wp2_with fail
                  refine HEL1.out.mono ?_
                  rintro e w2 ⟨rfl, b2⟩
                  have B2 := hide b2
                  clear b2
                  go_wp2
                  go_loopw [9] (fun vj wr => ∃ j : Nat, vj = .int .i64 (j : Int) ∧ j ≤ attrs.length ∧ Hid (((attrs.drop j).all fun a => attrB po name a.1 a.2) = AL) ∧ Hid (Below (w8.alloc (.cells (nodeA ⟨1, 0, name, attrs, []⟩ qa qc ka kl kc) 41)).heap.size (w8.alloc (.cells (nodeA ⟨1, 0, name, attrs, []⟩ qa qc ka kl kc) 41)) wr)) (fun vj _ => attrs.length - (intOf vj).toNat)
                  case atStart => exact ⟨0, rfl, Nat.zero_le _, HF, B2⟩
                  case round =>
                    clear B2 HF
                    obtain ⟨j, rfl, hj, HQj, HBQ⟩ := hrel
                    obtain ⟨y2, y3, y5, y6, y7, y8, y9, y10, bq⟩ := HNB.out _ HBQ.out
                    have BQ := hide bq
                    by_cases hjl : j < attrs.length
                    · have hjl2 : (j : Int) < attrs.length := by omega
                      have hq := HQj.out
                      rw [HAT.out j hjl] at hq
                      have hA2 := HAA.out.below HBQ.out
                      rcases hA2.1 with ⟨_, h0⟩ | ⟨b2, o2, cap2, e2, _, hc⟩
                      · rw [h0] at hjl; simp at hjl
                      injection e2 with e2 _ e2c
                      subst e2 e2c
                      obtain ⟨p0, p1⟩ := hc j hjl
                      have HCA := hide (HAR1.out j hjl wr.drew HBQ.out.drew)
                      have y2d : wr.drew.cell? ⟨w8.heap.size, 2, none⟩ = some (.string ⟨name.toArray⟩) := y2
                      have y3d : wr.drew.cell? ⟨w8.heap.size, 3, none⟩ = some (.slice (some ⟨b2, o2, none⟩) attrs.length qc) := y3
                      have y6d : wr.drew.cell? ⟨w.heap.size, 0, none⟩ = some (.slice ra r0 rc) := y6
                      have y7d : wr.drew.cell? ⟨w.heap.size, 1, none⟩ = some (.slice la r1 lc) := y7
                      have y8d : wr.drew.cell? ⟨w.heap.size, 2, none⟩ = some (.slice sa r2 sc') := y8
                      have y9d : wr.drew.cell? ⟨w.heap.size, 3, none⟩ = some (.slice da r3 dc) := y9
                      have y10d : wr.drew.cell? ⟨w.heap.size, 4, none⟩ = some (.int .i64 de) := y10
                      have p0d : wr.drew.cell? ⟨b2, o2 + j * 2, none⟩ = some (.string ⟨attrs[j].1.toArray⟩) := p0
                      have p1d : wr.drew.cell? ⟨b2, o2 + j * 2 + 1, none⟩ = some (.string ⟨attrs[j].2.toArray⟩) := p1
                      have BD := hide (HBQ.out.drew)
                      have BQD := hide (BQ.out.drew)
                      clear hA2 hc bq HQj
                      generalize (⟨attrs[j].1.toArray⟩ : ByteArray) = an at *
                      generalize (⟨attrs[j].2.toArray⟩ : ByteArray) = av at *
                      cases hB : attrB po name attrs[j].1 attrs[j].2
                      · rw [hB] at hq HCA
                        rw [Bool.false_and] at hq
                        subst hq
                        have hv := HV2.out
                        simp only [Bool.false_and] at hv
                        subst hv
                        go_wp2_with fail
                        go_region_law (refine step_call_enter rfl 39 #[.agg #[.slice ra r0 rc, .slice la r1 lc, .slice sa r2 sc', .slice da r3 dc, .int .i64 de], .string ⟨name.toArray⟩, .agg #[.string an, .string av]] ?_ HCA.out ?_; go_simp; intro e w3 hh; obtain ⟨rfl, b3⟩ := hh; refine ⟨_, rfl, ?_⟩; have B3 := hide b3)
                        all_goals have B4 := hide (BQD.out.trans (B3.out.mono BQD.out.size))
                        all_goals clear b3
                        all_goals go_wp2
                        all_goals go_ret
                        all_goals exact ⟨rfl, B4.out⟩
                      · rw [hB] at hq HCA
                        rw [Bool.true_and] at hq
                        have HQ2 := hide hq
                        clear hq
                        go_wp2_with fail
                        go_region_law (refine step_call_enter rfl 39 #[.agg #[.slice ra r0 rc, .slice la r1 lc, .slice sa r2 sc', .slice da r3 dc, .int .i64 de], .string ⟨name.toArray⟩, .agg #[.string an, .string av]] ?_ HCA.out ?_; go_simp; intro e w3 hh; obtain ⟨rfl, b3⟩ := hh; refine ⟨_, rfl, ?_⟩; have B3 := hide b3)
                        all_goals have B4 := hide (BD.out.trans (B3.out.mono BD.out.size))
                        all_goals clear b3
                        all_goals go_wp2
                        all_goals go_roundw
                        all_goals first | exact ⟨j + 1, by go_num, by omega, HQ2, B4⟩ | (simp [intOf]; omega)
                    · have hjl2 : ¬ (j : Int) < attrs.length := by omega
                      obtain rfl : j = attrs.length := by omega
                      have hq := HQj.out
                      rw [HAD.out] at hq
                      subst hq
                      have hv := HV2.out
                      rw [Bool.true_and] at hv
                      have HR2 := hide (HRC1.out wr HBQ.out)
                      have BW8 := hide (B8.out.trans (HBQ.out.mono B8.out.size))
                      clear bq HQj
                      cases VK
                      · rw [Bool.false_and] at hv
                        subst hv
                        go_wp2_with fail
                        refine HR2.out.mono ?_
                        rintro e w3 ⟨rfl, b3⟩
                        have B3 := hide (BQ.out.trans (b3.mono BQ.out.size))
                        clear b3
                        go_wp2
                        go_ret
                        exact ⟨rfl, B3.out⟩
                      · rw [Bool.true_and] at hv
                        have HQ2 := hide hv
                        go_wp2_with fail
                        refine HR2.out.mono ?_
                        rintro e w3 ⟨rfl, b3⟩
                        have B3 := hide (BW8.out.trans (b3.mono BW8.out.size))
                        clear b3
                        go_wp2
                        go_roundw
                        case rel => exact ⟨i + 1, false, by go_num, by omega, hide (by have h := HQ2.out; simpa using h), hide ⟨fun h => by omega, fun j h e => HNX.out j h (by omega)⟩, B3⟩
                        case measure => simp [intOf]; omega
              · have hdp2 : de < deep := by omega
                rw [decide_eq_false hdp, Bool.false_and, Bool.false_and] at hnow
                subst hnow
                go_wp2
                go_ret
                exact ⟨rfl, BB8.out⟩
            · have ht2 : text.isEmpty = false := by simp [ht]
              rw [show tagOk po ⟨1, 0, name, attrs, text⟩ = false by simp [tagOk, ht]] at hnow
              simp only [Bool.false_and, Bool.and_false] at hnow
              subst hnow
              go_wp2
              go_ret
              exact ⟨rfl, BB8.out⟩
          · have hk1b : (kd != 1) = true := by simp [hk1]
            rw [if_neg hk1, Bool.false_and] at hnow
            subst hnow
            go_wp2
            go_ret
            exact ⟨rfl, BB8.out⟩
      · have hs2 : (sp != 0) = true := by simp [hs]
        rw [HSP.out _ _ hs, Bool.false_and] at hnow
        subst hnow
        go_wp2
        go_ret
        exact ⟨rfl, BB8.out⟩
    · have hlt2 : ¬ (i : Int) < ts.length := by omega
      obtain rfl : i = ts.length := by omega
      have hnow := HQ.out
      rw [HSE.out] at hnow
      subst hnow
      obtain ⟨_, _, _, _, _, bw⟩ := HPB.out _ HBW.out
      have BW := hide bw
      clear bw HQ HPV
      go_wp2
      go_ret
      exact ⟨rfl, BW.out⟩
end Go.Proofs.YthopnliaikkhbaaGreatDoor
