/- The walk of CellBack. -/
import Derived.Test.YtbodbomebmkopaaLo16
set_option linter.unusedVariables false
set_option linter.unusedSimpArgs false
set_option maxRecDepth 40000
namespace Go.Proofs.Ytbodbomebmkopaa
open Go.RowKit

/-- A cell with bytes of a block of its own is put behind the others. -/
theorem CutS.push {w x : World} {vs : List (CL × Value)} {v : Value} (h : CutS w vs v x) (hn : vs.length ≤ 1000000) (c : CL) (a : Option Addr) (n k : Nat) (hc : IsC x c (.slice a n k)) (hk : ∀ j, (Value.slice a n k).ownBlock = some j → j < x.heap.size ∧ v.ownBlock ≠ some j) :
    ∃ a' c' w', (Builtin.append_ #[36, 36] 36 #[v, .slice (some ⟨x.heap.size, 0, none⟩) 1 1]).run Try.prog (x.alloc (.cells (clC c (.slice a n k)) 25)) = .ok (.slice a' (vs.length + 1) c') w' ∧ CutS w (vs ++ [(c, .slice a n k)]) (.slice a' (vs.length + 1) c') w' := by
  obtain ⟨a', c', w', r2, o2, hg, hat⟩ := append_cell x w.heap.size vs.length v vs c a n k h.o hn h.b.size
  have hal := below_alloc x (.cells (clC c (.slice a n k)) 25)
  have hvl : ∀ j, v.ownBlock = some j → j < x.heap.size := fun j hj => (h.o.lt j hj).2
  have hkeep : ∀ j, j < x.heap.size → v.ownBlock ≠ some j → w'.heap[j]? = x.heap[j]? := fun j hj hne => (hg.block j (Nat.lt_of_lt_of_le hj hal.size) (fun e => hne e.symm)).trans (hal.block j hj)
  have hsz : x.heap.size ≤ w'.heap.size := Nat.le_trans hal.size hg.size
  have hbw : Below w.heap.size w w' := h.b.trans ⟨hg.os, hg.tape, hg.output, hsz, fun j hj => hkeep j (Nat.lt_of_lt_of_le hj h.b.size) (fun e => by have := (h.o.lt j e).1; omega)⟩
  refine ⟨a', c', w', r2, ⟨by rw [List.length_append]; exact o2, fun y hy => ?_, fun j hj y hy => ?_, fun y hy j hj => ?_, hbw⟩⟩
  · rcases List.mem_append.1 hy with hy | hy
    · have hh := h.c y hy
      exact ⟨hh.ep, hh.li, hh.part, hh.of, isY_keepC hh.d fun j hj => hkeep j (h.l y hy j hj) (fun e => h.s j e y hy hj)⟩
    · obtain rfl := List.mem_singleton.1 hy
      exact ⟨hc.ep, hc.li, hc.part, hc.of, isY_keepC hc.d fun j hj => hkeep j (hk j hj).1 (hk j hj).2⟩
  · rcases hat with e | e
    · have hj2 := e.symm.trans hj
      rcases List.mem_append.1 hy with hy | hy
      · exact h.s j hj2 y hy
      · obtain rfl := List.mem_singleton.1 hy
        intro e2
        exact (hk j e2).2 hj2
    · rw [e] at hj
      cases hj
      rcases List.mem_append.1 hy with hy | hy
      · intro e2
        have := h.l y hy _ e2
        omega
      · obtain rfl := List.mem_singleton.1 hy
        intro e2
        have := (hk _ e2).1
        omega
  · rcases List.mem_append.1 hy with hy | hy
    · exact Nat.lt_of_lt_of_le (h.l y hy j hj) hsz
    · obtain rfl := List.mem_singleton.1 hy
      exact Nat.lt_of_lt_of_le (hk j hj).1 hsz
/-- There and back: one cell, encoded and decoded by the program. -/
theorem back_one (c : CL) (hm : mayC c) (dv : Value) (w : World) (hC : IsC w c dv) : Calls Try.prog 10 #[clA c dv] w fun e x => ∃ ea ek, e = .returned (.tuple #[.slice ea 64 ek, .int .i64 0]) ∧ Hid (Below w.heap.size w x) ∧ Hid (Calls Try.prog 13 #[.slice ea 64 ek] x fun e y => ∃ da dk, e = .returned (.tuple #[clA c (.slice da c.data.length dk), .int .i64 0]) ∧ Hid (Below w.heap.size w y) ∧ Hid (IsC y c (.slice da c.data.length dk)) ∧ Hid (∀ k, (Value.slice da c.data.length dk).ownBlock = some k → w.heap.size ≤ k ∧ k < y.heap.size)) := by
  refine (penc_new c dv w hC (by have := hm.2.2.2; omega)).mono ?_
  rintro e x ⟨⟨hb, ⟨hn, _⟩ | ⟨_, ea, ek, rfl, hy⟩⟩, hnew⟩
  · exact absurd hm hn
  have hV := hnew _ _ rfl
  refine ⟨ea, ek, rfl, hide hb, hide ((pdec_new _ _ x hy (by rw [enc_len c hm.2.2.2]; decide)).mono ?_)⟩
  rintro e y ⟨⟨hb2, ⟨hd, _⟩ | ⟨c2, da, dk, hd, rfl, hc2⟩⟩, hold⟩
  · rw [dec_enc c hm hC.ep hC.li] at hd; cases hd
  · rw [dec_enc c hm hC.ep hC.li] at hd
    cases hd
    refine ⟨da, dk, rfl, hide (hb.trans (hb2.mono hb.size)), hide hc2, hide fun k hk => ?_⟩
    rcases hold _ _ _ rfl k hk with h1 | h1
    · have := hb.size
      omega
    · have h2 := hV k h1
      have := hb2.size
      omega
set_option maxHeartbeats 8000000 in
theorem cellBack_walk (c : CL) (dv : Value) (v : Value) (b : Bs) (w : World) (hC : IsC w c dv) (hCl : c.data.length ≤ 9223372036854775807) (hY : IsY w v b) (hYl : b.length ≤ 9223372036854775807) :
    Calls Try.prog 7 #[clA c dv, v] w fun e w' => e = .returned (.bool true) ∧ Below w.heap.size w w' := by
  have HAL := hide alive_any
  obtain ⟨ba, bc, rfl⟩ := hY.form
  by_cases h3 : 300 < c.data.length ∨ 300 < b.length
  · obtain ⟨a, k, rfl⟩ := hC.d.form
    rcases (by omega : (300 : Int) < (c.data.length : Int) ∨ (¬ (300 : Int) < (c.data.length : Int) ∧ (300 : Int) < (b.length : Int))) with h4 | ⟨h4, h5⟩
    all_goals
      obtain ⟨ep, li, part, of, data⟩ := c
      simp only [] at *
      clear hC hY h3
      have BB := hide (below_alloc w)
      generalize data.length = n at *
      generalize b.length = m at *
      go_enter Try.func7, Try.ntmps7
      go_wp2_with fail
      refine (HAL.out _).mono ?_
      rintro e w1 ⟨rfl, hb⟩
      have HB := hide ((BB.out _).trans (hb.mono (BB.out _).size))
      clear hb
      go_wp2
      go_ret
      exact ⟨rfl, HB.out⟩
  · have h4 : ¬ (300 : Int) < (c.data.length : Int) := by omega
    have h5 : ¬ (300 : Int) < (b.length : Int) := by omega
    have hep := hC.ep
    have hli := hC.li
    have HBX := hide (fun x (hx : Below (clW w c dv).heap.size (clW w c dv) x) => And.intro (cl_cells (cl_box w c dv hx).1) (And.intro (cl_box w c dv hx).2 (hC.below (cl_box w c dv hx).2)))
    have HCU : Hid (∀ x, Below w.heap.size w x → Calls Try.prog 16 #[.slice ba b.length bc, .int .u64 (c.ep : Int), .int .u64 (c.li : Int)] x fun e y => ∃ va vc vs, e = .returned (.slice va (cutC b c.ep c.li).length vc) ∧ Hid (Below x.heap.size x y) ∧ Hid (IsL y (.slice va (cutC b c.ep c.li).length vc) vs ∧ vs.map Prod.fst = cutC b c.ep c.li)) := hide (fun x hx => (pcut_any _ b c.ep c.li x (hY.below hx) (by omega) hep hli).mono (by
      rintro e y ⟨u, vs, rfl, hI, hm, hb⟩
      obtain ⟨va, vc, rfl⟩ := hI.form
      have hlen := vs_len hm
      rw [hlen] at hI ⊢
      exact ⟨va, vc, vs, rfl, hide hb, hide ⟨hI, hm⟩⟩))
    have HMY := hide (cut_may b c.ep c.li)
    have HJN : Hid ((joinC (cutC b c.ep c.li)).isSome = decide (0 < b.length) ∧ (joinC (cutC b c.ep c.li)).getD [] = b) := hide (by
      rw [cut_join b c.ep c.li (by omega)]
      by_cases hb0 : b = []
      · subst hb0
        exact ⟨rfl, rfl⟩
      · rw [if_neg hb0]
        have : 0 < b.length := List.length_pos_iff.2 hb0
        exact ⟨by rw [decide_eq_true this]; rfl, rfl⟩)
    have HKL := hide (cut_len b c.ep c.li)
    have HDA : Hid (∀ x ∈ cutC b c.ep c.li, x.data.length ≤ 39) := hide (fun x hx => (cut_may b c.ep c.li x hx).1.2.2.2)
    have HYB := hide (fun x (hx : Below w.heap.size w x) => hY.below hx)
    have hIC := hC.below (below_alloc w (.cells (clC c dv) 25))
    have hB0 : Below w.heap.size w (clW w c dv) := below_alloc w _
    by_cases hm : mayC c
    · have HE := hide (back_one c hm dv (clW w c dv) hIC)
      obtain ⟨da, dk, rfl⟩ := hC.d.form
      have hdl : c.data.length ≤ 39 := hm.2.2.2
      clear hC hY hIC h3 hm
      obtain ⟨ep, li, part, of, data⟩ := c
      simp only [] at *
      obtain ⟨CC, hCC⟩ : ∃ CC, cutC b ep li = CC := ⟨_, rfl⟩
      rw [hCC] at HCU HMY HJN HKL HDA
      clear hCC
      generalize data.length = n at *
      generalize hbl : b.length = m at *
      clear hbl
      have HB0 := hide hB0
      clear hB0
      go_enter Try.func7, Try.ntmps7
      go_wp2_with fail
      refine HE.out.mono ?_
      rintro e w1 ⟨ea, ek, rfl, HB1, HD1⟩
      clear HE
      go_wp2_with fail
      refine HD1.out.mono ?_
      rintro e w2 ⟨ca, ck, rfl, HB2, HI2, HN2⟩
      have HQ : Hid (∀ x, Below (clW w2 ⟨ep, li, part, of, data⟩ (.slice ca n ck)).heap.size (clW w2 ⟨ep, li, part, of, data⟩ (.slice ca n ck)) x → x.heap[w2.heap.size]? = some (.cells (clC ⟨ep, li, part, of, data⟩ (.slice ca n ck)) 25 (0, 0)) ∧ Below w2.heap.size w2 x) := hide (fun x hx => cl_box w2 _ _ hx)
      have hq := HQ.out _ (Below.refl _ _)
      have hbx := HBX.out _ (HB2.out.trans (hq.2.mono HB2.out.size))
      obtain ⟨⟨p0, p1, p2, p3, p4⟩, hbw, hic⟩ := hbx
      obtain ⟨q0, q1, q2, q3, q4⟩ := cl_cells hq.1
      have HS := hide (rsame_any ⟨ep, li, part, of, data⟩ ⟨ep, li, part, of, data⟩ _ _ _ hic (HI2.out.below hq.2))
      rw [sameC_iff.2 rfl] at HS
      simp only [] at p0 p1 p2 p3 p4 q0 q1 q2 q3 q4
      have HB3 := hide (HB2.out.trans (hq.2.mono HB2.out.size))
      clear HD1 HB1 HB2 HI2 HN2 HQ hq hbw hic
      go_wp2_with fail
      refine HS.out.mono ?_
      rintro e w3 ⟨rfl, hb3⟩
      have HB4 := hide (HB3.out.trans (hb3.mono HB3.out.size))
      clear HS HB3 hb3 p0 p1 p2 p3 p4 q0 q1 q2 q3 q4
      obtain ⟨⟨p0, p1, p2, p3, p4⟩, hbw, hic⟩ := HBX.out _ HB4.out
      try simp only [] at p0 p1 p2 p3 p4
      have HC3 := hide (HCU.out w3 hbw)
      have HBW := hide hbw
      clear hbw hic HCU HB4
      go_wp2_with fail
      refine HC3.out.mono ?_
      rintro e w4 ⟨va, vc, us, rfl, HB5, HV⟩
      clear HC3 p0 p1 p2 p3 p4
      have HBW4 := hide (HBW.out.trans (HB5.out.mono HBW.out.size))
      have HA : Hid (∀ i, i < CC.length → ∃ vb vo cc ua un uk, va = some ⟨vb, vo, none⟩ ∧ (∀ x, Below w4.heap.size w4 x → (x.cell? ⟨vb, vo + i * 5, none⟩ = some (.int .u64 (cc.ep : Int)) ∧ x.cell? ⟨vb, vo + i * 5 + 1, none⟩ = some (.int .u64 (cc.li : Int)) ∧ x.cell? ⟨vb, vo + i * 5 + 2, none⟩ = some (.int .i64 cc.part) ∧ x.cell? ⟨vb, vo + i * 5 + 3, none⟩ = some (.int .i64 cc.of) ∧ x.cell? ⟨vb, vo + i * 5 + 4, none⟩ = some (.slice ua un uk)) ∧ IsC x cc (.slice ua un uk)) ∧ mayC cc ∧ CC.take (i + 1) = CC.take i ++ [cc]) := hide (fun i hi => by
        obtain ⟨hI, hmm⟩ := HV.out
        have hul := vs_len hmm
        obtain ⟨vb, vo, e1, hc1, hi1⟩ := hI.at_ i (by omega)
        obtain ⟨ua, uk, hu⟩ := hi1.d.form
        have hcc : us[i].1 = CC[i] := by
          have h9 := congrArg (fun l : List CL => l[i]?) hmm
          simp only [List.getElem?_map, List.getElem?_eq_getElem (show i < us.length by omega), List.getElem?_eq_getElem hi] at h9
          simpa using h9
        rw [hu] at hi1
        refine ⟨vb, vo, us[i].1, ua, _, uk, e1, fun x hx => ⟨?_, hi1.below hx⟩, ?_, ?_⟩
        · have h8 := hc1 x hx
          rw [hu] at h8
          exact h8
        · rw [hcc]; exact (HMY.out _ (List.getElem_mem hi)).1
        · rw [hcc, List.take_succ_eq_append_getElem hi])
      have HS0 : Hid (∃ vs, CutS w4 vs (.slice none 0 0) w4 ∧ vs.length = 0 ∧ vs.map Prod.fst = CC.take 0) := hide ⟨[], ⟨World.ownsRow_nil _ _ _ _, fun y hy => (by cases hy), fun k hk => (by cases hk), fun y hy => (by cases hy), Below.refl _ _⟩, rfl, rfl⟩
      have hKL : CC.length ≤ 300 := Nat.le_trans HKL.out (by omega)
      have HTL : Hid (CC.take CC.length = CC) := hide (List.take_length ..)
      clear HV HMY HB5 HBW HBX HB0 HKL
      generalize hKK : CC.length = K at *
      clear hKK
      go_wp2
      go_loopw [9, 11] (fun vl vi wr => ∃ (i : Nat) (xa : Option Addr) (xc : Nat), vi = .int .i64 (i : Int) ∧ i ≤ K ∧ vl = .slice xa i xc ∧ Hid (∃ vs, CutS w4 vs (.slice xa i xc) wr ∧ vs.length = i ∧ vs.map Prod.fst = CC.take i)) (fun _ vi _ => K - (intOf vi).toNat)
      case atStart => exact ⟨0, none, 0, rfl, Nat.zero_le _, rfl, HS0⟩
      case round =>
        clear HS0
        obtain ⟨i, xa, xc, rfl, hi, rfl, HCS⟩ := hrel
        by_cases hlt : i < K
        · have hlt2 : (i : Int) < K := by omega
          obtain ⟨vb, vo, cc, ua, un, uk, rfl, hcx, hmay, htk⟩ := HA.out i hlt
          obtain ⟨vs, hcs, hvl, hvm⟩ := HCS.out
          obtain ⟨⟨x0, x1, x2, x3, x4⟩, hicc⟩ := hcx wr hcs.b
          have HE := hide (back_one cc hmay _ wr hicc)
          have HPS : Hid (∀ y da dk, Below wr.heap.size wr y → IsC y cc (.slice da cc.data.length dk) → (∀ k, (Value.slice da cc.data.length dk).ownBlock = some k → wr.heap.size ≤ k ∧ k < y.heap.size) → ∃ a' c' w', (Builtin.append_ #[36, 36] 36 #[.slice xa i xc, .slice (some ⟨y.heap.size + 1, 0, none⟩) 1 1]).run Try.prog ((clW y cc (.slice da cc.data.length dk)).alloc (.cells (clC cc (.slice da cc.data.length dk)) 25)) = .ok (.slice a' (i + 1) c') w' ∧ Hid (∃ vs, CutS w4 vs (.slice a' (i + 1) c') w' ∧ vs.length = i + 1 ∧ vs.map Prod.fst = CC.take (i + 1))) := hide (fun y da dk hb hic hnw => by
            have hba := below_alloc y (.cells (clC cc (.slice da cc.data.length dk)) 25)
            have hcs2 := hcs.below (hb.trans (hba.mono hb.size))
            obtain ⟨a', c', w', r, hs⟩ := hcs2.push (by omega) cc da _ dk (hic.below hba) (fun j hj => ⟨Nat.lt_of_lt_of_le (hnw j hj).2 hba.size, fun e => by have h7 := (hcs.o.lt j e).2; have h8 := (hnw j hj).1; omega⟩)
            have hsy : (clW y cc (.slice da cc.data.length dk)).heap.size = y.heap.size + 1 := by simp
            rw [hsy] at r
            rw [hvl] at r hs
            exact ⟨a', c', w', r, hide ⟨_, hs, by rw [List.length_append, hvl]; rfl, by rw [List.map_append, hvm, htk]; rfl⟩⟩)
          clear hcx hmay htk hcs hvl hvm hicc HCS
          obtain ⟨cep, cli, cpart, cof, cdata⟩ := cc
          try simp only [] at *
          generalize cdata.length = cn at *
          go_wp2_with fail
          refine HE.out.mono ?_
          rintro e y1 ⟨ea2, ek2, rfl, HY1, HD2⟩
          clear HE x0 x1 x2 x3 x4
          go_wp2_with fail
          refine HD2.out.mono ?_
          rintro e y2 ⟨za, zk, rfl, HY2, HZ2, HN2⟩
          obtain ⟨a', c', w', hr, HS2⟩ := HPS.out y2 za zk HY2.out HZ2.out HN2.out
          have HRUN := hide hr
          clear hr HD2 HY1 HY2 HZ2 HN2 HPS
          go_wp2_with (at_builtin; refine wpList_append_run rfl _ _ 36 rfl _ _ _ _ rfl rfl HRUN.out ?_)
          go_roundw
          case rel => exact ⟨i + 1, a', c', by go_num, by omega, rfl, HS2⟩
          case measure => simp [intOf]; omega
        · have hlt2 : ¬ (i : Int) < K := by omega
          obtain rfl : i = K := by omega
          obtain ⟨vs, hcs, hvl, hvm⟩ := HCS.out
          rw [HTL.out] at hvm
          have hoo := hcs.o
          have hdt : ∀ y ∈ vs, y.1.data.length ≤ 1000 := fun y hy => by
            have h9 : y.1 ∈ CC := by rw [← hvm]; exact List.mem_map_of_mem hy
            have := HDA.out _ h9
            omega
          have HJ := hide (pjoin_any _ vs wr (owns_isL hoo hcs.c) (by omega) hdt)
          rw [hvm] at HJ
          have HBR := hide (HBW4.out.trans (hcs.b.mono HBW4.out.size))
          clear hoo hdt hcs hvl hvm HCS HA HTL HDA HBW4
          go_wp2_with fail
          refine HJ.out.mono ?_
          intro e y1 hp
          obtain ⟨ja, jn, jk, rfl, hjy, hjb⟩ := pjoin_told hp
          rw [HJN.out.1]
          rw [HJN.out.2] at hjy
          have HJY := hide hjy
          have HJB := hide (HBR.out.trans (hjb.mono HBR.out.size))
          clear hp hjy hjb HJ HBR HJN
          go_wp2_with fail
          refine (HAL.out _).mono ?_
          rintro e y2 ⟨rfl, hb2⟩
          have HB9 := hide (HJB.out.trans (hb2.mono HJB.out.size))
          have hcv1 := conv_isYC (HJY.out.below hb2)
          have hcv2 := conv_isYC (HYB.out y2 HB9.out)
          clear hb2 HJB HJY HYB
          by_cases h0 : 0 < m
          · have h0I : (0 : Int) < (m : Int) := by omega
            rw [decide_eq_true h0]
            go_wp2
            go_ret
            exact ⟨rfl, HB9.out⟩
          · have h0I : ¬ (0 : Int) < (m : Int) := by omega
            rw [decide_eq_false h0]
            go_wp2
            go_ret
            exact ⟨rfl, HB9.out⟩
    · have HE := hide (penc_any c dv (clW w c dv) hIC (by omega))
      have HE2 : Hid (Calls Try.prog 10 #[clA c dv] (clW w c dv) fun e y => ∃ ea ek, e = .returned (.tuple #[.slice ea 0 ek, .int .i64 1]) ∧ Hid (Below (clW w c dv).heap.size (clW w c dv) y)) := hide (HE.out.mono (by
        rintro e y ⟨hb, ⟨_, ea, ek, rfl⟩ | ⟨h9, _⟩⟩
        · exact ⟨ea, ek, rfl, hide hb⟩
        · exact absurd h9 hm))
      obtain ⟨da, dk, rfl⟩ := hC.d.form
      clear hC hY hIC h3 hm HE
      obtain ⟨ep, li, part, of, data⟩ := c
      simp only [] at *
      obtain ⟨CC, hCC⟩ : ∃ CC, cutC b ep li = CC := ⟨_, rfl⟩
      rw [hCC] at HCU HMY HJN HKL HDA
      clear hCC
      generalize data.length = n at *
      generalize hbl : b.length = m at *
      clear hbl
      have HB0 := hide hB0
      clear hB0
      go_enter Try.func7, Try.ntmps7
      go_wp2_with fail
      refine HE2.out.mono ?_
      rintro e w3 ⟨ea, ek, rfl, HB4⟩
      clear HE2
      obtain ⟨⟨p0, p1, p2, p3, p4⟩, hbw, hic⟩ := HBX.out _ HB4.out
      try simp only [] at p0 p1 p2 p3 p4
      have HC3 := hide (HCU.out w3 hbw)
      have HBW := hide hbw
      clear hbw hic HCU HB4
      go_wp2_with fail
      refine HC3.out.mono ?_
      rintro e w4 ⟨va, vc, us, rfl, HB5, HV⟩
      clear HC3 p0 p1 p2 p3 p4
      have HBW4 := hide (HBW.out.trans (HB5.out.mono HBW.out.size))
      have HA : Hid (∀ i, i < CC.length → ∃ vb vo cc ua un uk, va = some ⟨vb, vo, none⟩ ∧ (∀ x, Below w4.heap.size w4 x → (x.cell? ⟨vb, vo + i * 5, none⟩ = some (.int .u64 (cc.ep : Int)) ∧ x.cell? ⟨vb, vo + i * 5 + 1, none⟩ = some (.int .u64 (cc.li : Int)) ∧ x.cell? ⟨vb, vo + i * 5 + 2, none⟩ = some (.int .i64 cc.part) ∧ x.cell? ⟨vb, vo + i * 5 + 3, none⟩ = some (.int .i64 cc.of) ∧ x.cell? ⟨vb, vo + i * 5 + 4, none⟩ = some (.slice ua un uk)) ∧ IsC x cc (.slice ua un uk)) ∧ mayC cc ∧ CC.take (i + 1) = CC.take i ++ [cc]) := hide (fun i hi => by
        obtain ⟨hI, hmm⟩ := HV.out
        have hul := vs_len hmm
        obtain ⟨vb, vo, e1, hc1, hi1⟩ := hI.at_ i (by omega)
        obtain ⟨ua, uk, hu⟩ := hi1.d.form
        have hcc : us[i].1 = CC[i] := by
          have h9 := congrArg (fun l : List CL => l[i]?) hmm
          simp only [List.getElem?_map, List.getElem?_eq_getElem (show i < us.length by omega), List.getElem?_eq_getElem hi] at h9
          simpa using h9
        rw [hu] at hi1
        refine ⟨vb, vo, us[i].1, ua, _, uk, e1, fun x hx => ⟨?_, hi1.below hx⟩, ?_, ?_⟩
        · have h8 := hc1 x hx
          rw [hu] at h8
          exact h8
        · rw [hcc]; exact (HMY.out _ (List.getElem_mem hi)).1
        · rw [hcc, List.take_succ_eq_append_getElem hi])
      have HS0 : Hid (∃ vs, CutS w4 vs (.slice none 0 0) w4 ∧ vs.length = 0 ∧ vs.map Prod.fst = CC.take 0) := hide ⟨[], ⟨World.ownsRow_nil _ _ _ _, fun y hy => (by cases hy), fun k hk => (by cases hk), fun y hy => (by cases hy), Below.refl _ _⟩, rfl, rfl⟩
      have hKL : CC.length ≤ 300 := Nat.le_trans HKL.out (by omega)
      have HTL : Hid (CC.take CC.length = CC) := hide (List.take_length ..)
      clear HV HMY HB5 HBW HBX HB0 HKL
      generalize hKK : CC.length = K at *
      clear hKK
      go_wp2
      go_loopw [9, 11] (fun vl vi wr => ∃ (i : Nat) (xa : Option Addr) (xc : Nat), vi = .int .i64 (i : Int) ∧ i ≤ K ∧ vl = .slice xa i xc ∧ Hid (∃ vs, CutS w4 vs (.slice xa i xc) wr ∧ vs.length = i ∧ vs.map Prod.fst = CC.take i)) (fun _ vi _ => K - (intOf vi).toNat)
      case atStart => exact ⟨0, none, 0, rfl, Nat.zero_le _, rfl, HS0⟩
      case round =>
        clear HS0
        obtain ⟨i, xa, xc, rfl, hi, rfl, HCS⟩ := hrel
        by_cases hlt : i < K
        · have hlt2 : (i : Int) < K := by omega
          obtain ⟨vb, vo, cc, ua, un, uk, rfl, hcx, hmay, htk⟩ := HA.out i hlt
          obtain ⟨vs, hcs, hvl, hvm⟩ := HCS.out
          obtain ⟨⟨x0, x1, x2, x3, x4⟩, hicc⟩ := hcx wr hcs.b
          have HE := hide (back_one cc hmay _ wr hicc)
          have HPS : Hid (∀ y da dk, Below wr.heap.size wr y → IsC y cc (.slice da cc.data.length dk) → (∀ k, (Value.slice da cc.data.length dk).ownBlock = some k → wr.heap.size ≤ k ∧ k < y.heap.size) → ∃ a' c' w', (Builtin.append_ #[36, 36] 36 #[.slice xa i xc, .slice (some ⟨y.heap.size + 1, 0, none⟩) 1 1]).run Try.prog ((clW y cc (.slice da cc.data.length dk)).alloc (.cells (clC cc (.slice da cc.data.length dk)) 25)) = .ok (.slice a' (i + 1) c') w' ∧ Hid (∃ vs, CutS w4 vs (.slice a' (i + 1) c') w' ∧ vs.length = i + 1 ∧ vs.map Prod.fst = CC.take (i + 1))) := hide (fun y da dk hb hic hnw => by
            have hba := below_alloc y (.cells (clC cc (.slice da cc.data.length dk)) 25)
            have hcs2 := hcs.below (hb.trans (hba.mono hb.size))
            obtain ⟨a', c', w', r, hs⟩ := hcs2.push (by omega) cc da _ dk (hic.below hba) (fun j hj => ⟨Nat.lt_of_lt_of_le (hnw j hj).2 hba.size, fun e => by have h7 := (hcs.o.lt j e).2; have h8 := (hnw j hj).1; omega⟩)
            have hsy : (clW y cc (.slice da cc.data.length dk)).heap.size = y.heap.size + 1 := by simp
            rw [hsy] at r
            rw [hvl] at r hs
            exact ⟨a', c', w', r, hide ⟨_, hs, by rw [List.length_append, hvl]; rfl, by rw [List.map_append, hvm, htk]; rfl⟩⟩)
          clear hcx hmay htk hcs hvl hvm hicc HCS
          obtain ⟨cep, cli, cpart, cof, cdata⟩ := cc
          try simp only [] at *
          generalize cdata.length = cn at *
          go_wp2_with fail
          refine HE.out.mono ?_
          rintro e y1 ⟨ea2, ek2, rfl, HY1, HD2⟩
          clear HE x0 x1 x2 x3 x4
          go_wp2_with fail
          refine HD2.out.mono ?_
          rintro e y2 ⟨za, zk, rfl, HY2, HZ2, HN2⟩
          obtain ⟨a', c', w', hr, HS2⟩ := HPS.out y2 za zk HY2.out HZ2.out HN2.out
          have HRUN := hide hr
          clear hr HD2 HY1 HY2 HZ2 HN2 HPS
          go_wp2_with (at_builtin; refine wpList_append_run rfl _ _ 36 rfl _ _ _ _ rfl rfl HRUN.out ?_)
          go_roundw
          case rel => exact ⟨i + 1, a', c', by go_num, by omega, rfl, HS2⟩
          case measure => simp [intOf]; omega
        · have hlt2 : ¬ (i : Int) < K := by omega
          obtain rfl : i = K := by omega
          obtain ⟨vs, hcs, hvl, hvm⟩ := HCS.out
          rw [HTL.out] at hvm
          have hoo := hcs.o
          have hdt : ∀ y ∈ vs, y.1.data.length ≤ 1000 := fun y hy => by
            have h9 : y.1 ∈ CC := by rw [← hvm]; exact List.mem_map_of_mem hy
            have := HDA.out _ h9
            omega
          have HJ := hide (pjoin_any _ vs wr (owns_isL hoo hcs.c) (by omega) hdt)
          rw [hvm] at HJ
          have HBR := hide (HBW4.out.trans (hcs.b.mono HBW4.out.size))
          clear hoo hdt hcs hvl hvm HCS HA HTL HDA HBW4
          go_wp2_with fail
          refine HJ.out.mono ?_
          intro e y1 hp
          obtain ⟨ja, jn, jk, rfl, hjy, hjb⟩ := pjoin_told hp
          rw [HJN.out.1]
          rw [HJN.out.2] at hjy
          have HJY := hide hjy
          have HJB := hide (HBR.out.trans (hjb.mono HBR.out.size))
          clear hp hjy hjb HJ HBR HJN
          go_wp2_with fail
          refine (HAL.out _).mono ?_
          rintro e y2 ⟨rfl, hb2⟩
          have HB9 := hide (HJB.out.trans (hb2.mono HJB.out.size))
          have hcv1 := conv_isYC (HJY.out.below hb2)
          have hcv2 := conv_isYC (HYB.out y2 HB9.out)
          clear hb2 HJB HJY HYB
          by_cases h0 : 0 < m
          · have h0I : (0 : Int) < (m : Int) := by omega
            rw [decide_eq_true h0]
            go_wp2
            go_ret
            exact ⟨rfl, HB9.out⟩
          · have h0I : ¬ (0 : Int) < (m : Int) := by omega
            rw [decide_eq_false h0]
            go_wp2
            go_ret
            exact ⟨rfl, HB9.out⟩
end Go.Proofs.Ytbodbomebmkopaa
