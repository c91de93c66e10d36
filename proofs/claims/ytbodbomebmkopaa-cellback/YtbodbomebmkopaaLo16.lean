/- The walk of CellOnly. -/
import Derived.Test.YtbodbomebmkopaaLj16
set_option linter.unusedVariables false
set_option linter.unusedSimpArgs false
set_option maxRecDepth 40000
namespace Go.Proofs.Ytbodbomebmkopaa
open Go.RowKit

theorem xor8 (X Y : UInt8) : bits BinOp.xor IntKind.u8 (X.toNat : Int) (Y.toNat : Int) = ((X ^^^ Y).toNat : Int) := by
  have h1 : BitVec.ofInt 8 (X.toNat : Int) = X.toBitVec := by rw [BitVec.ofInt_natCast]; simp
  have h2 : BitVec.ofInt 8 (Y.toNat : Int) = Y.toBitVec := by rw [BitVec.ofInt_natCast]; simp
  have h3 : ((X ^^^ Y).toNat : Int) < 256 := by have := (X ^^^ Y).toBitVec.isLt; show ((X ^^^ Y).toBitVec.toNat : Int) < 256; omega
  show IntKind.u8.wrap ((BitVec.ofInt 8 (X.toNat : Int) ^^^ BitVec.ofInt 8 (Y.toNat : Int)).toNat : Int) = _
  rw [h1, h2]
  simp only [IntKind.wrap]
  rw [show IntKind.u8.signed = false from rfl, Bool.false_and, if_neg (by simp)]
  show ((X ^^^ Y).toNat : Int) % 256 = _
  omega
theorem xor8_zero (x z : UInt8) : x = x ^^^ z ↔ z = 0 := by
  constructor
  · intro h
    have h2 : x ^^^ x = x ^^^ (x ^^^ z) := congrArg (x ^^^ ·) h
    rw [← UInt8.xor_assoc, UInt8.xor_self, UInt8.zero_xor] at h2
    exact h2.symm
  · rintro rfl
    rw [UInt8.xor_zero]
theorem u8_is {z : Int} (h : (Lit.int .u8 z).wf = true) : ∃ Z : UInt8, z = (Z.toNat : Int) := by
  have h2 : 0 ≤ z ∧ z ≤ 255 := by
    have h1 : IntKind.u8.min ≤ z ∧ z ≤ IntKind.u8.max := by simpa [Lit.wf] using h
    have e1 : IntKind.u8.min = 0 := by decide
    have e2 : IntKind.u8.max = 255 := by decide
    rw [e1, e2] at h1
    exact h1
  exact ⟨UInt8.ofNat z.toNat, by simp; omega⟩
theorem only_set {b : Bs} {c : CL} (hd : decC b = some c) (i : Nat) (hi : i < b.length) (z : UInt8) (hz : z ≠ 0) : decC (b.set i (b[i] ^^^ z)) = none := by
  have e1 : b = b.take i ++ b[i] :: b.drop (i + 1) := by
    rw [← List.drop_eq_getElem_cons hi, List.take_append_drop]
  have e2 : b.set i (b[i] ^^^ z) = b.take i ++ (b[i] ^^^ z) :: b.drop (i + 1) := List.set_eq_take_append_cons_drop .. |>.trans (if_pos hi)
  rw [e2]
  have hd' := hd
  rw [e1] at hd'
  exact dec_one hd' (fun e => hz ((xor8_zero _ _).1 e))
/-- One byte of a row of one's own is another one. -/
theorem own_at {W : World} {B n c : Nat} {a : Option Addr} {l : Bs} (h : W.ownsRow B 5 1 (.slice a n c) n (Lib.byteCells l)) (hn : n = l.length) (i : Nat) (hi : i < l.length) (x : UInt8) :
    ∃ g, a = some ⟨g, 0, none⟩ ∧ W.cell? ⟨g, i, none⟩ = some (.int .u8 (l[i].toNat : Int)) ∧ W.frozen? ⟨g, i, none⟩ = false ∧ IsY (W.setCell ⟨g, i, none⟩ (.int .u8 (x.toNat : Int))) (.slice a n c) (l.set i x) ∧ B ≤ g := by
  subst hn
  rcases h.2 with ⟨e, h0⟩ | ⟨g, cap, cur, e, hB, _⟩
  · omega
  · injection e with e1 e2 e3
    subst e1 e3
    have hs := (h.stored i (.int .u8 (x.toNat : Int))).1
    have e4 : (Lib.byteCells l).set i (.int .u8 (x.toNat : Int)) = Lib.byteCells (l.set i x) := by
      unfold Lib.byteCells
      rw [List.map_set]
    rw [e4] at hs
    have hl : (l.set i x).length = l.length := List.length_set
    refine ⟨g, rfl, (h.cellAt i (by omega)).trans (byteCells_get l i hi), h.frozenAt i, ?_, hB⟩
    rw [← hl] at hs ⊢
    exact owns_isY hs
set_option maxHeartbeats 8000000 in
theorem cellOnly_walk (v : Value) (b : Bs) (i : Int) (hi : (Lit.int .i64 i).wf = true) (z : Int) (hz : (Lit.int .u8 z).wf = true) (w : World) (hY : IsY w v b) (hYl : b.length ≤ 9223372036854775807) :
    Calls Try.prog 8 #[v, .int .i64 i, .int .u8 z] w fun e w' => e = .returned (.bool true) ∧ Below w.heap.size w w' := by
  obtain ⟨a, c, rfl⟩ := hY.form
  obtain ⟨Z, rfl⟩ := u8_is hz
  have HAL := hide alive_any
  by_cases h3 : 300 < b.length
  · have h4 : (300 : Int) < (b.length : Int) := by omega
    clear hY hz hi
    generalize b.length = n at *
    generalize Z.toNat = zz at *
    go_enter Try.func8, Try.ntmps8
    go_wp2_with fail
    refine (HAL.out _).mono ?_
    rintro e w1 ⟨rfl, hb⟩
    have HB := hide hb
    clear hb
    go_wp2
    go_ret
    exact ⟨rfl, HB.out⟩
  · have h4 : ¬ (300 : Int) < (b.length : Int) := by omega
    have HP := hide (pdec_any _ b w hY (by omega))
    have HYB := hide (fun x (hx : Below w.heap.size w x) => hY.below hx)
    cases hd : decC b with
    | none =>
      have HP2 : Hid (Calls Try.prog 13 #[.slice a b.length c] w fun e w' => ∃ da dk, e = .returned (.tuple #[clA zeroC (.slice da 0 dk), .int .i64 8]) ∧ Below w.heap.size w w') := hide (HP.out.mono (by
        rintro e w' ⟨hb, ⟨_, da, dk, rfl⟩ | ⟨cc, da, dk, hc, _⟩⟩
        · exact ⟨da, dk, rfl, hb⟩
        · rw [hd] at hc; cases hc))
      clear HP HYB hY hz hi
      generalize b.length = n at *
      generalize Z.toNat = zz at *
      go_enter Try.func8, Try.ntmps8
      go_wp2_with fail
      refine HP2.out.mono ?_
      rintro e w1 ⟨da, dk, rfl, hb1⟩
      have HQ : Hid (∀ x, Below (clW w1 zeroC (.slice da 0 dk)).heap.size (clW w1 zeroC (.slice da 0 dk)) x → x.heap[w1.heap.size]? = some (.cells (clC zeroC (.slice da 0 dk)) 25 (0, 0)) ∧ IsC x zeroC (.slice da 0 dk) ∧ IsC x zeroC (.slice none 0 0) ∧ Below w.heap.size w x) := hide (fun x hx => by
        obtain ⟨q1, q2⟩ := cl_box w1 zeroC (.slice da 0 dk) hx
        exact ⟨q1, ⟨by decide, by decide, by decide, by decide, .inl ⟨rfl, _, _, rfl⟩⟩, ⟨by decide, by decide, by decide, by decide, .inl ⟨rfl, _, _, rfl⟩⟩, hb1.trans (q2.mono hb1.size)⟩)
      clear HP2 hb1
      go_wp2_with fail
      refine (HAL.out _).mono ?_
      rintro e w2 ⟨rfl, hb2⟩
      obtain ⟨z1, z2, z3, z4⟩ := HQ.out w2 hb2
      obtain ⟨x0, x1, x2, x3, x4⟩ := cl_cells z1
      have HS := hide (rsame_any zeroC zeroC _ _ w2 z2 z3)
      rw [sameC_iff.2 rfl] at HS
      have HB5 := hide z4
      clear z1 z2 z3 z4 hb2 HQ
      simp only [Int.natCast_zero] at x0 x1 x2 x3 x4
      go_wp2_with fail
      refine HS.out.mono ?_
      rintro e w4 ⟨rfl, hb4⟩
      have HB4 := hide (HB5.out.trans (hb4.mono HB5.out.size))
      clear hb4
      go_wp2
      go_ret
      exact ⟨rfl, HB4.out⟩
    | some cc =>
      obtain ⟨hlen, hmay, henc, hrd⟩ := enc_dec hd
      have HP2 : Hid (Calls Try.prog 13 #[.slice a b.length c] w fun e w' => ∃ da dk, e = .returned (.tuple #[clA cc (.slice da cc.data.length dk), .int .i64 0]) ∧ Below w.heap.size w w' ∧ IsC w' cc (.slice da cc.data.length dk)) := hide (HP.out.mono (by
        rintro e w' ⟨hb, ⟨hc, _⟩ | ⟨c2, da, dk, hc, rfl, hi2⟩⟩
        · rw [hd] at hc; cases hc
        · rw [hd] at hc
          cases hc
          exact ⟨da, dk, rfl, hb, hi2⟩))
      have HE : Hid (∀ x dv, IsC x cc dv → Calls Try.prog 10 #[clA cc dv] x fun e y => ∃ ea ek, e = .returned (.tuple #[.slice ea 64 ek, .int .i64 0]) ∧ Below x.heap.size x y ∧ (convert 23 9 (.slice ea 64 ek)).run Try.prog y = .ok (.string ⟨b.toArray⟩) y) := hide (fun x dv hx => (penc_any cc dv x hx (by have := hmay.2.2.2; omega)).mono (by
        rintro e y ⟨hb, ⟨hm, _⟩ | ⟨hm, ea, ek, rfl, hy⟩⟩
        · exact absurd hmay hm
        · rw [henc] at hy
          exact ⟨ea, ek, rfl, hb, conv_isYC hy⟩))
      have hlenI : (b.length : Int) = 64 := by omega
      rcases (by omega : i < 0 ∨ (¬ i < 0 ∧ (b.length : Int) ≤ i) ∨ (¬ i < 0 ∧ ¬ (b.length : Int) ≤ i)) with h5 | ⟨h5, h6⟩ | ⟨h5, h6⟩
      · clear HP hY hz hi hmay henc hrd hlen hd h3
        obtain ⟨ep, li, part, of, data⟩ := cc
        simp only [] at *
        generalize data.length = dl at *
        generalize Z.toNat = zz at *
        go_enter Try.func8, Try.ntmps8
        go_wp2_with fail
        refine HP2.out.mono ?_
        rintro e w1 ⟨da, dk, rfl, hb1, hi1⟩
        have hc1 := hi1.below (below_alloc w1 (.cells (clC ⟨ep, li, part, of, data⟩ (.slice da dl dk)) 25))
        have HE1 := hide (HE.out _ _ hc1)
        have HB1 := hide (hb1.trans ((below_alloc w1 (.cells (clC ⟨ep, li, part, of, data⟩ (.slice da dl dk)) 25)).mono hb1.size))
        clear hc1 hb1 hi1 HP2 HE
        go_wp2_with fail
        refine HE1.out.mono ?_
        rintro e w2 ⟨ea, ek, rfl, hb2, hcv⟩
        have hB2 : Below w.heap.size w w2 := HB1.out.trans (hb2.mono HB1.out.size)
        have HB2 := hide hB2
        have hcvb := conv_isYC (HYB.out w2 hB2)
        clear hb2 HE1 HB1 hB2
        go_wp2_with fail
        refine (HAL.out _).mono ?_
        rintro e w3 ⟨rfl, hb3⟩
        have HB3 := hide (HB2.out.trans (hb3.mono HB2.out.size))
        clear hb3 HB2 hcv hcvb
        go_wp2
        go_ret
        exact ⟨rfl, HB3.out⟩
      · clear HP hY hz hi hmay henc hrd hlen hd h3
        obtain ⟨ep, li, part, of, data⟩ := cc
        simp only [] at *
        generalize data.length = dl at *
        generalize Z.toNat = zz at *
        go_enter Try.func8, Try.ntmps8
        go_wp2_with fail
        refine HP2.out.mono ?_
        rintro e w1 ⟨da, dk, rfl, hb1, hi1⟩
        have hc1 := hi1.below (below_alloc w1 (.cells (clC ⟨ep, li, part, of, data⟩ (.slice da dl dk)) 25))
        have HE1 := hide (HE.out _ _ hc1)
        have HB1 := hide (hb1.trans ((below_alloc w1 (.cells (clC ⟨ep, li, part, of, data⟩ (.slice da dl dk)) 25)).mono hb1.size))
        clear hc1 hb1 hi1 HP2 HE
        go_wp2_with fail
        refine HE1.out.mono ?_
        rintro e w2 ⟨ea, ek, rfl, hb2, hcv⟩
        have hB2 : Below w.heap.size w w2 := HB1.out.trans (hb2.mono HB1.out.size)
        have HB2 := hide hB2
        have hcvb := conv_isYC (HYB.out w2 hB2)
        clear hb2 HE1 HB1 hB2
        go_wp2_with fail
        refine (HAL.out _).mono ?_
        rintro e w3 ⟨rfl, hb3⟩
        have HB3 := hide (HB2.out.trans (hb3.mono HB2.out.size))
        clear hb3 HB2 hcv hcvb
        go_wp2
        go_ret
        exact ⟨rfl, HB3.out⟩
      · by_cases hz0 : Z = 0
        · subst hz0
          have hz1 : ((0 : UInt8).toNat : Int) = 0 := rfl
          rw [hz1]
          clear HP hY hz hi hmay henc hrd hlen hd h3
          obtain ⟨ep, li, part, of, data⟩ := cc
          simp only [] at *
          generalize data.length = dl at *
          go_enter Try.func8, Try.ntmps8
          go_wp2_with fail
          refine HP2.out.mono ?_
          rintro e w1 ⟨da, dk, rfl, hb1, hi1⟩
          have hc1 := hi1.below (below_alloc w1 (.cells (clC ⟨ep, li, part, of, data⟩ (.slice da dl dk)) 25))
          have HE1 := hide (HE.out _ _ hc1)
          have HB1 := hide (hb1.trans ((below_alloc w1 (.cells (clC ⟨ep, li, part, of, data⟩ (.slice da dl dk)) 25)).mono hb1.size))
          clear hc1 hb1 hi1 HP2 HE
          go_wp2_with fail
          refine HE1.out.mono ?_
          rintro e w2 ⟨ea, ek, rfl, hb2, hcv⟩
          have hB2 : Below w.heap.size w w2 := HB1.out.trans (hb2.mono HB1.out.size)
          have HB2 := hide hB2
          have hcvb := conv_isYC (HYB.out w2 hB2)
          clear hb2 HE1 HB1 hB2
          go_wp2_with fail
          refine (HAL.out _).mono ?_
          rintro e w3 ⟨rfl, hb3⟩
          have HB3 := hide (HB2.out.trans (hb3.mono HB2.out.size))
          clear hb3 HB2 hcv hcvb
          go_wp2
          go_ret
          exact ⟨rfl, HB3.out⟩
        · obtain ⟨k, rfl⟩ : ∃ k : Nat, i = (k : Int) := ⟨i.toNat, by omega⟩
          have hk : k < b.length := by omega
          have hno := only_set hd k hk Z hz0
          have hzI : ¬ (Z.toNat : Int) = 0 := fun e => hz0 (by
            have h9 : Z.toNat = 0 := by omega
            exact UInt8.toNat_inj.1 h9)
          have hzB : ((Z.toNat : Int) == 0) = false := by simp; intro e; exact hzI (by omega)
          have hxo := xor8 b[k] Z
          have HCO := hide (fun x (hx : Below w.heap.size w x) => copyC x (.slice a b.length c) b (hY.below hx) (by omega))
          have HAT := hide (fun (x : World) B2 aa cc2 (hx : x.ownsRow B2 5 1 (.slice aa b.length cc2) b.length (Lib.byteCells b)) => own_at hx rfl k hk (b[k] ^^^ Z))
          have HDN : Hid (∀ x u, IsY x u (b.set k (b[k] ^^^ Z)) → Calls Try.prog 13 #[u] x fun e y => ∃ da dk, e = .returned (.tuple #[clA zeroC (.slice da 0 dk), .int .i64 8]) ∧ Below x.heap.size x y) := hide (fun x u hu => (pdec_any u _ x hu (by rw [List.length_set]; omega)).mono (by
            rintro e w' ⟨hb, ⟨_, da, dk, rfl⟩ | ⟨c2, da, dk, hc, _⟩⟩
            · exact ⟨da, dk, rfl, hb⟩
            · rw [hno] at hc; cases hc))
          have hkI : (k : Int) < (b.length : Int) := by omega
          generalize hbk : b[k] = bk at *
          generalize hbz : (bk ^^^ Z) = bz at *
          clear hbk hno hz0 hk
          clear HP hY hz hi hmay henc hrd hlen hd h3
          obtain ⟨ep, li, part, of, data⟩ := cc
          simp only [] at *
          generalize data.length = dl at *
          generalize hzz : Z.toNat = zz at *
          clear hbz
          go_enter Try.func8, Try.ntmps8
          go_wp2_with fail
          refine HP2.out.mono ?_
          rintro e w1 ⟨da, dk, rfl, hb1, hi1⟩
          have hc1 := hi1.below (below_alloc w1 (.cells (clC ⟨ep, li, part, of, data⟩ (.slice da dl dk)) 25))
          have HE1 := hide (HE.out _ _ hc1)
          have HB1 := hide (hb1.trans ((below_alloc w1 (.cells (clC ⟨ep, li, part, of, data⟩ (.slice da dl dk)) 25)).mono hb1.size))
          clear hc1 hb1 hi1 HP2 HE
          go_wp2_with fail
          refine HE1.out.mono ?_
          rintro e w2 ⟨ea, ek, rfl, hb2, hcv⟩
          have hB2 : Below w.heap.size w w2 := HB1.out.trans (hb2.mono HB1.out.size)
          have HB2 := hide hB2
          have hcvb := conv_isYC (HYB.out w2 hB2)
          clear hb2 HE1 HB1 hB2
          obtain ⟨ya, yk, w3, hr, ho, hb3⟩ := HCO.out w2 HB2.out
          obtain ⟨g, rfl, hcell, hfro, hyy, hBg⟩ := HAT.out w3 w2.heap.size ya yk ho
          have HDN2 := hide (HDN.out _ _ hyy)
          have HB3 := hide ((HB2.out.trans (hb3.mono HB2.out.size)).setCell (p := ⟨g, k, none⟩) (Nat.le_trans HB2.out.size hBg) (.int .u8 (bz.toNat : Int)))
          have HRUN := hide hr
          clear hr ho hb3 hyy hBg HCO HAT HDN HB2
          go_wp2_with (at_builtin; refine wpList_append_run rfl _ _ 23 rfl _ _ _ _ rfl rfl HRUN.out ?_)
          refine HDN2.out.mono ?_
          rintro e w4 ⟨za, zk, rfl, hb4⟩
          have HB4 := hide (fun o => (HB3.out.trans (hb4.mono HB3.out.size)).trans ((below_alloc w4 o).mono (HB3.out.trans (hb4.mono HB3.out.size)).size))
          clear hb4 HDN2 HB3 HRUN hcell hfro hcv hcvb hxo
          go_wp2_with fail
          refine (HAL.out _).mono ?_
          rintro e w5 ⟨rfl, hb5⟩
          have HB5 := hide ((HB4.out _).trans (hb5.mono (HB4.out _).size))
          clear hb5 HB4
          go_wp2
          go_ret
          exact ⟨rfl, HB5.out⟩
end Go.Proofs.Ytbodbomebmkopaa
