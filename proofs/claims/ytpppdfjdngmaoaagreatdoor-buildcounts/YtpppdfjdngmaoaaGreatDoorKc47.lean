import Derived.Test.YtpppdfjdngmaoaaGreatDoorKc44
import Derived.Test.YtpppdfjdngmaoaaGreatDoorKc45
import Derived.Test.YtpppdfjdngmaoaaGreatDoorKc46
set_option linter.unusedVariables false
set_option linter.unusedSimpArgs false
set_option maxRecDepth 100000
set_option maxHeartbeats 8000000
namespace Go.Proofs.YtpppdfjdngmaoaaGreatDoor
open Go.RowKit
open G5 (NT IsK hide)
theorem ref_same {k j : Nat} (ts : List (NT k)) (us : List (NT j)) (h1 : ts.length ≤ 9223372036854775807) (h2 : us.length ≤ 9223372036854775807) (o1 : G5.OkTs ts) (o2 : G5.OkTs us) (B : Nat → Prop) (va vb : Value) (w : World) (hB : ∀ k, B k → k < w.heap.size) (hK : IsK B w ts va) (hK2 : IsK B w us vb) :
    Calls Tryz.prog 12 #[va, vb] w fun e w' => e = .returned (.bool (G5.eqTs ts us)) ∧ Below w.heap.size w w' := by
  have H := hide (G5.sames_step2 ts us h1 h2 (fun i h3 h4 => G5.same_two _ _ (o1 _ (List.getElem_mem h3)) (o2 _ (List.getElem_mem h4))) B va vb w hB hK hK2)
  obtain ⟨a1, c1, rfl⟩ := G8.isK_len hK
  obtain ⟨a2, c2, rfl⟩ := G8.isK_len hK2
  generalize G5.eqTs ts us = R at *
  clear hK hK2 o1 o2 hB h1 h2
  go_enter Tryz.func12, Tryz.ntmps12
  go_wp2_with fail
  refine H.out.mono ?_
  rintro e x1 ⟨rfl, b1⟩
  go_wp2
  go_ret
  exact ⟨rfl, b1⟩
theorem isK_up9 {w W : World} {k : Nat} {ts : List (NT k)} {v : Value} (h : IsK (fun k => k < w.heap.size) w ts v) (hb : Below w.heap.size w W) : IsK (fun k => k < w.heap.size) W ts v := h.below (fun _ h => h) hb
theorem eq_self {k : Nat} (ts : List (NT k)) : G5.eqTs ts ts = true := G5.eqG_self _ _ fun x _ => G5.eqT_self x
theorem env_below {w W : World} (h : S4.Env w) (hb : Below w.heap.size w W) : S4.Env W := by
  obtain ⟨ho, m, hm⟩ := h
  exact ⟨ho.below hb, m, (hb.cell (S4.cell_lt hm)).trans hm⟩
theorem bool_self (b : Bool) : (b == b) = true := by simp
theorem int_self (z : Int) : (z == z) = true := by simp
theorem counts_any {m : Nat} (va : Value) (ta : List (NT m)) (vb : Value) (tb : List (NT m)) (w : World) (he : S4.Env w) (hKa : IsK (fun k => k < w.heap.size) w ta va) (hla : ta.length ≤ 9223372036854775807) (hoa : G5.OkTs ta) (hKb : IsK (fun k => k < w.heap.size) w tb vb) (hlb : tb.length ≤ 9223372036854775807) (hob : G5.OkTs tb) :
    Calls Tryz.prog 3 #[va, vb] w fun e w' => e = .returned (.bool true) ∧ Below w.heap.size w w' := by
  have HA := hide (fun (W : World) (hb : Below w.heap.size w W) => alive_p W (env_below he hb))
  have up := fun (W : World) (hb : Below w.heap.size w W) (j : Nat) (hj : j < w.heap.size) => Nat.lt_of_lt_of_le hj hb.size
  have HWa := hide (G5.few_any 40 (by decide) ta hla hoa (fun k => k < w.heap.size) va w 300 (by decide) (fun _ h => h) hKa)
  have HWb := hide (fun (W : World) (hb : Below w.heap.size w W) => G5.few_any 40 (by decide) tb hlb hob (fun k => k < w.heap.size) vb W 300 (by decide) (up W hb) (isK_up9 hKb hb))
  have HS1 := hide (fun (W : World) (hb : Below w.heap.size w W) => G8.same_all ta tb hla hlb hoa hob (fun k => k < w.heap.size) va vb W (up W hb) (isK_up9 hKa hb) (isK_up9 hKb hb))
  have HS2 := hide (fun (W : World) (hb : Below w.heap.size w W) => ref_same ta tb hla hlb hoa hob (fun k => k < w.heap.size) va vb W (up W hb) (isK_up9 hKa hb) (isK_up9 hKb hb))
  have hS3 := fun (W : World) (hb : Below w.heap.size w W) => G8.same_all ta ta hla hla hoa hoa (fun k => k < w.heap.size) va va W (up W hb) (isK_up9 hKa hb) (isK_up9 hKa hb)
  rw [eq_self] at hS3
  have HS3 := hide hS3
  have HM1 := hide (fun (W : World) (hb : Below w.heap.size w W) (hc : G5.countTs ta ≤ 1000000) => G8.manyP_any ta hc (fun k => k < w.heap.size) va W (up W hb) (isK_up9 hKa hb))
  have HM2 := hide (fun (W : World) (hb : Below w.heap.size w W) (hc : G5.countTs ta ≤ 1000000) => G5.many_any ta hc (fun k => k < w.heap.size) va W (up W hb) (isK_up9 hKa hb))
  have HD1 := hide (fun (W : World) (hb : Below w.heap.size w W) (hc : G5.countTs ta ≤ 1000000) => G8.deepP_any ta hc (fun k => k < w.heap.size) va W (up W hb) (isK_up9 hKa hb))
  have HD2 := hide (fun (W : World) (hb : Below w.heap.size w W) (hc : G5.countTs ta ≤ 1000000) => G5.deep_any ta hc (fun k => k < w.heap.size) va W (up W hb) (isK_up9 hKa hb))
  have HFC := hide (G5.few_count 40 300 ta)
  have hfl := G5.fewL_le 40 300 ta
  have hfl2 := G5.fewL_le 40 300 tb
  obtain ⟨a1, c1, rfl⟩ := G8.isK_len hKa
  obtain ⟨a2, c2, rfl⟩ := G8.isK_len hKb
  clear hKa hoa hKb hob he up hS3
  generalize G5.fewL 40 300 ta = Va at *
  generalize G5.fewL 40 300 tb = Vb at *
  go_enter Tryz.func3, Tryz.ntmps3
  go_wp2_with fail
  refine HWa.out.mono ?_
  rintro e w1 ⟨rfl, b1⟩
  by_cases hlt : Va < 300
  · have hlt2 : ¬ (300 : Int) ≤ Va := by omega
    have HCT : Hid (G5.countTs ta ≤ 1000000) := hide (by have := HFC.out hlt; omega)
    clear hlt
    go_wp2_with fail
    refine (HWb.out _ b1).mono ?_
    rintro e w2 ⟨rfl, b2⟩
    have B2 := b1.trans (b2.mono b1.size)
    clear b2
    by_cases hlt3 : Vb < 300
    · have hlt4 : ¬ (300 : Int) ≤ Vb := by omega
      clear hlt3
      have t1 := bool_self (G5.eqTs ta tb)
      have t2 := int_self (G5.countTs ta : Int)
      generalize G5.eqTs ta tb = R at *
      have hd : (G8.deepTs ta : Int) = (G5.deepTs ta : Int) := rfl
      have HM1' := fun W hb => HM1.out W hb HCT.out
      have HM2' := fun W hb => HM2.out W hb HCT.out
      have HD1' := fun W hb => HD1.out W hb HCT.out
      have HD2' := fun W hb => HD2.out W hb HCT.out
      rw [show G8.deepTs ta = G5.deepTs ta from rfl] at HD1'
      have HMa := hide HM1'
      have HMb := hide HM2'
      have HDa := hide HD1'
      have HDb := hide HD2'
      have t3 := int_self (G5.deepTs ta : Int)
      clear HM1 HM2 HD1 HD2 HM1' HM2' HD1' HD2' hd HCT
      generalize G5.countTs ta = N at *
      generalize G5.deepTs ta = D at *
      go_wp2_with fail
      refine (HA.out _ B2).mono ?_
      rintro e w3 ⟨rfl, b3⟩
      have B3 := B2.trans (b3.mono B2.size)
      clear b3 B2
      go_wp2_with fail
      refine (HS1.out _ B3).mono ?_
      rintro e w4 ⟨rfl, b4⟩
      have B4 := B3.trans (b4.mono B3.size)
      clear b4 B3
      go_wp2_with fail
      refine (HS2.out _ B4).mono ?_
      rintro e w5 ⟨rfl, b5⟩
      have B5 := B4.trans (b5.mono B4.size)
      clear b5 B4
      go_wp2_with fail
      refine (HS3.out _ B5).mono ?_
      rintro e w6 ⟨rfl, b6⟩
      have B6 := B5.trans (b6.mono B5.size)
      clear b6 B5
      go_wp2_with fail
      refine (HMa.out _ B6).mono ?_
      rintro e w7 ⟨rfl, b7⟩
      have B7 := B6.trans (b7.mono B6.size)
      clear b7 B6
      go_wp2_with fail
      refine (HMb.out _ B7).mono ?_
      rintro e w8 ⟨rfl, b8⟩
      have B8 := B7.trans (b8.mono B7.size)
      clear b8 B7
      go_wp2_with fail
      refine (HDa.out _ B8).mono ?_
      rintro e w9 ⟨rfl, b9⟩
      have B9 := B8.trans (b9.mono B8.size)
      clear b9 B8
      go_wp2_with fail
      refine (HDb.out _ B9).mono ?_
      rintro e wx ⟨rfl, bx⟩
      go_wp2
      go_ret
      exact ⟨by simp, B9.trans (bx.mono B9.size)⟩
    · have hlt4 : (300 : Int) ≤ Vb := by omega
      clear hlt3
      go_wp2_with fail
      refine (HA.out _ B2).mono ?_
      rintro e w3 ⟨rfl, b3⟩
      go_wp2
      go_ret
      exact ⟨rfl, B2.trans (b3.mono B2.size)⟩
  · have hlt2 : (300 : Int) ≤ Va := by omega
    clear hlt
    go_wp2_with fail
    refine (HA.out _ b1).mono ?_
    rintro e w2 ⟨rfl, b2⟩
    go_wp2
    go_ret
    exact ⟨rfl, b1.trans (b2.mono b1.size)⟩
end Go.Proofs.YtpppdfjdngmaoaaGreatDoor
