/- The walks of CellCut and CellDecode. -/
import Derived.Test.YtbodbomebmkopaaLa16
set_option linter.unusedVariables false
set_option linter.unusedSimpArgs false
set_option maxRecDepth 40000
namespace Go.Proofs.Ytbodbomebmkopaa
open Go.RowKit

theorem u64_is {z : Int} (h : (Lit.int .u64 z).wf = true) : ∃ Z : Nat, z = (Z : Int) ∧ Z < 18446744073709551616 := by
  have h2 : 0 ≤ z ∧ z ≤ 18446744073709551615 := by
    have h1 : IntKind.u64.min ≤ z ∧ z ≤ IntKind.u64.max := by simpa [Lit.wf] using h
    have e1 : IntKind.u64.min = 0 := by decide
    have e2 : IntKind.u64.max = 18446744073709551615 := by decide
    rw [e1, e2] at h1
    exact h1
  exact ⟨z.toNat, by omega, by omega⟩
theorem cut_len (b : Bs) (e l : Nat) : (cutC b e l).length ≤ b.length := by
  unfold cutC
  split
  · simp
  · have h4 := congrArg List.length (cells_data e l ((b.length + 38) / 39 : Nat) 0 (piecesF b.length b))
    rw [List.length_map] at h4
    rw [h4, pieces_len _ _ (by omega)]
    omega
theorem vs_len {vs : List (CL × Value)} {cs : List CL} (h : vs.map Prod.fst = cs) : vs.length = cs.length := by rw [← h, List.length_map]
set_option maxHeartbeats 4000000 in
theorem cellCut_walk (v : Value) (b : Bs) (e : Int) (he : (Lit.int .u64 e).wf = true) (l : Int) (hl : (Lit.int .u64 l).wf = true) (w : World) (hY : IsY w v b) (hYl : b.length ≤ 9223372036854775807) :
    Calls Try.prog 5 #[v, .int .u64 e, .int .u64 l] w fun e w' => e = .returned (.bool true) ∧ Below w.heap.size w w' := by
  obtain ⟨a, c, rfl⟩ := hY.form
  obtain ⟨E, rfl, hE⟩ := u64_is he
  obtain ⟨L, rfl, hL⟩ := u64_is hl
  have HAL := hide alive_any
  by_cases h3 : 300 < b.length
  · have h4 : (300 : Int) < (b.length : Int) := by omega
    clear hY he hl
    generalize b.length = n at *
    go_enter Try.func5, Try.ntmps5
    go_wp2_with fail
    refine (HAL.out _).mono ?_
    rintro e w1 ⟨rfl, hb⟩
    have HB := hide hb
    clear hb
    go_wp2
    go_ret
    exact ⟨rfl, HB.out⟩
  · have h4 : ¬ (300 : Int) < (b.length : Int) := by omega
    have HC : Hid (∀ x, Below w.heap.size w x → Calls Try.prog 16 #[.slice a b.length c, .int .u64 (E : Int), .int .u64 (L : Int)] x fun e y => ∃ va vn vc vs, e = .returned (.slice va vn vc) ∧ Hid (Below w.heap.size w y) ∧ Hid (IsL y (.slice va vn vc) vs ∧ vs.map Prod.fst = cutC b E L)) := hide (fun x hx => (pcut_any _ b E L x (hY.below hx) (by omega) hE hL).mono (by
      rintro e y ⟨u, vs, rfl, hI, hm, hb⟩
      obtain ⟨va, vc, rfl⟩ := hI.form
      exact ⟨va, _, vc, vs, rfl, hide (hx.trans (hb.mono hx.size)), hide ⟨hI, hm⟩⟩))
    have HD : Hid (∀ x, Below w.heap.size w x → Calls Try.prog 17 #[.slice a b.length c, .int .u64 (E : Int), .int .u64 (L : Int)] x fun e y => ∃ va vn vc vs, e = .returned (.slice va vn vc) ∧ Hid (Below x.heap.size x y) ∧ Hid (IsL y (.slice va vn vc) vs ∧ vs.map Prod.fst = cutC b E L)) := hide (fun x hx => (rcut_any _ b E L x (hY.below hx) (by omega) hE hL).mono (by
      rintro e y ⟨u, vs, rfl, hI, hm, hb⟩
      obtain ⟨va, vc, rfl⟩ := hI.form
      exact ⟨va, _, vc, vs, rfl, hide hb, hide ⟨hI, hm⟩⟩))
    have HCL := hide (cut_len b E L)
    clear hY he hl
    generalize b.length = n at *
    go_enter Try.func5, Try.ntmps5
    go_wp2_with fail
    refine (HAL.out _).mono ?_
    rintro e w1 ⟨rfl, hb1⟩
    have HC1 := hide (HC.out w1 hb1)
    clear hb1
    go_wp2_with fail
    refine HC1.out.mono ?_
    rintro e w2 ⟨va, vn, vc, vs, rfl, HB2, HV⟩
    have HD1 := hide (HD.out w2 HB2.out)
    clear HC1
    go_wp2_with fail
    refine HD1.out.mono ?_
    rintro e w3 ⟨ua, un, uc, us, rfl, HB3, HU⟩
    have hB3 := HB3.out
    have HB30 := hide (HB2.out.trans (hB3.mono HB2.out.size))
    have hcl := HCL.out
    have HS := hide (rsames_any vs us _ _ w3 (HV.out.1.below hB3) HU.out.1 (by rw [vs_len HV.out.2]; omega) (by rw [vs_len HU.out.2]; omega))
    rw [HV.out.2, HU.out.2, samesC_iff.2 rfl] at HS
    clear HD1 hB3 HB2 HB3 HV HU hcl
    go_wp2_with fail
    refine HS.out.mono ?_
    rintro e w4 ⟨rfl, hb4⟩
    have HB4 := hide (HB30.out.trans (hb4.mono HB30.out.size))
    clear hb4
    go_wp2
    go_ret
    exact ⟨rfl, HB4.out⟩
/-- Cells told by the program, or by the document's answer. -/
theorem pdec_told {b : Bs} {e : Ending} {w w' : World} (h : PDecR w b e w') : ∃ c a k, e = .returned (.tuple #[clA c (.slice a c.data.length k), .int .i64 (if decC b = none then 8 else 0)]) ∧ c = (decC b).getD zeroC ∧ IsC w' c (.slice a c.data.length k) ∧ Below w.heap.size w w' := by
  obtain ⟨hb, ⟨hd, a, k, rfl⟩ | ⟨c, a, k, hd, rfl, hc⟩⟩ := h
  · exact ⟨zeroC, a, k, by rw [if_pos hd]; rfl, by rw [hd]; rfl, ⟨by decide, by decide, by decide, by decide, .inl ⟨rfl, a, k, rfl⟩⟩, hb⟩
  · exact ⟨c, a, k, by rw [if_neg (by rw [hd]; intro e; cases e)], by rw [hd]; rfl, hc, hb⟩
theorem rdec_told {b : Bs} {e : Ending} {w w' : World} (h : DecR w b e w') : ∃ c a k, e = .returned (.tuple #[clA c (.slice a c.data.length k), .int .i64 (if decC b = none then 8 else 0)]) ∧ c = (decC b).getD zeroC ∧ IsC w' c (.slice a c.data.length k) ∧ Below w.heap.size w w' := by
  obtain ⟨hb, ⟨hd, rfl⟩ | ⟨c, dv, hd, rfl, ho⟩⟩ := h
  · exact ⟨zeroC, none, 0, by rw [if_pos hd]; rfl, by rw [hd]; rfl, ⟨by decide, by decide, by decide, by decide, .inl ⟨rfl, _, _, rfl⟩⟩, hb⟩
  · obtain ⟨a, k, rfl⟩ := owns_formY ho
    obtain ⟨hlen, hm, he, hrd⟩ := enc_dec hd
    have h1 : c.ep < 18446744073709551616 := by rw [hrd]; exact num_eight _ (by rw [List.length_take]; omega)
    have h2 : c.li < 18446744073709551616 := by rw [hrd]; exact num_eight _ (by rw [List.length_take]; omega)
    obtain ⟨m1, m2, m3, m4⟩ := hm
    exact ⟨c, a, k, by rw [if_neg (by rw [hd]; intro e; cases e)], by rw [hd]; rfl, ⟨h1, h2, by omega, by omega, owns_isY ho⟩, hb⟩
set_option maxHeartbeats 4000000 in
theorem cellDecode_walk (v : Value) (b : Bs) (w : World) (hY : IsY w v b) (hYl : b.length ≤ 9223372036854775807) :
    Calls Try.prog 4 #[v] w fun e w' => e = .returned (.bool true) ∧ Below w.heap.size w w' := by
  obtain ⟨a, c, rfl⟩ := hY.form
  have HAL := hide alive_any
  by_cases h3 : 300 < b.length
  · have h4 : (300 : Int) < (b.length : Int) := by omega
    clear hY
    generalize b.length = n at *
    go_enter Try.func4, Try.ntmps4
    go_wp2_with fail
    refine (HAL.out _).mono ?_
    rintro e w1 ⟨rfl, hb⟩
    have HB := hide hb
    clear hb
    go_wp2
    go_ret
    exact ⟨rfl, HB.out⟩
  · have h4 : ¬ (300 : Int) < (b.length : Int) := by omega
    have HP := hide (pdec_any _ b w hY (by omega))
    have HD := hide (fun x (hx : Below w.heap.size w x) => rdec_any _ b x (hY.below hx) (by omega))
    clear hY
    generalize b.length = n at *
    go_enter Try.func4, Try.ntmps4
    go_wp2_with fail
    refine HP.out.mono ?_
    intro e w1 hp
    obtain ⟨c1, a1, k1, rfl, hc1, hi1, hb1⟩ := pdec_told hp
    have HC1 := hide hc1
    clear hp HP hc1
    obtain ⟨E, hE⟩ : ∃ E : Int, (if decC b = none then (8 : Int) else 0) = E := ⟨_, rfl⟩
    rw [hE]
    have HEE := hide hE
    clear hE
    have hB1 : Below w.heap.size w (clW w1 c1 (.slice a1 c1.data.length k1)) := hb1.trans ((below_alloc w1 _).mono hb1.size)
    have HD1 := hide (HD.out _ hB1)
    have HI1 := hide hi1
    have HB1 := hide hb1
    have HBB1 := hide hB1
    clear hi1 hb1 hB1
    go_wp2_with fail
    refine HD1.out.mono ?_
    intro e w2 hp
    obtain ⟨c2, a2, k2, rfl, hc2, hi2, hb2⟩ := rdec_told hp
    rw [HEE.out]
    have hcc : c2 = c1 := hc2.trans HC1.out.symm
    subst hcc
    obtain ⟨q1, q2⟩ := cl_box w1 c2 (.slice a1 c2.data.length k1) hb2
    have HI2 := hide (hi2.below (below_alloc w2 (.cells (clC c2 (.slice a2 c2.data.length k2)) 25)))
    have HI1' := hide ((HI1.out.below q2).below (below_alloc w2 (.cells (clC c2 (.slice a2 c2.data.length k2)) 25)))
    have hB2 : Below w.heap.size w (clW w2 c2 (.slice a2 c2.data.length k2)) := (HB1.out.trans (q2.mono HB1.out.size)).trans ((below_alloc w2 _).mono (HB1.out.trans (q2.mono HB1.out.size)).size)
    have HB2 := hide hB2
    have HQ : Hid (∀ x, Below (clW w2 c2 (.slice a2 c2.data.length k2)).heap.size (clW w2 c2 (.slice a2 c2.data.length k2)) x → x.heap[w1.heap.size]? = some (.cells (clC c2 (.slice a1 c2.data.length k1)) 25 (0, 0)) ∧ x.heap[w2.heap.size]? = some (.cells (clC c2 (.slice a2 c2.data.length k2)) 25 (0, 0)) ∧ IsC x c2 (.slice a1 c2.data.length k1) ∧ IsC x c2 (.slice a2 c2.data.length k2) ∧ Below w.heap.size w x) := hide (fun x hx => by
      have r1 := cl_box w2 c2 (.slice a2 c2.data.length k2) hx
      have hlt : w1.heap.size < w2.heap.size := (Array.getElem?_eq_some_iff.1 q1).1
      exact ⟨(r1.2.block _ hlt).trans q1, r1.1, (HI1.out.below q2).below r1.2, hi2.below r1.2, hB2.trans (hx.mono hB2.size)⟩)
    clear hp HD1 hc2 HC1 HEE hi2 hb2 q1 q2 hB2 HI1 HI1' HI2 HB1 HBB1 HD
    go_wp2_with fail
    refine (HAL.out _).mono ?_
    rintro e w3 ⟨rfl, hb3⟩
    obtain ⟨z1, z2, z3, z4, z5⟩ := HQ.out w3 hb3
    obtain ⟨x0, x1, x2, x3, x4⟩ := cl_cells z1
    obtain ⟨y0, y1, y2, y3, y4⟩ := cl_cells z2
    have HS := hide (rsame_any c2 c2 _ _ w3 z3 z4)
    rw [sameC_iff.2 rfl] at HS
    have HB5 := hide z5
    clear z1 z2 z3 z4 z5 hb3 HQ HB2
    obtain ⟨ep, li, part, of, data⟩ := c2
    simp only [] at *
    generalize data.length = dl at *
    go_wp2_with fail
    refine HS.out.mono ?_
    rintro e w4 ⟨rfl, hb4⟩
    have HB4 := hide (HB5.out.trans (hb4.mono HB5.out.size))
    clear hb4
    go_wp2
    go_ret
    exact ⟨rfl, HB4.out⟩
end Go.Proofs.Ytbodbomebmkopaa
